/-
  Contracts of package hist: fits, Add, Of, Total, Used; a copy of a list of numbers.
-/
import Derived.Test.YtgmfjgiakgoofaaBookInts1
import Derived.Test.YtgmfjgiakgoofaaHistMath
namespace Go.Proofs.Ytgmfjgiakgoofaa
open Go.ChangeShapes Go.WideShapes Go.ChangeAt Go.RowKit

theorem own_none (w : World) (B : Nat) (e : TypeId) (hB : B ≤ w.heap.size) : (w.alloc (.cells #[] e)).ownsRow B e 1 (.slice (some ⟨w.heap.size, 0, none⟩) 0 0) 0 [] :=
  ⟨rfl, .inr ⟨w.heap.size, 0, #[], rfl, hB, heap_alloc_new w _, Nat.le_refl _, by decide, rfl, rfl⟩⟩

theorem fits_any (x : Int) (w : World) : Calls Try.prog 17 #[.int .i64 x] w fun e w' => e = .returned (.bool (decide (0 ≤ x ∧ x ≤ 356))) ∧ w' = w := by
  by_cases h0 : 0 ≤ x
  · have hd : decide (0 ≤ x) = true := decide_eq_true h0
    have hr : decide (0 ≤ x ∧ x ≤ 356) = decide (x ≤ 356) := decide_eq_decide.2 ⟨fun h => h.2, fun h => ⟨h0, h⟩⟩
    rw [hr]
    go_enter Try.func17, Try.ntmps17
    go_wp2
    go_ret
    exact ⟨rfl, rfl⟩
  · have hd : decide (0 ≤ x) = false := decide_eq_false h0
    have hr : decide (0 ≤ x ∧ x ≤ 356) = false := decide_eq_false (fun h => h0 h.1)
    rw [hr]
    go_enter Try.func17, Try.ntmps17
    go_wp2
    go_ret
    exact ⟨rfl, rfl⟩

@[go_sem] theorem nilI_none (w : World) (c : Nat) : (binOp .eql 22 (.slice none 0 c) (.slice none 0 0)).run Try.prog w = .ok (.bool true) w := by kernel_rfl

@[go_sem] theorem nilI_some (w : World) (ad : Addr) (n c : Nat) : (binOp .eql 22 (.slice (some ad) n c) (.slice none 0 0)).run Try.prog w = .ok (.bool false) w := by kernel_rfl

set_option maxRecDepth 20000 in
set_option maxHeartbeats 2000000 in
theorem cloneI_any {w : World} {v : Value} {xs : List Int} (hv : Reads w v (nats xs)) (hx : xs.length ≤ 1000000) :
    Calls Try.prog 18 #[v] w fun e w' => ∃ v', e = .returned v' ∧ w'.ownsRow w.heap.size 3 1 v' xs.length (nats xs) ∧ Below w.heap.size w w' := by
  obtain ⟨i0, hi, hz0, hz1, hz2⟩ := info_parts Try.infoInt
  obtain ⟨a, c, rfl, hr⟩ := id hv
  rw [nats_length] at *
  have hl := nats_length xs
  cases a with
  | none =>
    have h0 : xs.length = 0 := by
      rcases hr with h | ⟨_, _, h, _⟩
      · exact h
      · cases h
    have hn : xs = [] := List.eq_nil_of_length_eq_zero h0
    subst hn
    go_enter Try.func18, Try.ntmps18
    go_wp2
    go_ret
    exact ⟨_, rfl, World.ownsRow_nil _ _ _ _, Below.refl _ _⟩
  | some ad =>
    clear hr
    go_enter Try.func18, Try.ntmps18
    go_wp2_with (at_builtin; refine wpList_append_reads _ rfl (.tmp 5) (.tmp 6) 22 rfl w.heap.size 3 i0 (.int .i64 0) 8 Try.underlying22 hi hz0 hz1 hz2 rfl (.slice (some ⟨w.heap.size, 0, none⟩) 0 0) 0 [] rfl (own_none w _ _ (Nat.le_refl _)) _ (nats xs) rfl (hv.below ((Below.refl _ _).alloc (Nat.le_refl _) _)) (nats_one xs) (by unfold maxLen; omega) (by omega) (by simp) ?_; intro v' w1 hown hgrow hat hold)
    go_ret
    rw [List.nil_append, hl, Nat.zero_add] at hown
    exact ⟨_, rfl, hown, ((Below.refl _ _).alloc (Nat.le_refl _) _).grown hgrow (by simp) (fun k hk => by simp [Value.ownBlock] at hk; omega)⟩

/-- What comes of counting: may that be, and which counts. -/
def addH (n : Nat) (xs ys : List Int) : List Int := if inH n ys then natI (cntH n (xs ++ ys)) else []
def addE (n : Nat) (ys : List Int) : Int := if inH n ys then 0 else 9
theorem addH_in {n : Nat} {xs ys : List Int} (h : inH n ys) : addH n xs ys = natI (cntH n (xs ++ ys)) := if_pos h
theorem addH_out {n : Nat} {xs ys : List Int} (h : ¬ inH n ys) : addH n xs ys = [] := if_neg h
theorem addE_in {n : Nat} {ys : List Int} (h : inH n ys) : addE n ys = 0 := if_pos h
theorem addE_out {n : Nat} {ys : List Int} (h : ¬ inH n ys) : addE n ys = 9 := if_neg h
theorem natH_length (n : Nat) (xs : List Int) : (natI (cntH n xs)).length = n := by rw [natI_length, cntH_length]

set_option maxRecDepth 20000 in
set_option maxHeartbeats 4000000 in
theorem add_any {w : World} {v u : Value} {n : Nat} {xs ys : List Int} (hv : Reads w v (nats (natI (cntH n xs)))) (hu : Reads w u (nats ys)) (hn : n ≤ 356) (hx : xs.length + ys.length ≤ 100000) :
    Calls Try.prog 10 #[v, u] w fun e w' => ∃ v', e = .returned (.tuple #[v', .int .i64 (addE n ys)]) ∧ w'.ownsRow w.heap.size 3 1 v' (addH n xs ys).length (nats (addH n xs ys)) ∧ Below w.heap.size w w' := by
  obtain ⟨av, cv, rfl, _⟩ := id hv
  obtain ⟨au, cu, rfl, hru⟩ := hu
  rw [nats_length, natH_length] at *
  rw [nats_length] at *
  obtain ⟨N, hN⟩ : ∃ N, N = ys.length := ⟨_, rfl⟩
  rw [← hN] at hru hx ⊢
  have HN := hid hN
  have HV := hid hv
  have HU := hid hru
  clear hN hv hru
  have hfit : decide ((0 : Int) ≤ (n : Int) ∧ (n : Int) ≤ 356) = true := decide_eq_true (by omega)
  have hlx : Hid ((natI (cntH n xs)).length ≤ 1000000) := by show _ ≤ _; rw [natH_length]; omega
  go_enter Try.func10, Try.ntmps10
  go_wp2_with (first
    | (go_at_call 17; refine (fits_any _ _).mono ?_; rintro e w ⟨rfl, rfl⟩; rw [hfit])
    | (go_at_call 18; refine (cloneI_any HV.out hlx.out).mono ?_; rintro e w1 ⟨vs, rfl, ho1, hb1⟩; rw [natH_length] at ho1; obtain ⟨ab, cb, rfl⟩ := ownsRow_slice ho1; have HO1 := hid ho1; have HB1 := hid hb1; clear ho1 hb1))
  have hz1 := HB1.out.size
  go_loopw [17] (fun vi wr => ∃ i : Nat, vi = .int .i64 i ∧ i ≤ N ∧ Hid (inH n (ys.take i)) ∧ Hid (wr.ownsRow w.heap.size 3 1 (.slice ab n cb) n (nats (natI (cntH n (xs ++ ys.take i))))) ∧ Hid (Below w.heap.size w wr)) (fun vi _ => N - (intOf vi).toNat)
  case atStart => exact ⟨0, rfl, by omega, inH_nil n, by show World.ownsRow _ _ _ _ _ _ _; rw [List.take_zero, List.append_nil]; exact HO1.out, HB1.out⟩
  case round =>
    clear HO1 HB1 hz1
    obtain ⟨i, rfl, hi, hin, ho, hbl⟩ := hrel
    by_cases hlt : i < N
    · rcases HU.out with h | ⟨gb, o, rfl, hgb, hcell⟩
      · omega
      have hiL : i < ys.length := by rw [← HN.out]; exact hlt
      have hcb := keeps hbl.out _ _ ((hcell i hlt).trans (nats_at ys i hiL))
      have hxi : (decide ((0 : Int) ≤ (i : Int) ∧ (i : Int) < (N : Int))) = true := decide_eq_true ⟨by omega, by omega⟩
      obtain ⟨t, hte⟩ : ∃ t, t = ys[i]'hiL := ⟨_, rfl⟩
      rw [← hte] at hcb
      have HT := hid hte
      clear hcell hte
      by_cases ht : 0 ≤ t ∧ t < (n : Int)
      · obtain ⟨k, rfl⟩ : ∃ k : Nat, t = (k : Int) := ⟨t.toNat, by omega⟩
        have hk : k < n := by omega
        have hd1 : decide ((n : Int) ≤ (k : Int)) = false := decide_eq_false (by omega)
        have hxk : (decide ((0 : Int) ≤ (k : Int) ∧ (k : Int) < (n : Int))) = true := decide_eq_true ⟨by omega, by omega⟩
        obtain ⟨g, cap, hform, hg1, hg2⟩ := ho.out.form (by omega)
        simp only [Value.slice.injEq, true_and] at hform
        obtain ⟨rfl, rfl⟩ := hform
        have hck : k < (cntH n (xs ++ ys.take i)).length := by rw [cntH_length]; exact hk
        have ck : wr.cell? ⟨g, k, none⟩ = some (.int .i64 (((xs ++ ys.take i).count (k : Int) : Nat) : Int)) := by
          rw [ho.out.cellAt k (by omega), nats_at _ k (by rw [natI_length]; exact hck), natI_at _ k hck, cntH_at n _ k hk]
        have fk := ho.out.frozenAt k
        obtain ⟨c, hc⟩ : ∃ c, c = (xs ++ ys.take i).count (k : Int) := ⟨_, rfl⟩
        have hc1 : c ≤ 100000 := by
          rw [hc]
          refine Nat.le_trans List.count_le_length ?_
          rw [List.length_append, List.length_take]
          omega
        rw [← hc] at ck
        have HO2 := hid (ho.out.stored k (.int .i64 ((c + 1 : Nat) : Int))).1
        have HB2 := hid (hbl.out.setCell (p := ⟨g, k, none⟩) hg1 (.int .i64 ((c + 1 : Nat) : Int)))
        have HC := hid hc
        have HWR : Hid ((c : Int) + 1 = ((c + 1 : Nat) : Int)) := by show _ = _; omega
        clear hc hck
        go_wp2
        all_goals go_roundw
        case rel =>
          refine ⟨i + 1, by go_num, by omega, (inH_take_succ n ys i hiL).2 ⟨hin.out, by rw [← HT.out]; exact ht⟩, ?_, ?_⟩
          · show World.ownsRow _ _ _ _ _ _ _
            have e1 : nats (natI (cntH n (xs ++ ys.take (i + 1)))) = (nats (natI (cntH n (xs ++ ys.take i)))).set k (.int .i64 ((c + 1 : Nat) : Int)) := by
              rw [List.take_succ_eq_append_getElem hiL, ← HT.out, ← List.append_assoc, cntH_snoc, ← natI_set, nats, nats, List.map_set, ← HC.out]
            rw [e1]
            rw [HWR.out]; exact HO2.out
          · show Below _ _ _; rw [HWR.out]; exact HB2.out
        case measure => simp [intOf]; omega
      · have HE := hid (not_inH n ys i hiL (by rw [← HT.out]; exact ht))
        by_cases h0 : t < 0
        · have hd0 : decide (t < 0) = true := decide_eq_true h0
          go_wp2
          all_goals refine bodyPost_ret (v := .tuple #[.slice none 0 0, .int .i64 9]) (by simp [results, Try.results10, go_sem]) rfl ⟨_, by rw [addE_out HE.out], by rw [addH_out HE.out]; exact World.ownsRow_nil _ _ _ _, hbl.out⟩
        · have hd0 : decide (t < 0) = false := decide_eq_false h0
          have hd1 : decide ((n : Int) ≤ t) = true := decide_eq_true (by omega)
          go_wp2
          all_goals refine bodyPost_ret (v := .tuple #[.slice none 0 0, .int .i64 9]) (by simp [results, Try.results10, go_sem]) rfl ⟨_, by rw [addE_out HE.out], by rw [addH_out HE.out]; exact World.ownsRow_nil _ _ _ _, hbl.out⟩
    · obtain rfl : i = N := by omega
      have e1 := hin.out
      have e2 := ho.out
      rw [List.take_of_length_le (by rw [← HN.out]; exact Nat.le_refl _)] at e1 e2
      have HO2 := hid e2
      have HE := hid e1
      clear e2 e1
      go_wp2
      refine bodyPost_ret (v := .tuple #[.slice ab n cb, .int .i64 0]) (by simp [results, Try.results10, go_sem]) rfl ⟨_, by rw [addE_in HE.out], by rw [addH_in HE.out, natH_length]; exact HO2.out, hbl.out⟩

/-- What Of answers. -/
def ofL (s : Int) (ys : List Int) : List Int := if 0 ≤ s ∧ s ≤ 356 then addH s.toNat [] ys else []
def ofE (s : Int) (ys : List Int) : Int := if 0 ≤ s ∧ s ≤ 356 then addE s.toNat ys else 1
theorem ofL_fits {n : Nat} (ys : List Int) (h : n ≤ 356) : ofL (n : Int) ys = addH n [] ys := by unfold ofL; rw [if_pos ⟨by omega, by omega⟩, Int.toNat_natCast]
theorem ofE_fits {n : Nat} (ys : List Int) (h : n ≤ 356) : ofE (n : Int) ys = addE n ys := by unfold ofE; rw [if_pos ⟨by omega, by omega⟩, Int.toNat_natCast]
theorem ofL_no {s : Int} (ys : List Int) (h : ¬ (0 ≤ s ∧ s ≤ 356)) : ofL s ys = [] := if_neg h
theorem ofE_no {s : Int} (ys : List Int) (h : ¬ (0 ≤ s ∧ s ≤ 356)) : ofE s ys = 1 := if_neg h

theorem made_row (w : World) (n : Nat) (hn : n ≤ 100000) : (w.alloc (.cells (madeCells #[.int .i64 0] n) 3)).ownsRow w.heap.size 3 1 (.slice (some ⟨w.heap.size, 0, none⟩) n n) n (nats (natI (cntH n []))) := by
  have e : nats (natI (cntH n [])) = List.replicate n (.int .i64 0) := by
    rw [cntH_nil, natI, List.map_replicate, nats, List.map_replicate]
    rfl
  rw [e]
  refine ⟨by simp, .inr ⟨w.heap.size, n, madeCells #[.int .i64 0] n, rfl, Nat.le_refl _, heap_alloc_new w _, Nat.le_refl _, by unfold maxLen; omega, by rw [size_madeCells, Nat.mul_one], ?_⟩⟩
  rw [toList_madeCells_one, List.take_replicate, Nat.mul_one, Nat.min_self]

set_option maxRecDepth 20000 in
set_option maxHeartbeats 4000000 in
theorem of_any {w : World} {u : Value} {ys : List Int} (s : Int) (hu : Reads w u (nats ys)) (hx : ys.length ≤ 100000) :
    Calls Try.prog 8 #[.int .i64 s, u] w fun e w' => ∃ v', e = .returned (.tuple #[v', .int .i64 (ofE s ys)]) ∧ w'.ownsRow w.heap.size 3 1 v' (ofL s ys).length (nats (ofL s ys)) ∧ Below w.heap.size w w' := by
  have HU := hid hu
  clear hu
  by_cases hs : 0 ≤ s ∧ s ≤ 356
  · obtain ⟨n, rfl⟩ : ∃ n : Nat, s = (n : Int) := ⟨s.toNat, by omega⟩
    have hn : n ≤ 356 := by omega
    have HN : Hid (n ≤ 356) := hn
    have hfit : decide ((0 : Int) ≤ (n : Int) ∧ (n : Int) ≤ 356) = true := decide_eq_true hs
    rw [ofL_fits ys hn, ofE_fits ys hn]
    have hmk := run_make_row' (P := Try.prog) 22 3 (.int .i64 0) 8 Try.underlying22 Try.infoInt rfl .i64 .i64 n (by omega) (by omega)
    have hal : Below w.heap.size w (w.alloc (.cells (madeCells #[.int .i64 0] n) 3)) := (Below.refl _ _).alloc (Nat.le_refl _) _
    have HA := hid hal
    have HR := hid (ownsRow_reads (made_row w n (by omega)))
    clear hal hs
    go_enter Try.func8, Try.ntmps8
    go_wp2_with (first
      | (go_at_call 17; refine (fits_any _ _).mono ?_; rintro e w ⟨rfl, rfl⟩; rw [hfit])
      | (go_at_call 10; refine (add_any (xs := []) HR.out (HU.out.below HA.out) HN.out (by simpa using hx)).mono ?_; rintro e w3 ⟨v3, rfl, ho3, hb3⟩; have HO3 := hid ho3; have HB3 := hid hb3; clear ho3 hb3))
    all_goals refine bodyPost_ret (v := .tuple #[v3, .int .i64 (addE n ys)]) (by simp [results, Try.results8, go_sem]) rfl ⟨_, rfl, ?_, below_more HA.out HB3.out⟩
    all_goals exact ownsRow_lower HO3.out (HA.out.size)
  · have hfit : decide (0 ≤ s ∧ s ≤ 356) = false := decide_eq_false hs
    rw [ofL_no ys hs, ofE_no ys hs]
    clear hs
    go_enter Try.func8, Try.ntmps8
    go_wp2_with (go_at_call 17; refine (fits_any _ _).mono ?_; rintro e w ⟨rfl, rfl⟩; rw [hfit])
    all_goals refine bodyPost_ret (v := .tuple #[.slice none 0 0, .int .i64 1]) (by simp [results, Try.results8, go_sem]) rfl ⟨_, rfl, World.ownsRow_nil _ _ _ _, Below.refl _ _⟩

set_option maxRecDepth 20000 in
set_option maxHeartbeats 2000000 in
theorem total_any {w : World} {v : Value} {l : List Nat} (hv : Reads w v (nats (natI l))) (hl : l.length ≤ 1000000) (hs : l.sum ≤ 1000000000) :
    Calls Try.prog 13 #[v] w fun e w' => e = .returned (.int .i64 (l.sum : Int)) ∧ w' = w := by
  obtain ⟨a, c, rfl, hr⟩ := hv
  rw [nats_length, natI_length] at *
  obtain ⟨n, hn⟩ : ∃ n, n = l.length := ⟨_, rfl⟩
  obtain ⟨S, hS⟩ : ∃ S, S = l.sum := ⟨_, rfl⟩
  rw [← hn] at hr hl ⊢
  rw [← hS] at hs ⊢
  have HR := hid hr
  have HN := hid hn
  have HS := hid hS
  clear hr hn hS
  go_enter Try.func13, Try.ntmps13
  go_wp2
  go_loopw [3, 8] (fun t vi wr => ∃ i q : Nat, vi = .int .i64 i ∧ t = .int .i64 q ∧ i ≤ n ∧ q ≤ S ∧ Hid (q = (l.take i).sum) ∧ wr = w) (fun _ vi _ => n - (intOf vi).toNat)
  case atStart => exact ⟨0, 0, rfl, rfl, by omega, by omega, rfl, rfl⟩
  case round =>
    obtain ⟨i, q, rfl, rfl, hi, hq, hqe, rfl⟩ := hrel
    by_cases hlt : i < n
    · rcases HR.out with h | ⟨gb, o, rfl, hgb, hcell⟩
      · omega
      have hiL : i < l.length := by rw [← HN.out]; exact hlt
      have hcb := (hcell i hlt).trans ((nats_at _ i (by rw [natI_length]; exact hiL)).trans (by rw [natI_at l i hiL]))
      have hxi : (decide ((0 : Int) ≤ (i : Int) ∧ (i : Int) < (n : Int))) = true := decide_eq_true ⟨by omega, by omega⟩
      have hsum : (l.take (i + 1)).sum = (l.take i).sum + l[i]'hiL := by rw [List.take_succ_eq_append_getElem hiL, List.sum_append]; simp
      have hle : (l.take (i + 1)).sum ≤ S := by
        rw [HS.out]
        conv => rhs; rw [← List.take_append_drop (i + 1) l, List.sum_append]
        omega
      obtain ⟨d, hd⟩ : ∃ d, d = l[i]'hiL := ⟨_, rfl⟩
      rw [← hd] at hcb hsum
      have hqd : q + d ≤ S := by have := hqe.out; omega
      have HSUM := hid hsum
      clear hcell hd hsum hle
      go_wp2
      all_goals go_roundw
      case rel => exact ⟨i + 1, q + d, by go_num, by go_num, by omega, by omega, by show _ = _; rw [HSUM.out, hqe.out], by first | rfl | trivial⟩
      case measure => simp [intOf]; omega
    · obtain rfl : i = n := by omega
      have he : q = S := by
        rw [hqe.out, HS.out, List.take_of_length_le (by rw [← HN.out]; exact Nat.le_refl _)]
      subst he
      go_wp2
      go_ret
      exact ⟨rfl, rfl⟩

set_option maxRecDepth 20000 in
set_option maxHeartbeats 2000000 in
theorem used_any {w : World} {v : Value} {l : List Nat} (hv : Reads w v (nats (natI l))) (hl : l.length ≤ 1000000) :
    Calls Try.prog 14 #[v] w fun e w' => e = .returned (.int .i64 (useH l : Int)) ∧ w' = w := by
  obtain ⟨a, c, rfl, hr⟩ := hv
  rw [nats_length, natI_length] at *
  obtain ⟨n, hn⟩ : ∃ n, n = l.length := ⟨_, rfl⟩
  obtain ⟨S, hS⟩ : ∃ S, S = useH l := ⟨_, rfl⟩
  rw [← hn] at hr hl ⊢
  rw [← hS]
  have HR := hid hr
  have HN := hid hn
  have HS := hid hS
  clear hr hn hS
  go_enter Try.func14, Try.ntmps14
  go_wp2
  go_loopw [3, 8] (fun t vi wr => ∃ i q : Nat, vi = .int .i64 i ∧ t = .int .i64 q ∧ i ≤ n ∧ q ≤ i ∧ Hid (q = useH (l.take i)) ∧ wr = w) (fun _ vi _ => n - (intOf vi).toNat)
  case atStart => exact ⟨0, 0, rfl, rfl, by omega, by omega, rfl, rfl⟩
  case round =>
    obtain ⟨i, q, rfl, rfl, hi, hq, hqe, rfl⟩ := hrel
    by_cases hlt : i < n
    · rcases HR.out with h | ⟨gb, o, rfl, hgb, hcell⟩
      · omega
      have hiL : i < l.length := by rw [← HN.out]; exact hlt
      have hcb := (hcell i hlt).trans ((nats_at _ i (by rw [natI_length]; exact hiL)).trans (by rw [natI_at l i hiL]))
      have hxi : (decide ((0 : Int) ≤ (i : Int) ∧ (i : Int) < (n : Int))) = true := decide_eq_true ⟨by omega, by omega⟩
      have hsum : useH (l.take (i + 1)) = useH (l.take i) + (if 0 < l[i]'hiL then 1 else 0) := by rw [List.take_succ_eq_append_getElem hiL, useH_snoc]
      obtain ⟨d, hd⟩ : ∃ d, d = l[i]'hiL := ⟨_, rfl⟩
      rw [← hd] at hcb hsum
      clear hcell hd
      by_cases hd0 : 0 < d
      · have hdd : decide ((0 : Int) < (d : Int)) = true := decide_eq_true (by omega)
        rw [if_pos hd0] at hsum
        have HSUM := hid hsum
        clear hsum
        go_wp2
        all_goals go_roundw
        case rel => exact ⟨i + 1, q + 1, by go_num, by go_num, by omega, by omega, by show _ = _; rw [HSUM.out, hqe.out], by first | rfl | trivial⟩
        case measure => simp [intOf]; omega
      · have hdd : decide ((0 : Int) < (d : Int)) = false := decide_eq_false (by omega)
        rw [if_neg hd0] at hsum
        have HSUM := hid hsum
        clear hsum
        go_wp2
        all_goals go_roundw
        case rel => exact ⟨i + 1, q, by go_num, rfl, by omega, by omega, by show _ = _; rw [HSUM.out, hqe.out]; omega, by first | rfl | trivial⟩
        case measure => simp [intOf]; omega
    · obtain rfl : i = n := by omega
      have he : q = S := by
        rw [hqe.out, HS.out, List.take_of_length_le (by rw [← HN.out]; exact Nat.le_refl _)]
      subst he
      go_wp2
      go_ret
      exact ⟨rfl, rfl⟩
end Go.Proofs.Ytgmfjgiakgoofaa
