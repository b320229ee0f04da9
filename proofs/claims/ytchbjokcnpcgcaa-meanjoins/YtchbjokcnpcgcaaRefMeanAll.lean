/-
  Contract of the document's own Mean: what whichever tokens mean, or why they do not.
-/
import Derived.Test.YtchbjokcnpcgcaaRefMean
namespace Go.Proofs.Ytchbjokcnpcgcaa
open Go.ChangeShapes Go.WideShapes Go.ChangeAt Go.RowKit

/-- Is a number a token? -/
def isI (P : List (List Nat)) (x : Int) : Prop := 0 ≤ x ∧ x < 256 + (P.length : Int)

/-- What tokens mean behind what is there already, no more than m bytes; else nothing, and which error. -/
def meanR (P : List (List Nat)) (m : Nat) : List Nat → List Int → List Nat × Nat
  | y, [] => (y, 0)
  | y, x :: xs => if 0 ≤ x ∧ x < 256 + (P.length : Int) then (if m < y.length + (sayT P x.toNat).length then ([], 10) else meanR P m (y ++ sayT P x.toNat) xs) else ([], 9)

theorem meanR_nil (P : List (List Nat)) (m : Nat) (y : List Nat) : meanR P m y [] = (y, 0) := rfl
theorem meanR_none (P : List (List Nat)) (m : Nat) (y : List Nat) (x : Int) (xs : List Int) (h : ¬ isI P x) : meanR P m y (x :: xs) = ([], 9) := by have h' : ¬ (0 ≤ x ∧ x < 256 + (P.length : Int)) := h; rw [meanR, if_neg h']
theorem meanR_much (P : List (List Nat)) (m : Nat) (y : List Nat) (x : Int) (xs : List Int) (h : isI P x) (h2 : m < y.length + (sayT P x.toNat).length) : meanR P m y (x :: xs) = ([], 10) := by have h' : 0 ≤ x ∧ x < 256 + (P.length : Int) := h; rw [meanR, if_pos h', if_pos h2]
theorem meanR_next (P : List (List Nat)) (m : Nat) (y : List Nat) (x : Int) (xs : List Int) (h : isI P x) (h2 : ¬ m < y.length + (sayT P x.toNat).length) : meanR P m y (x :: xs) = meanR P m (y ++ sayT P x.toNat) xs := by have h' : 0 ≤ x ∧ x < 256 + (P.length : Int) := h; rw [meanR, if_pos h', if_neg h2]

/-- If there is no error, all are tokens, and it is what they mean. -/
theorem meanR_ok (P : List (List Nat)) (m : Nat) : ∀ (xs : List Int) (y : List Nat), (meanR P m y xs).2 = 0 → (∀ x ∈ xs, isI P x) ∧ (meanR P m y xs).1 = y ++ meanT P (xs.map Int.toNat) ∧ (xs ≠ [] → (meanR P m y xs).1.length ≤ m) := by
  intro xs
  induction xs with
  | nil => intro y _; exact ⟨fun x hx => (by cases hx), by rw [meanR_nil, List.map_nil, meanT_nil, List.append_nil], fun h => absurd rfl h⟩
  | cons x xs ih =>
    intro y h
    by_cases h1 : isI P x
    · by_cases h2 : m < y.length + (sayT P x.toNat).length
      · rw [meanR_much P m y x xs h1 h2] at h
        cases h
      · rw [meanR_next P m y x xs h1 h2] at h ⊢
        obtain ⟨k1, k2, k3⟩ := ih _ h
        refine ⟨fun z hz => (List.mem_cons.1 hz).elim (fun e => e ▸ h1) (k1 z), by rw [k2, List.map_cons, meanT_cons, List.append_assoc], fun _ => ?_⟩
        by_cases h3 : xs = []
        · subst h3
          rw [meanR_nil, List.length_append]
          omega
        · exact k3 h3
    · rw [meanR_none P m y x xs h1] at h
      cases h

/-- Tokens that mean no more than that mean it. -/
theorem meanR_fits (P : List (List Nat)) (m : Nat) : ∀ (xs : List Int) (y : List Nat), (∀ x ∈ xs, isI P x) → y.length + (meanT P (xs.map Int.toNat)).length ≤ m → meanR P m y xs = (y ++ meanT P (xs.map Int.toNat), 0) := by
  intro xs
  induction xs with
  | nil => intro y _ _; rw [meanR_nil, List.map_nil, meanT_nil, List.append_nil]
  | cons x xs ih =>
    intro y h hl
    rw [List.map_cons, meanT_cons, List.length_append] at hl
    rw [meanR_next P m y x xs (h x (by simp)) (by omega), ih _ (fun z hz => h z (List.mem_cons_of_mem _ hz)) (by rw [List.length_append]; omega), List.map_cons, meanT_cons, List.append_assoc]

set_option maxRecDepth 20000 in
set_option maxHeartbeats 2000000 in
theorem means_none {w : World} {v : Value} {L : List ByteArray} (hv : Reads w v (strs L)) (hl : L.length ≤ 1000) (x : Int) (h : ¬ isI (L.map nums) x) :
    Calls Try.prog 13 #[v, .int .i64 x] w fun e w' => e = .returned (.tuple #[.string ⟨#[]⟩, .bool false]) ∧ w' = w := by
  obtain ⟨a, ca, rfl, ha⟩ := hv
  rw [strs_length]
  clear ha
  unfold isI at h
  rw [List.length_map] at h
  by_cases h0 : x < 0
  · have hd0 : decide (x < 0) = true := decide_eq_true h0
    clear h
    go_enter Try.func13, Try.ntmps13
    go_wp2
    all_goals refine bodyPost_ret (by simp [results, Try.results13, go_sem]) rfl ⟨rfl, rfl⟩
  · have hd0 : decide (x < 0) = false := decide_eq_false h0
    have hd1 : decide (256 + (L.length : Int) ≤ x) = true := decide_eq_true (by omega)
    have hx0 : 0 ≤ x := by omega
    clear h h0
    go_enter Try.func13, Try.ntmps13
    go_wp2
    all_goals refine bodyPost_ret (by simp [results, Try.results13, go_sem]) rfl ⟨rfl, rfl⟩

theorem say_short {L : List ByteArray} (h40 : ∀ s ∈ L, s.size ≤ 40) (t : Nat) : (sayT (L.map nums) t).length ≤ 40 := by
  unfold sayT
  split
  · simp
  · generalize t - 256 = k
    by_cases hk : k < L.length
    · have e : (L.map nums).getD k [] = nums (L[k]'hk) := by simp [List.getD, hk]
      rw [e, nums_length]
      exact h40 _ (List.getElem_mem hk)
    · have e : (L.map nums).getD k [] = [] := by simp [List.getD, hk]
      rw [e]; simp

set_option maxRecDepth 20000 in
set_option maxHeartbeats 4000000 in
theorem meanAll_any {w : World} {v u : Value} {L : List ByteArray} {zs : List Int} (hv : Reads w v (strs L)) (hl : L.length ≤ 1000) (h40 : ∀ s ∈ L, s.size ≤ 40) (hu : Reads w u (nats zs)) (hzl : zs.length ≤ 100000) (n : Int) :
    Calls Try.prog 12 #[v, .int .i64 n, u] w fun e w' => e = .returned (.tuple #[.string (bytesOf (meanR (L.map nums) (max n 0).toNat [] zs).1), .int .i64 ((meanR (L.map nums) (max n 0).toNat [] zs).2 : Int)]) ∧ Below w.heap.size w w' := by
  obtain ⟨a, ca, rfl, ha⟩ := hu
  rw [nats_length] at *
  have HA := hid ha
  have HV := hid hv
  have H40 := hid h40
  obtain ⟨M, hM⟩ : ∃ M, M = (max n 0).toNat := ⟨_, rfl⟩
  have hmax : max n 0 = (M : Int) := by omega
  rw [← hM]
  clear ha hv h40 hM
  obtain ⟨N, hN⟩ : ∃ N, N = zs.length := ⟨_, rfl⟩
  rw [← hN] at HA hzl ⊢
  have HN := hid hN
  clear hN
  go_enter Try.func12, Try.ntmps12
  go_wp2
  go_loopw [8, 9] (fun vs vi wr => ∃ (i : Nat) (x : ByteArray), vs = .string x ∧ vi = .int .i64 i ∧ i ≤ N ∧ x.size ≤ 40 * i ∧ Hid (meanR (L.map nums) M (nums x) (zs.drop i) = meanR (L.map nums) M [] zs) ∧ Hid (Below w.heap.size w wr)) (fun _ vi _ => N - (intOf vi).toNat)
  case atStart => exact ⟨0, ⟨#[]⟩, rfl, rfl, by omega, by show 0 ≤ _; omega, by show _ = _; rw [List.drop_zero]; rfl, Below.refl _ _⟩
  case round =>
    obtain ⟨i, x, rfl, rfl, hi, hxn, hx, hbl⟩ := hrel
    by_cases hin : i < N
    · rcases HA.out with h | ⟨gb, o, rfl, hgb, hcell⟩
      · omega
      have hiL : i < zs.length := by rw [← HN.out]; exact hin
      have hcb := keeps hbl.out _ _ ((hcell i hin).trans (nats_at zs i hiL))
      have hx' : (decide ((0 : Int) ≤ (i : Int) ∧ (i : Int) < (N : Int))) = true := decide_eq_true ⟨by omega, by omega⟩
      have hdi : decide ((i : Int) < (N : Int)) = true := decide_eq_true (by omega)
      have hxe := hx.out
      rw [List.drop_eq_getElem_cons hiL] at hxe
      obtain ⟨t, hte⟩ : ∃ t, t = zs[i]'hiL := ⟨_, rfl⟩
      rw [← hte] at hcb hxe
      clear hcell hte hx
      by_cases h1 : isI (L.map nums) t
      · obtain ⟨k, rfl⟩ : ∃ k : Nat, t = (k : Int) := ⟨t.toNat, by unfold isI at h1; omega⟩
        have hkT : isT (L.map nums) k := by unfold isI at h1; unfold isT; omega
        have hMn := means_any (HV.out.below hbl.out) hl k hkT
        have hs40 := say_short H40.out k
        by_cases h2 : M < (nums x).length + (sayT (L.map nums) k).length
        · rw [meanR_much _ _ _ _ _ h1 (by rw [Int.toNat_natCast]; exact h2)] at hxe
          have HXE := hid hxe
          have HMn := hid hMn
          rw [nums_length] at h2
          clear hxe hMn hkT h1
          generalize sayT (L.map nums) k = y at *
          go_wp2_with (go_at_call 13; refine (HMn.out).mono ?_; rintro e w1 ⟨s, rfl, hs, hb1⟩; have hss := nums_length s; rw [hs] at hss; rw [hss] at h2 hs40; have HB1 := hid (hbl.out.trans (hb1.mono hbl.out.size)); have hdn : decide ((M : Int) < (x.size : Int) + (s.size : Int)) = true := decide_eq_true (by omega); clear hs hb1 hss)
          all_goals refine bodyPost_ret (v := .tuple #[.string ⟨#[]⟩, .int .i64 10]) (by simp [results, Try.results12, go_sem]) rfl ⟨by rw [← HXE.out]; rfl, HB1.out⟩
        · rw [meanR_next _ _ _ _ _ h1 (by rw [Int.toNat_natCast]; exact h2), Int.toNat_natCast] at hxe
          have HXE := hid hxe
          have HMn := hid hMn
          rw [nums_length] at h2
          clear hxe hMn hkT h1
          generalize sayT (L.map nums) k = y at *
          go_wp2_with (go_at_call 13; refine (HMn.out).mono ?_; rintro e w1 ⟨s, rfl, hs, hb1⟩; have hss := nums_length s; rw [hs] at hss; rw [hss] at h2 hs40; have HS := hid hs; have HB1 := hid (hbl.out.trans (hb1.mono hbl.out.size)); have hdn : decide ((M : Int) < (x.size : Int) + (s.size : Int)) = false := decide_eq_false (by omega); have hadd : ∀ W : World, (Op.stringOp .add x s).run Try.prog W = .ok (.string (x ++ s)) W := fun W => run_string_add_sum W _ _ (by omega); clear hs hb1 hss)
          have HX2 : Hid (meanR (L.map nums) M (nums (x ++ s)) (zs.drop (i + 1)) = meanR (L.map nums) M [] zs) := by show _ = _; rw [nums_append, HS.out, HXE.out]
          have hsz : (x ++ s).size ≤ 40 * (i + 1) := by rw [ByteArray.size_append]; omega
          go_roundw
          case rel => exact ⟨i + 1, x ++ s, rfl, by go_num, by omega, hsz, HX2.out, HB1.out⟩
          case measure => simp [intOf]; omega
      · rw [meanR_none _ _ _ _ _ h1] at hxe
        have HXE := hid hxe
        have HMn := hid (means_none (HV.out.below hbl.out) hl t h1)
        clear hxe h1
        go_wp2_with (go_at_call 13; refine (HMn.out).mono ?_; rintro e w1 ⟨rfl, rfl⟩)
        all_goals refine bodyPost_ret (v := .tuple #[.string ⟨#[]⟩, .int .i64 9]) (by simp [results, Try.results12, go_sem]) rfl ⟨by rw [← HXE.out]; rfl, hbl.out⟩
    · obtain rfl : i = N := by omega
      have hxe := hx.out
      rw [show zs.drop i = [] from List.drop_eq_nil_of_le (by rw [← HN.out]; exact Nat.le_refl _), meanR_nil] at hxe
      have HXE := hid hxe
      have hdi : decide ((i : Int) < (i : Int)) = false := decide_eq_false (by omega)
      clear hxe hx
      go_wp2
      all_goals refine bodyPost_ret (v := .tuple #[.string x, .int .i64 0]) (by simp [results, Try.results12, go_sem]) rfl ⟨by rw [← HXE.out, bytesOf_nums]; rfl, hbl.out⟩
end Go.Proofs.Ytchbjokcnpcgcaa
