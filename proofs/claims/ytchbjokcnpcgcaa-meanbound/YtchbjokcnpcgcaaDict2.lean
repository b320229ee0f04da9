/-
  Contracts of package dict: refuses, New, All.
-/
import Derived.Test.YtchbjokcnpcgcaaDict1
import Derived.Test.YtchbjokcnpcgcaaBuild
namespace Go.Proofs.Ytchbjokcnpcgcaa
open Go.ChangeShapes Go.WideShapes Go.ChangeAt Go.RowKit

@[go_sem] theorem as27 (v : Value) (w : World) : (Instr.typeAssert (.iface 69 v) 56 69 true).run Try.prog w = .ok (.tuple #[v, .bool true]) w := by kernel_rfl
@[go_sem] theorem as0 (w : World) : (Instr.typeAssert .nilIface 56 69 true).run Try.prog w = .ok (.tuple #[.agg #[.int .i64 0, .int .i64 0], .bool false]) w := by kernel_rfl

theorem empty_size {s : ByteArray} (h : s.size = 0) : s = ⟨#[]⟩ := by
  apply ByteArray.ext
  exact Array.eq_empty_of_size_eq_zero h

theorem text_some {s : ByteArray} (h0 : s.size ≠ 0) : (s.toList == []) = false := by
  refine beq_false_of_ne (fun e => h0 ?_)
  rw [ByteArray.toList_eq] at e
  have := congrArg List.length e
  rw [Array.length_toList] at this
  exact this

set_option maxRecDepth 20000 in
set_option maxHeartbeats 2000000 in
theorem refuses_any {w : World} {B p : Nat} {A : List ByteArray} (h : DictAt w B p A) (hl : A.length ≤ 1000000) (s : ByteArray) (hs : s.size ≤ 140737488355328) (t : Nat) (ht : Hid (t = total A)) (ht2 : t ≤ 100000) :
    Calls Try.prog 32 #[.pointer (some ⟨p, 0, none⟩), .string s, .int .i64 t] w fun e w' => e = .returned (.int .i64 (step A s : Nat)) ∧ w' = w := by
  by_cases h0 : s.size = 0
  · have hs0 : step A s = 5 := by unfold step; rw [if_pos h0]
    rw [hs0]
    have := empty_size h0
    subst this
    go_enter Try.func32, Try.ntmps32
    go_wp2
    go_ret
    exact ⟨rfl, rfl⟩
  · have he := text_some h0
    by_cases h1 : 40 < s.size
    · have hs0 : step A s = 10 := by unfold step; rw [if_neg h0, if_pos (.inl h1)]
      rw [hs0]
      go_enter Try.func32, Try.ntmps32
      go_wp2
      go_ret
      exact ⟨rfl, rfl⟩
    · by_cases h2 : 1000 < t + s.size
      · have hs0 : step A s = 10 := by unfold step; rw [if_neg h0, if_pos (.inr (by rw [← ht.out]; exact h2))]
        rw [hs0]
        have hw : wrap64 ((t : Int) + (s.size : Int)) = (t : Int) + (s.size : Int) := IntWalk.wrap64_in _ ⟨by omega, by omega⟩
        go_enter Try.func32, Try.ntmps32
        go_wp2
        go_ret
        exact ⟨rfl, rfl⟩
      · have hw : wrap64 ((t : Int) + (s.size : Int)) = (t : Int) + (s.size : Int) := IntWalk.wrap64_in _ ⟨by omega, by omega⟩
        rcases first_or A s with hm | ⟨k, hk⟩
        · have hs0 : step A s = 0 := step_is_zero (by omega) (by omega) (by rw [← ht.out]; omega) hm
          rw [hs0]
          go_enter Try.func32, Try.ntmps32
          go_wp2_with (go_at_call 35; refine (find_out h hl hm).mono ?_; rintro e w1 ⟨rfl, rfl⟩)
          go_ret
          exact ⟨rfl, rfl⟩
        · have hs0 : step A s = 5 := by unfold step; rw [if_neg h0, if_neg (by rw [← ht.out]; omega), if_pos hk.mem]
          rw [hs0]
          go_enter Try.func32, Try.ntmps32
          go_wp2_with (go_at_call 35; refine (find_in h hl hk).mono ?_; rintro e w1 ⟨rfl, rfl⟩)
          go_ret
          exact ⟨rfl, rfl⟩

theorem fault_new (c a : Int) (h : (c == 0) = false) (w : World) :
    Calls Try.prog 31 #[.int .i64 c, .int .i64 a] w fun e w' => e = .returned (.iface 69 (.agg #[.int .i64 c, .int .i64 a])) ∧ w' = w := by
  go_enter Try.func31, Try.ntmps31
  go_wp2
  go_ret
  exact ⟨rfl, rfl⟩

theorem dict_cell {w : World} {p : Nat} {v : Value} (h : w.heap[p]? = some (.cells #[v] 64 (0, 0))) : w.cell? ⟨p, 0, none⟩ = some v := by simp [World.cell?, h]
theorem dict_free {w : World} {p : Nat} {v : Value} (h : w.heap[p]? = some (.cells #[v] 64 (0, 0))) : w.frozen? ⟨p, 0, none⟩ = false := by simp [World.frozen?, h]
theorem dict_alloc {w : World} {p : Nat} {v : Value} (h : w.heap[p]? = some (.cells #[v] 64 (0, 0))) (o : Obj) : (w.alloc o).cell? ⟨p, 0, none⟩ = some v :=
  dict_cell ((Below.heap_alloc w o p (Array.getElem?_eq_some_iff.1 h).1).trans h)

/-- The dictionary's own block outlasts an append to its row. -/
theorem dict_kept {w w' : World} {o : Obj} {B p : Nat} {v u : Value} {n : Nat} {xs : List Value} (hg : (w.alloc o).grownBy w' v.ownBlock) (ho : w.ownsRow B 9 1 v n xs) (h : w.heap[p]? = some (.cells #[u] 64 (0, 0))) : w'.heap[p]? = some (.cells #[u] 64 (0, 0)) := by
  have hp := (Array.getElem?_eq_some_iff.1 h).1
  rw [hg.block p (by simp; omega) (fun e => by
    obtain ⟨_, cur, hh⟩ := ownsRow_block ho p e.symm
    rw [h] at hh
    injection hh with hh
    injection hh with _ h2
    exact absurd h2 (by decide))]
  exact (Below.heap_alloc w o p hp).trans h

theorem dict_put {w : World} {B p g n cap : Nat} {A : List ByteArray} {s : ByteArray} {u : Value} (ho : w.ownsRow B 9 1 (.slice (some ⟨g, 0, none⟩) n cap) n (strs A ++ [.string s])) (h : w.heap[p]? = some (.cells #[u] 64 (0, 0))) (hn : (A ++ [s]).length = n) (hp : B ≤ p) :
    DictAt (w.setCell ⟨p, 0, none⟩ (.slice (some ⟨g, 0, none⟩) n cap)) B p (A ++ [s]) := by
  refine ⟨hp, .slice (some ⟨g, 0, none⟩) n cap, ?_, ?_⟩
  · simp only [World.setCell, Array.getElem?_modify, h]
    simp
  · rw [hn, ← strs_append]
    refine ownsRow_same ho (fun g' hg' => ?_)
    apply Below.heap_setCell
    rintro rfl
    obtain ⟨_, cur, hh⟩ := ownsRow_block ho _ hg'
    rw [h] at hh
    injection hh with hh
    injection hh with _ h2
    exact absurd h2 (by decide)

set_option maxRecDepth 20000 in
set_option maxHeartbeats 2000000 in
theorem new_fine {w : World} {u : Value} {L : List ByteArray} (hu : Reads w u (strs L)) (hL : Fine L) :
    Calls Try.prog 28 #[u] w fun e w' => ∃ p, e = .returned (.tuple #[.pointer (some ⟨p, 0, none⟩), .nilIface]) ∧ DictAt w' w.heap.size p L ∧ Below w.heap.size w w' := by
  obtain ⟨a, ca, rfl, ha⟩ := hu
  rw [strs_length] at *
  have HA := hid ha
  have HL := hid hL
  have hl := hL.1
  clear ha hL
  generalize hn : L.length = n at HA hl
  have HN := hid hn
  clear hn
  obtain ⟨i0, hi0, hz0, hz1, hz2⟩ := info_parts Try.infoStr
  go_enter Try.func28, Try.ntmps28
  go_wp2
  go_loopw [5, 17] (fun vt vi wr => ∃ t i : Nat, vt = .int .i64 t ∧ vi = .int .i64 i ∧ i ≤ n ∧ Hid (t = total (L.take i)) ∧ t ≤ 1000 ∧ Hid (DictAt wr w.heap.size w.heap.size (L.take i)) ∧ Hid (Below w.heap.size w wr)) (fun _ vi _ => n - (intOf vi).toNat)
  case atStart =>
    refine ⟨0, 0, rfl, rfl, by omega, by simp [Hid, total], by omega, ⟨Nat.le_refl _, .slice none 0 0, heap_alloc_new w _, by simpa [strs] using World.ownsRow_nil _ _ _ _⟩, (Below.refl _ _).alloc (Nat.le_refl _) _⟩
  case round =>
    obtain ⟨t, i, rfl, rfl, hi, ht, ht2, hD, hbl⟩ := hrel
    have HLn := HN.out
    by_cases hin : i < n
    · rcases HA.out with h | ⟨gb, o, rfl, hgb, hcell⟩
      · omega
      have hcb : wr.cell? ⟨gb, o + i, none⟩ = some (.string (L[i]'(by rw [HN.out]; exact hin))) := by rw [hbl.out.cell (p := ⟨gb, o + i, none⟩) hgb, hcell i hin, strs_at]
      clear hcell
      have hx' : (decide ((0 : Int) ≤ (i : Int) ∧ (i : Int) < (n : Int))) = true := decide_eq_true ⟨by omega, by omega⟩
      have hst := HL.out.2 i (by rw [HN.out]; exact hin)
      have hs1 := step_zero hst
      generalize hsi : L[i]'(by rw [HN.out]; exact hin) = s at hcb hst hs1
      have HS := hid hsi
      clear hsi
      have hlt : (L.take i).length = i := by rw [List.length_take, HN.out]; omega
      have hlt2 : (L.take i).length ≤ 1000000 := by omega
      obtain ⟨hs40, hs41, hs42, hs43⟩ := hs1
      have HS2 := hid hs42
      clear hs42
      clear HLn
      go_wp2_with (go_at_call 32; refine (refuses_any hD.out hlt2 s (by omega) t ht (by omega)).mono ?_; rintro e w1 ⟨rfl, rfl⟩; rw [hst])
      obtain ⟨v, hc, hown, ao, cap, rfl⟩ := hD.out.told
      obtain ⟨hpB, vv, hpp, hvv⟩ := hD.out
      have hpv : vv = .slice ao (L.take i).length cap := by simpa [World.cell?, hpp] using hc
      subst hpv
      clear hvv
      rw [hlt] at hc hown hpp
      clear hlt
      have hcd : w1.drew.cell? ⟨w.heap.size, 0, none⟩ = some (.slice ao i cap) := hc
      have hownd : w1.drew.ownsRow w.heap.size 9 1 (.slice ao i cap) i (strs (L.take i)) := hown
      have hppd : w1.drew.heap[w.heap.size]? = some (.cells #[.slice ao i cap] 64 (0, 0)) := hpp
      have hbd : Below w.heap.size w w1.drew := hbl.out.drew
      go_region_law (first
        | (have _h := later; refine step_append_keeps _ (by rfl) (.tmp 35) (.tmp 38) 22 (by rfl) w.heap.size 9 i0 (.string ⟨#[]⟩) 1 16 Try.underlying22 hi0 hz0 hz1 hz2 (by rfl) (by decide) (.slice ao i cap) i (strs (L.take i)) (by simp [Act.eval]) (hown2.alloc _) ⟨w2.heap.size, 0, none⟩ 1 1 [.string s] (by simp [Act.eval]) (by rfl) (World.news_of_block (heap_alloc_new w2 _)) (by intro u hu; simp at hu; subst hu; rfl) (by decide) (by unfold maxLen; omega) (by omega) (by simp; omega) ?_; intro g cap' w3 hown3 hgrow hat hlt3 hold; have hpp3 := dict_kept hgrow hown2 hpp2; have hc3 := dict_cell hpp3; have hf3 := dict_free hpp3)
        | (go_simp; go_at_call 33; refine (clone_any s (by omega) _).mono ?_; rintro e w2 ⟨rfl, hb2⟩; have later : True := trivial; have hown2 := ownsRow_below hownd hb2; have hpp2 := (hb2.block w.heap.size (Array.getElem?_eq_some_iff.1 hppd).1).trans hppd; have hsz2 := Nat.le_trans hbd.size hb2.size; have k2 := dict_cell hpp2; have k3 := fun o => dict_alloc hpp2 o))
      all_goals have hw3 := hid (((below_more hbd hb2).alloc (by omega) _).grown hgrow (by simp; omega) (fun k hk => (hown2.lt k hk).1))
      all_goals have H3 := hid hown3
      all_goals have P3 := hid hpp3
      all_goals clear hown3 hgrow hat hold hc3 hf3 hpp3 hlt3 hown2 hpp2 k2 k3 hownd hppd hcd hown hpp hc hpB hb2 hbd hst hs43 hlt2 hsz2 hx' hs40 later _h hcb
      all_goals
        go_wp2
        go_roundw
        case rel =>
          have htk : L.take (i + 1) = L.take i ++ [s] := by rw [List.take_succ_eq_append_getElem (by rw [HN.out]; exact hin), HS.out]
          refine ⟨t + s.size, i + 1, by go_num, by go_num, by omega, ?_, ?_, ?_, ?_⟩
          · show _ = _
            rw [htk, total_snoc, ht.out]
          · have := HS2.out; have := ht.out; omega
          · show DictAt _ _ _ _
            rw [htk]
            exact dict_put H3.out P3.out (by rw [List.length_append, List.length_take, HN.out]; simp; omega) (Nat.le_refl _)
          · exact hw3.out.setCell (p := ⟨w.heap.size, 0, none⟩) (Nat.le_refl _) _
        case measure => simp [intOf]; omega
    · obtain rfl : i = n := by omega
      have hall : L.take i = L := List.take_of_length_le (by rw [HN.out]; exact Nat.le_refl _)
      rw [hall] at hD
      clear hall
      go_wp2
      go_ret2
      exact ⟨_, rfl, hD.out, hbl.out⟩
set_option maxRecDepth 20000 in
set_option maxHeartbeats 2000000 in
theorem new_bad {w : World} {u : Value} {L : List ByteArray} {c a0 : Nat} (hu : Reads w u (strs L)) (hln : L.length ≤ 1000000) (hsz : ∀ s ∈ L, s.size ≤ 140737488355328) (hL : Bad L c a0) :
    Calls Try.prog 28 #[u] w fun e w' => e = .returned (.tuple #[.pointer none, .iface 69 (.agg #[.int .i64 c, .int .i64 a0])]) ∧ Below w.heap.size w w' := by
  obtain ⟨a, ca, rfl, ha⟩ := hu
  rw [strs_length] at *
  have HA := hid ha
  rcases hL with ⟨hbig, rfl, rfl⟩ | ⟨hl, hal, hgo, hstop, hc0⟩
  · clear ha HA
    go_enter Try.func28, Try.ntmps28
    go_wp2_with (go_at_call 31; refine (fault_new 10 100 rfl _).mono ?_; rintro e w1 ⟨rfl, rfl⟩)
    all_goals go_ret2
    all_goals exact ⟨rfl, Below.refl _ _⟩
  have HG := hid hgo
  have HT := hid (show ∃ h : a0 < L.length, step (L.take a0) (L[a0]'h) = c from ⟨hal, hstop⟩)
  have HZ := hid hsz
  have hc1 : ((c : Int) == 0) = false := beq_false_of_ne (by omega)
  clear hgo hstop hsz ha hln
  have hal2 := hid hal
  have HC0 := hid hc0
  clear hc0
  have hal1 : Hid (∀ j (hj : j < L.length), j < a0 → step (L.take j) (L[j]'hj) = 0) := fun j hj hja => HG.out j hja
  clear HG hal2
  generalize hn : L.length = n at HA hl hal
  have HN := hid hn
  clear hn
  obtain ⟨i0, hi0, hz0, hz1, hz2⟩ := info_parts Try.infoStr
  go_enter Try.func28, Try.ntmps28
  go_wp2
  go_loopw [5, 17] (fun vt vi wr => ∃ t i : Nat, vt = .int .i64 t ∧ vi = .int .i64 i ∧ i ≤ a0 ∧ Hid (t = total (L.take i)) ∧ t ≤ 1000 ∧ Hid (DictAt wr w.heap.size w.heap.size (L.take i)) ∧ Hid (Below w.heap.size w wr)) (fun _ vi _ => n - (intOf vi).toNat)
  case atStart =>
    refine ⟨0, 0, rfl, rfl, by omega, by simp [Hid, total], by omega, ⟨Nat.le_refl _, .slice none 0 0, heap_alloc_new w _, by simpa [strs] using World.ownsRow_nil _ _ _ _⟩, (Below.refl _ _).alloc (Nat.le_refl _) _⟩
  case round =>
    obtain ⟨t, i, rfl, rfl, hi, ht, ht2, hD, hbl⟩ := hrel
    have HLn := HN.out
    by_cases hia : i < a0
    · have hin : i < n := by omega
      rcases HA.out with h | ⟨gb, o, rfl, hgb, hcell⟩
      · omega
      have hcb : wr.cell? ⟨gb, o + i, none⟩ = some (.string (L[i]'(by rw [HN.out]; exact hin))) := by rw [hbl.out.cell (p := ⟨gb, o + i, none⟩) hgb, hcell i hin, strs_at]
      clear hcell
      have hx' : (decide ((0 : Int) ≤ (i : Int) ∧ (i : Int) < (n : Int))) = true := decide_eq_true ⟨by omega, by omega⟩
      have hst := hal1.out i (by rw [HN.out]; exact hin) hia
      have hs1 := step_zero hst
      generalize hsi : L[i]'(by rw [HN.out]; exact hin) = s at hcb hst hs1
      have HS := hid hsi
      clear hsi
      have hlt : (L.take i).length = i := by rw [List.length_take, HN.out]; omega
      have hlt2 : (L.take i).length ≤ 1000000 := by omega
      obtain ⟨hs40, hs41, hs42, hs43⟩ := hs1
      have HS2 := hid hs42
      clear hs42
      clear HLn
      go_wp2_with (go_at_call 32; refine (refuses_any hD.out hlt2 s (by omega) t ht (by omega)).mono ?_; rintro e w1 ⟨rfl, rfl⟩; rw [hst])
      obtain ⟨v, hc, hown, ao, cap, rfl⟩ := hD.out.told
      obtain ⟨hpB, vv, hpp, hvv⟩ := hD.out
      have hpv : vv = .slice ao (L.take i).length cap := by simpa [World.cell?, hpp] using hc
      subst hpv
      clear hvv
      rw [hlt] at hc hown hpp
      clear hlt
      have hcd : w1.drew.cell? ⟨w.heap.size, 0, none⟩ = some (.slice ao i cap) := hc
      have hownd : w1.drew.ownsRow w.heap.size 9 1 (.slice ao i cap) i (strs (L.take i)) := hown
      have hppd : w1.drew.heap[w.heap.size]? = some (.cells #[.slice ao i cap] 64 (0, 0)) := hpp
      have hbd : Below w.heap.size w w1.drew := hbl.out.drew
      go_region_law (first
        | (have _h := later; refine step_append_keeps _ (by rfl) (.tmp 35) (.tmp 38) 22 (by rfl) w.heap.size 9 i0 (.string ⟨#[]⟩) 1 16 Try.underlying22 hi0 hz0 hz1 hz2 (by rfl) (by decide) (.slice ao i cap) i (strs (L.take i)) (by simp [Act.eval]) (hown2.alloc _) ⟨w2.heap.size, 0, none⟩ 1 1 [.string s] (by simp [Act.eval]) (by rfl) (World.news_of_block (heap_alloc_new w2 _)) (by intro u hu; simp at hu; subst hu; rfl) (by decide) (by unfold maxLen; omega) (by omega) (by simp; omega) ?_; intro g cap' w3 hown3 hgrow hat hlt3 hold; have hpp3 := dict_kept hgrow hown2 hpp2; have hc3 := dict_cell hpp3; have hf3 := dict_free hpp3)
        | (go_simp; go_at_call 33; refine (clone_any s (by omega) _).mono ?_; rintro e w2 ⟨rfl, hb2⟩; have later : True := trivial; have hown2 := ownsRow_below hownd hb2; have hpp2 := (hb2.block w.heap.size (Array.getElem?_eq_some_iff.1 hppd).1).trans hppd; have hsz2 := Nat.le_trans hbd.size hb2.size; have k2 := dict_cell hpp2; have k3 := fun o => dict_alloc hpp2 o))
      all_goals have hw3 := hid (((below_more hbd hb2).alloc (by omega) _).grown hgrow (by simp; omega) (fun k hk => (hown2.lt k hk).1))
      all_goals have H3 := hid hown3
      all_goals have P3 := hid hpp3
      all_goals clear hown3 hgrow hat hold hc3 hf3 hpp3 hlt3 hown2 hpp2 k2 k3 hownd hppd hcd hown hpp hc hpB hb2 hbd hst hs43 hlt2 hsz2 hx' hs40 later _h hcb
      all_goals
        go_wp2
        go_roundw
        case rel =>
          have htk : L.take (i + 1) = L.take i ++ [s] := by rw [List.take_succ_eq_append_getElem (by rw [HN.out]; exact hin), HS.out]
          refine ⟨t + s.size, i + 1, by go_num, by go_num, by omega, ?_, ?_, ?_, ?_⟩
          · show _ = _
            rw [htk, total_snoc, ht.out]
          · have := HS2.out; have := ht.out; omega
          · show DictAt _ _ _ _
            rw [htk]
            exact dict_put H3.out P3.out (by rw [List.length_append, List.length_take, HN.out]; simp; omega) (Nat.le_refl _)
          · exact hw3.out.setCell (p := ⟨w.heap.size, 0, none⟩) (Nat.le_refl _) _
        case measure => simp [intOf]; omega
    · obtain rfl : i = a0 := by omega
      have hin : i < n := hal
      rcases HA.out with h | ⟨gb, o, rfl, hgb, hcell⟩
      · omega
      have hcb : wr.cell? ⟨gb, o + i, none⟩ = some (.string (L[i]'(by rw [HN.out]; exact hin))) := by rw [hbl.out.cell (p := ⟨gb, o + i, none⟩) hgb, hcell i hin, strs_at]
      clear hcell
      have hx' : (decide ((0 : Int) ≤ (i : Int) ∧ (i : Int) < (n : Int))) = true := decide_eq_true ⟨by omega, by omega⟩
      have hst : step (L.take i) (L[i]'(by rw [HN.out]; exact hin)) = c := by obtain ⟨_, h⟩ := HT.out; exact h
      have hs47 := HZ.out (L[i]'(by rw [HN.out]; exact hin)) (List.getElem_mem _)
      generalize L[i]'(by rw [HN.out]; exact hin) = s at hcb hst hs47
      have hlt2 : (L.take i).length ≤ 1000000 := by rw [List.length_take]; omega
      clear HLn HT HZ hal1
      have hne : ((c : Int) != 0) = true := by rw [bne, hc1]; rfl
      go_wp2_with (first | (go_at_call 32; refine (refuses_any hD.out hlt2 s hs47 t ht (by omega)).mono ?_; rintro e w1 ⟨rfl, rfl⟩; rw [hst]) | (go_at_call 31; refine (fault_new c i hc1 _).mono ?_; rintro e w2 ⟨rfl, rfl⟩))
      all_goals go_ret2
      all_goals exact ⟨rfl, hbl.out⟩
end Go.Proofs.Ytchbjokcnpcgcaa
