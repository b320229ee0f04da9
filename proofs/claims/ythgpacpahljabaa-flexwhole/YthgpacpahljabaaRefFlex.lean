/-
  Contracts of the document's own Reach, Second, Flex.
-/
import Derived.Test.YthgpacpahljabaaRefGreedy
import Derived.Test.YthgpacpahljabaaFlex
namespace Go.Proofs.Ythgpacpahljabaa
open Go.ChangeShapes Go.WideShapes Go.ChangeAt Go.RowKit

theorem reachR_off (w : World) (v : Value) (b : ByteArray) (at0 n0 : Int) (hb : b.size ≤ 1000) (hr : n0 ≤ 9223372036854775807) (h : at0 < 0 ∨ n0 < 0 ∨ (b.size : Int) < at0 + n0) (hat : at0 ≤ 9223372036854775807) :
    Calls Try.prog 16 #[v, .string b, .int .i64 at0, .int .i64 n0] w fun e w' => e = .returned (.int .i64 0) ∧ w' = w := by
  by_cases h0 : at0 < 0
  · have h1 : decide (at0 < 0) = true := decide_eq_true h0
    go_enter Try.func16, Try.ntmps16
    go_wp2
    go_ret
    exact ⟨rfl, rfl⟩
  · have h1 : decide (at0 < 0) = false := decide_eq_false h0
    by_cases h2 : n0 < 0
    · have h3 : decide (n0 < 0) = true := decide_eq_true h2
      go_enter Try.func16, Try.ntmps16
      go_wp2
      go_ret
      exact ⟨rfl, rfl⟩
    · have h3 : decide (n0 < 0) = false := decide_eq_false h2
      by_cases h6 : (b.size : Int) < at0
      · have h7 : decide ((b.size : Int) < at0) = true := decide_eq_true h6
        go_enter Try.func16, Try.ntmps16
        go_wp2
        go_ret
        exact ⟨rfl, rfl⟩
      · have h7 : decide ((b.size : Int) < at0) = false := decide_eq_false h6
        have h4 : IntKind.i64.wrap ((b.size : Int) - at0) = (b.size : Int) - at0 := Go.IntWalk.i64_in _ (by omega)
        have h5 : decide ((b.size : Int) - at0 < n0) = true := decide_eq_true (by omega)
        go_enter Try.func16, Try.ntmps16
        go_wp2
        go_ret
        exact ⟨rfl, rfl⟩

set_option maxRecDepth 20000 in
set_option maxHeartbeats 2000000 in
theorem reachR_any {w : World} {v : Value} {L : List ByteArray} (hv : Reads w v (strs L)) (hL : Fine L) (b : ByteArray) (hb : b.size ≤ 1000) (i n : Nat) (hin : i + n ≤ b.size) :
    Calls Try.prog 16 #[v, .string b, .int .i64 (i : Int), .int .i64 (n : Int)] w fun e w' => e = .returned (.int .i64 ((i + rN L ((nums b).drop i) n : Nat) : Int)) ∧ Below w.heap.size w w' := by
  have hd1 : decide ((i : Int) < 0) = false := decide_eq_false (by omega)
  have hd2 : decide ((n : Int) < 0) = false := decide_eq_false (by omega)
  have hd5 : decide ((b.size : Int) < (i : Int)) = false := decide_eq_false (by omega)
  have hd52 : decide (b.size < i) = false := decide_eq_false (by omega)
  obtain ⟨k, hk⟩ : ∃ k, k = b.size - i := ⟨_, rfl⟩
  have hsub : (b.size : Int) - (i : Int) = (k : Int) := by omega
  have hd3 : decide ((k : Int) < (n : Int)) = false := decide_eq_false (by omega)
  have hd4 : decide (k < n) = false := decide_eq_false (by omega)
  have hk1 : k ≤ 1000 := by omega
  have hi1 : i ≤ 1000 := by omega
  have hn1 : n ≤ 1000 := by omega
  have hl := hL.1
  obtain ⟨j, hj⟩ : ∃ j, j = i + n := ⟨_, rfl⟩
  have hsum : (i : Int) + (n : Int) = (j : Int) := by omega
  have hlen : ((nums b).drop i).length = b.size - i := by rw [List.length_drop, nums_length]
  by_cases hlt : j < b.size
  · have HN := hid (first_any hv (by omega) b hb j hlt)
    have e1 : rN L ((nums b).drop i) n = n + gN L ((nums b).drop j) := by
      unfold rN reachT
      rw [if_neg (by rw [hlen]; omega), List.drop_drop, ← hj]
      rfl
    have hp := gN_pos hL (drop_more hlt)
    rw [List.length_drop, nums_length] at hp
    rw [e1]
    obtain ⟨g, hg⟩ : ∃ g, g = gN L ((nums b).drop j) := ⟨_, rfl⟩
    rw [← hg] at hp
    rw [← hg] at HN
    rw [← hg]
    have hg1 : j + g ≤ 1000 := by omega
    have hj1 : j ≤ 1000 := by omega
    have hjl : j ≤ i + n := by omega
    have hjg : i + n ≤ j := by omega
    have heq : ((j : Int) == (b.size : Int)) = false := beq_false_of_ne (by omega)
    have heq2 : (j == b.size) = false := beq_false_of_ne (by omega)
    clear e1 hlen hp hg hv hL hj hk
    go_enter Try.func16, Try.ntmps16
    go_wp2_with (go_at_call 31; refine (HN.out).mono ?_; rintro e w1 ⟨rfl, hb1⟩)
    go_ret
    exact ⟨by rw [show (((i + (n + g) : Nat)) : Int) = (j : Int) + (g : Int) by omega]; rfl, hb1⟩
  · obtain rfl : j = b.size := by omega
    have e1 : rN L ((nums b).drop i) n = n := by
      unfold rN reachT
      rw [if_pos (by rw [hlen]; omega), hlen]
      omega
    rw [e1]
    have hj1 : b.size ≤ 1000 := hb
    have hjl : b.size ≤ i + n := by omega
    have hjg : i + n ≤ b.size := by omega
    have heq : ((b.size : Int) == (b.size : Int)) = true := by simp
    clear e1 hlen hv hL hj hk
    go_enter Try.func16, Try.ntmps16
    go_wp2
    go_ret
    exact ⟨by rw [show (((i + n : Nat)) : Int) = (b.size : Int) by omega]; rfl, Below.refl _ _⟩

theorem lensT_one {P : List (List Nat)} {m : Nat} {x : List Nat} (h : 1 ∈ standsT P m x) : lensT P m x = standsT P m x := by unfold lensT; rw [if_pos h, List.append_nil]
theorem lensT_more {P : List (List Nat)} {m : Nat} {x : List Nat} (h : 1 ∉ standsT P m x) : lensT P m x = standsT P m x ++ [1] := by unfold lensT; rw [if_neg h]

/-- The last of those that stand there: 1, or none is 1. -/
theorem standsT_last {P : List (List Nat)} {m : Nat} {x : List Nat} (hm : ∀ s ∈ P, s.length ≤ m) (k : Nat) (hk : k + 1 = (standsT P m x).length) : 1 ≤ (standsT P m x)[k] ∧ (standsT P m x)[k] ≤ x.length ∧ ((standsT P m x)[k] = 1 ↔ 1 ∈ standsT P m x) := by
  have hS := fun n => standsT_mem P m hm x n
  have h1 := (hS _).1 (List.getElem_mem (l := standsT P m x) (n := k) (by omega))
  refine ⟨h1.1, h1.2.1, fun h => by rw [← h]; exact List.getElem_mem _, fun h => ?_⟩
  obtain ⟨j, hj, e⟩ := List.getElem_of_mem h
  have hf := List.pairwise_iff_getElem.1 (standsT_falls P m x)
  rcases Nat.lt_or_ge j k with h2 | h2
  · have h3 := hf j k hj (by omega) h2
    have := h1.1
    omega
  · have : j = k := by omega
    subst this
    exact e

theorem ints_get (xs : List Nat) (i : Nat) (h : i < xs.length) : (nats (ints xs))[i]? = some (.int .i64 ((xs[i]'h : Nat) : Int)) := by simp [nats, ints, h]

/-- By the first and the rest of it. -/
theorem xN_far (L : List ByteArray) (y : List Nat) (a : Nat) (l : List Nat) (h : lensT (L.map nums) 40 y = a :: l) : xN L y = farT (rN L y) a l := by
  unfold xN secondT
  rw [h]
  rfl

theorem farT_next (r : Nat → Nat) (b : Nat) (ls : List Nat) (k : Nat) (h : k < ls.length) : farT r b (ls.drop k) = farT r (if r b < r (ls[k]'h) then ls[k]'h else b) (ls.drop (k + 1)) := by
  rw [List.drop_eq_getElem_cons h, farT]

set_option maxRecDepth 20000 in
set_option maxHeartbeats 8000000 in
theorem second_any {w : World} {v : Value} {L : List ByteArray} (hv : Reads w v (strs L)) (hL : Fine L) (b : ByteArray) (hb : b.size ≤ 1000) (i : Nat) (hi : i < b.size) :
    Calls Try.prog 13 #[v, .string b, .int .i64 (i : Int)] w fun e w' => e = .returned (.int .i64 (xN L ((nums b).drop i) : Int)) ∧ Below w.heap.size w w' := by
  have HV := hid hv
  have HL := hid hL
  have hl := hL.1
  have h40 := phrases_short hL
  have hylen : ((nums b).drop i).length = b.size - i := by rw [List.length_drop, nums_length]
  obtain ⟨st, hst⟩ : ∃ st, st = standsT (L.map nums) 40 ((nums b).drop i) := ⟨_, rfl⟩
  have hst40 := standsT_few3 (L.map nums) 40 ((nums b).drop i)
  rw [← hst] at hst40
  obtain ⟨ls, hls⟩ : ∃ ls, ls = lensT (L.map nums) 40 ((nums b).drop i) := ⟨_, rfl⟩
  have hall : ∀ n ∈ ls, i + n ≤ b.size := by
    intro n hn
    rw [hls, lensT_mem] at hn
    rcases hn with hn | rfl
    · have := (standsT_mem _ 40 h40 _ n).1 hn
      omega
    · omega
  have hlf : ls.length ≤ 41 := by
    rw [hls]
    by_cases h1 : 1 ∈ standsT (L.map nums) 40 ((nums b).drop i)
    · rw [lensT_one h1, ← hst]; omega
    · rw [lensT_more h1, ← hst]; simp; omega
  obtain ⟨a0, l0, hal⟩ : ∃ a l, ls = a :: l := by
    cases e : ls with
    | nil => rw [hls] at e; exact absurd e (lensT_some _ _ _)
    | cons a l => exact ⟨a, l, rfl⟩
  have hX0 : farT (rN L ((nums b).drop i)) a0 (ls.drop 1) = xN L ((nums b).drop i) := by
    rw [xN_far L _ a0 l0 (by rw [← hls]; exact hal), hal]
    rfl
  have HX0 := hid hX0
  have HAll := hid hall
  have HA0 := hid (hall a0 (by rw [hal]; simp))
  have hl0 : ∀ h : 0 < ls.length, ls[0]'h = a0 := fun h => by simp [hal]
  have HL0 := hid hl0
  obtain ⟨q, hq⟩ : ∃ q, q = ls.length := ⟨_, rfl⟩
  have hq1 : 1 ≤ q := by rw [hq, hal]; simp
  have hq41 : q ≤ 41 := by omega
  have HQ := hid hq
  obtain ⟨z, hz⟩ : ∃ z, z = (ints st).length := ⟨_, rfl⟩
  have hz40 : z ≤ 40 := by rw [hz, ints_length]; exact hst40
  have HST := hid hst
  have HS : Hid (z = st.length) := by show _ = _; rw [hz, ints_length]
  have HZ := hid hz
  have HE0 : Hid ((nats (ints ls))[0]? = some (.int .i64 (a0 : Int))) := by show _ = _; rw [ints_get ls 0 (by rw [hal]; simp), hl0]
  by_cases h0 : z = 0
  · have hs0 : st = [] := List.eq_nil_of_length_eq_zero (by rw [← HS.out]; exact h0)
    have hLS : ls = st ++ [1] := by rw [hls, lensT_more (by rw [← hst, hs0]; simp), ← hst]
    have HLS2 : Hid (ints ls = ints st ++ [(1 : Int)]) := by show _ = _; rw [hLS]; simp [ints]
    have HLS := hid hLS
    have hx0 : decide ((0 : Int) ≤ 0 ∧ (0 : Int) < (q : Int)) = true := decide_eq_true ⟨by omega, by omega⟩
    subst h0
    clear hv hL hst hls hall hal hX0 hl0 hq hz hLS hs0 hst40 hlf hylen h40
    go_enter Try.func13, Try.ntmps13
    go_wp2_with (first
      | (go_at_call 21; refine (stands_any HV.out (by omega) b hb i hi).mono ?_; rintro e wS ⟨vS, rfl, hoS, hbS⟩; rw [numsI_ints, ← HST.out] at hoS; have hoA := hoS; rw [← ints_length st] at hoA; rw [← HS.out] at hoS; have HOA := hid hoA; clear hoA; obtain ⟨aS, cS, rfl⟩ := ownsRow_slice hoS; have HOS := hid hoS; have HBS := hid hbS; clear hoS hbS)
      | (at_builtin; refine wpList_append_ints rfl (.tmp 26) (.tmp 27) rfl w.heap.size _ (ints st) rfl (HOA.out.alloc _) _ [(1 : Int)] rfl (reads_built _ #[.int .i64 1] _ 1 rfl) (by rw [ints_length, ← HS.out]; simp <;> omega) (by have := HBS.out.size; simp; omega) ?_; intro v' w4 hown4 hb4; rw [← HLS2.out, ints_length, ← HQ.out] at hown4; obtain ⟨g3, c3, rfl, _, _⟩ := hown4.form (by omega); have eT := hown4.cellAt 0 (by omega); rw [HE0.out] at eT; have HO := hid hown4; clear hown4))
    have HBX : Hid (Below w.heap.size w w4) := (HBS.out.alloc HBS.out.size _).trans hb4
    clear hb4
    go_loopw [8, 9] (fun vm vk wr => ∃ (k m : Nat), vm = .int .i64 (m : Int) ∧ vk = .int .i64 (k : Int) ∧ 1 ≤ k ∧ k ≤ q ∧ i + m ≤ b.size ∧ Hid (farT (rN L ((nums b).drop i)) m (ls.drop k) = xN L ((nums b).drop i)) ∧ Hid (Below w4.heap.size w4 wr)) (fun _ vk _ => q - (intOf vk).toNat)
    case atStart => exact ⟨1, a0, rfl, rfl, by omega, by omega, HA0.out, HX0.out, Below.refl _ _⟩
    case round =>
      obtain ⟨k, m, rfl, rfl, hk1, hk, hm, hfar, hbr⟩ := hrel
      by_cases hkq : k < q
      · have hdk : decide ((k : Int) < (q : Int)) = true := decide_eq_true (by omega)
        have hx' : (decide ((0 : Int) ≤ (k : Int) ∧ (k : Int) < (q : Int))) = true := decide_eq_true ⟨by omega, by omega⟩
        have hkL : k < ls.length := by rw [← HQ.out]; exact hkq
        have hck := HO.out.cellAt k (by omega)
        rw [ints_get ls k hkL] at hck
        have hfn := farT_next (rN L ((nums b).drop i)) m ls k hkL
        rw [hfar.out] at hfn
        obtain ⟨n, hn⟩ : ∃ n, n = ls[k]'hkL := ⟨_, rfl⟩
        have hnb := HAll.out n (by rw [hn]; exact List.getElem_mem _)
        rw [← hn] at hck hfn
        have hck1 := keeps hbr.out _ _ hck
        have hckA := fun W (hW : Below w4.heap.size w4 W) => keeps hW _ _ hck
        have HcA := hid hckA
        have HB := hid (HBX.out.trans (hbr.out.mono HBX.out.size))
        have R1 := hid (fun W (hW : Below w.heap.size w W) => reachR_any (HV.out.below hW) HL.out b hb i n hnb)
        have R2 := hid (fun W (hW : Below w.heap.size w W) => reachR_any (HV.out.below hW) HL.out b hb i m hm)
        have hr1 := (rN_le HL.out ((nums b).drop i) n (by rw [List.length_drop, nums_length]; omega)).1
        have hr2 := (rN_le HL.out ((nums b).drop i) m (by rw [List.length_drop, nums_length]; omega)).1
        rw [List.length_drop, nums_length] at hr1 hr2
        obtain ⟨f1, hf1⟩ : ∃ f, f = i + rN L ((nums b).drop i) n := ⟨_, rfl⟩
        obtain ⟨f2, hf2⟩ : ∃ f, f = i + rN L ((nums b).drop i) m := ⟨_, rfl⟩
        rw [← hf1] at R1
        rw [← hf2] at R2
        have hf11 : f1 ≤ 1000 := by omega
        have hf21 : f2 ≤ 1000 := by omega
        by_cases hc : f2 < f1
        · have hd : decide ((f2 : Int) < (f1 : Int)) = true := decide_eq_true (by omega)
          have hd' : decide (f2 < f1) = true := decide_eq_true hc
          rw [if_pos (by omega)] at hfn
          have HFN := hid hfn
          clear hfn hf1 hf2 hr1 hr2 hn hck hckA hfar
          go_wp2_with (first
            | (go_at_call_of 16 (#[v, Value.string b, Value.int IntKind.i64 (i : Int), Value.int IntKind.i64 (n : Int)] : Array Value); refine (R1.out _ HB.out).mono ?_; rintro e w8 ⟨rfl, hb8⟩; have HB8 := hid (HB.out.trans (hb8.mono HB.out.size)); have HX8 := hid (hbr.out.trans (hb8.mono hbr.out.size)); clear hb8)
            | (go_at_call_of 16 (#[v, Value.string b, Value.int IntKind.i64 (i : Int), Value.int IntKind.i64 (m : Int)] : Array Value); refine (R2.out _ HB8.out).mono ?_; rintro e w9 ⟨rfl, hb9⟩; have HX9 := hid (HX8.out.trans (hb9.mono HX8.out.size)); have hck9 := HcA.out _ HX9.out; clear hb9))
          go_roundw
          case rel => exact ⟨k + 1, n, rfl, by go_num, by omega, by omega, hnb, HFN.out.symm, HX9.out⟩
          case measure => simp [intOf]; omega
        · have hd : decide ((f2 : Int) < (f1 : Int)) = false := decide_eq_false (by omega)
          have hd' : decide (f2 < f1) = false := decide_eq_false hc
          rw [if_neg (by omega)] at hfn
          have HFN := hid hfn
          clear hfn hf1 hf2 hr1 hr2 hn hck hckA hfar
          go_wp2_with (first
            | (go_at_call_of 16 (#[v, Value.string b, Value.int IntKind.i64 (i : Int), Value.int IntKind.i64 (n : Int)] : Array Value); refine (R1.out _ HB.out).mono ?_; rintro e w8 ⟨rfl, hb8⟩; have HB8 := hid (HB.out.trans (hb8.mono HB.out.size)); have HX8 := hid (hbr.out.trans (hb8.mono hbr.out.size)); clear hb8)
            | (go_at_call_of 16 (#[v, Value.string b, Value.int IntKind.i64 (i : Int), Value.int IntKind.i64 (m : Int)] : Array Value); refine (R2.out _ HB8.out).mono ?_; rintro e w9 ⟨rfl, hb9⟩; have HX9 := hid (HX8.out.trans (hb9.mono HX8.out.size)); clear hb9))
          go_roundw
          case rel => exact ⟨k + 1, m, rfl, by go_num, by omega, by omega, hm, HFN.out.symm, HX9.out⟩
          case measure => simp [intOf]; omega
      · obtain rfl : k = q := by omega
        have hdk : decide ((k : Int) < (k : Int)) = false := decide_eq_false (by omega)
        have hfe := hfar.out
        rw [show ls.drop k = [] from List.drop_eq_nil_of_le (by rw [← HQ.out]; exact Nat.le_refl _), farT] at hfe
        have HFE := hid hfe
        have HBE := hid (HBX.out.trans (hbr.out.mono HBX.out.size))
        clear hfe hfar
        go_wp2
        go_ret
        exact ⟨by rw [← HFE.out]; rfl, HBE.out⟩
  · obtain ⟨k0, hk0⟩ : ∃ k, z = k + 1 := ⟨z - 1, by omega⟩
    have hk0L : k0 + 1 = (standsT (L.map nums) 40 ((nums b).drop i)).length := by rw [← hst, ← hk0]; exact HS.out
    obtain ⟨g1, g2, g3⟩ := standsT_last h40 k0 hk0L
    have hk0s : k0 < st.length := by rw [← HS.out]; omega
    obtain ⟨la, hla⟩ : ∃ la, la = st[k0]'hk0s := ⟨_, rfl⟩
    have hla2 : la = (standsT (L.map nums) 40 ((nums b).drop i))[k0] := by rw [hla]; congr 1
    rw [← hla2] at g1 g2 g3
    have HLA : Hid ((nats (ints st))[k0]? = some (.int .i64 (la : Int))) := by show _ = _; rw [ints_get st k0 hk0s, hla]
    have hlk : la ≤ 1000 := by omega
    have hz0 : ((z : Int) == 0) = false := beq_false_of_ne (by omega)
    have hz02 : (z == 0) = false := beq_false_of_ne (by omega)
    have hzk : (z : Int) - 1 = (k0 : Int) := by omega
    have hxk : decide ((0 : Int) ≤ (k0 : Int) ∧ (k0 : Int) < (z : Int)) = true := decide_eq_true ⟨by omega, by omega⟩
    have hkz : k0 < z := by omega
    by_cases h1 : la = 1
    · have hLS : ls = st := by rw [hls, lensT_one (g3.1 h1), ← hst]
      have hqz : q = z := by rw [hq, hLS]; exact HS.out.symm
      have HLS := hid hLS
      subst h1
      subst hqz
      have hdl : decide ((1 : Int) < ((1 : Nat) : Int)) = false := by decide
      have hx0 : decide ((0 : Int) ≤ 0 ∧ (0 : Int) < (q : Int)) = true := decide_eq_true ⟨by omega, by omega⟩
      clear hv hL hst hls hall hal hX0 hl0 hq hz hLS hst40 hlf hylen h40 hk0L g1 g2 g3 hla hla2 hk0s hk0
      go_enter Try.func13, Try.ntmps13
      go_wp2_with (first
        | (go_at_call 21; refine (stands_any HV.out (by omega) b hb i hi).mono ?_; rintro e wS ⟨vS, rfl, hoS, hbS⟩; rw [numsI_ints, ← HST.out] at hoS; have hoA := hoS; rw [← ints_length st] at hoA; rw [← HS.out] at hoS; have HOA := hid hoA; clear hoA; rw [← HLS.out] at hoS; obtain ⟨gS, cS, rfl, _, _⟩ := hoS.form (by omega); have eS := hoS.cellAt k0 (by omega); rw [HLS.out, HLA.out] at eS; have eT := hoS.cellAt 0 (by omega); rw [HE0.out] at eT; have HOS := hid hoS; have HBS := hid hbS; clear hoS hbS))
      have HBX := HBS
      have HO := HOS
      go_loopw [8, 9] (fun vm vk wr => ∃ (k m : Nat), vm = .int .i64 (m : Int) ∧ vk = .int .i64 (k : Int) ∧ 1 ≤ k ∧ k ≤ q ∧ i + m ≤ b.size ∧ Hid (farT (rN L ((nums b).drop i)) m (ls.drop k) = xN L ((nums b).drop i)) ∧ Hid (Below wS.heap.size wS wr)) (fun _ vk _ => q - (intOf vk).toNat)
      case atStart => exact ⟨1, a0, rfl, rfl, by omega, by omega, HA0.out, HX0.out, Below.refl _ _⟩
      case round =>
        obtain ⟨k, m, rfl, rfl, hk1, hk, hm, hfar, hbr⟩ := hrel
        by_cases hkq : k < q
        · have hdk : decide ((k : Int) < (q : Int)) = true := decide_eq_true (by omega)
          have hx' : (decide ((0 : Int) ≤ (k : Int) ∧ (k : Int) < (q : Int))) = true := decide_eq_true ⟨by omega, by omega⟩
          have hkL : k < ls.length := by rw [← HQ.out]; exact hkq
          have hck := HO.out.cellAt k (by omega)
          rw [ints_get ls k hkL] at hck
          have hfn := farT_next (rN L ((nums b).drop i)) m ls k hkL
          rw [hfar.out] at hfn
          obtain ⟨n, hn⟩ : ∃ n, n = ls[k]'hkL := ⟨_, rfl⟩
          have hnb := HAll.out n (by rw [hn]; exact List.getElem_mem _)
          rw [← hn] at hck hfn
          have hck1 := keeps hbr.out _ _ hck
          have hckA := fun W (hW : Below wS.heap.size wS W) => keeps hW _ _ hck
          have HcA := hid hckA
          have HB := hid (HBX.out.trans (hbr.out.mono HBX.out.size))
          have R1 := hid (fun W (hW : Below w.heap.size w W) => reachR_any (HV.out.below hW) HL.out b hb i n hnb)
          have R2 := hid (fun W (hW : Below w.heap.size w W) => reachR_any (HV.out.below hW) HL.out b hb i m hm)
          have hr1 := (rN_le HL.out ((nums b).drop i) n (by rw [List.length_drop, nums_length]; omega)).1
          have hr2 := (rN_le HL.out ((nums b).drop i) m (by rw [List.length_drop, nums_length]; omega)).1
          rw [List.length_drop, nums_length] at hr1 hr2
          obtain ⟨f1, hf1⟩ : ∃ f, f = i + rN L ((nums b).drop i) n := ⟨_, rfl⟩
          obtain ⟨f2, hf2⟩ : ∃ f, f = i + rN L ((nums b).drop i) m := ⟨_, rfl⟩
          rw [← hf1] at R1
          rw [← hf2] at R2
          have hf11 : f1 ≤ 1000 := by omega
          have hf21 : f2 ≤ 1000 := by omega
          by_cases hc : f2 < f1
          · have hd : decide ((f2 : Int) < (f1 : Int)) = true := decide_eq_true (by omega)
            have hd' : decide (f2 < f1) = true := decide_eq_true hc
            rw [if_pos (by omega)] at hfn
            have HFN := hid hfn
            clear hfn hf1 hf2 hr1 hr2 hn hck hckA hfar
            go_wp2_with (first
              | (go_at_call_of 16 (#[v, Value.string b, Value.int IntKind.i64 (i : Int), Value.int IntKind.i64 (n : Int)] : Array Value); refine (R1.out _ HB.out).mono ?_; rintro e w8 ⟨rfl, hb8⟩; have HB8 := hid (HB.out.trans (hb8.mono HB.out.size)); have HX8 := hid (hbr.out.trans (hb8.mono hbr.out.size)); clear hb8)
              | (go_at_call_of 16 (#[v, Value.string b, Value.int IntKind.i64 (i : Int), Value.int IntKind.i64 (m : Int)] : Array Value); refine (R2.out _ HB8.out).mono ?_; rintro e w9 ⟨rfl, hb9⟩; have HX9 := hid (HX8.out.trans (hb9.mono HX8.out.size)); have hck9 := HcA.out _ HX9.out; clear hb9))
            go_roundw
            case rel => exact ⟨k + 1, n, rfl, by go_num, by omega, by omega, hnb, HFN.out.symm, HX9.out⟩
            case measure => simp [intOf]; omega
          · have hd : decide ((f2 : Int) < (f1 : Int)) = false := decide_eq_false (by omega)
            have hd' : decide (f2 < f1) = false := decide_eq_false hc
            rw [if_neg (by omega)] at hfn
            have HFN := hid hfn
            clear hfn hf1 hf2 hr1 hr2 hn hck hckA hfar
            go_wp2_with (first
              | (go_at_call_of 16 (#[v, Value.string b, Value.int IntKind.i64 (i : Int), Value.int IntKind.i64 (n : Int)] : Array Value); refine (R1.out _ HB.out).mono ?_; rintro e w8 ⟨rfl, hb8⟩; have HB8 := hid (HB.out.trans (hb8.mono HB.out.size)); have HX8 := hid (hbr.out.trans (hb8.mono hbr.out.size)); clear hb8)
              | (go_at_call_of 16 (#[v, Value.string b, Value.int IntKind.i64 (i : Int), Value.int IntKind.i64 (m : Int)] : Array Value); refine (R2.out _ HB8.out).mono ?_; rintro e w9 ⟨rfl, hb9⟩; have HX9 := hid (HX8.out.trans (hb9.mono HX8.out.size)); clear hb9))
            go_roundw
            case rel => exact ⟨k + 1, m, rfl, by go_num, by omega, by omega, hm, HFN.out.symm, HX9.out⟩
            case measure => simp [intOf]; omega
        · obtain rfl : k = q := by omega
          have hdk : decide ((k : Int) < (k : Int)) = false := decide_eq_false (by omega)
          have hfe := hfar.out
          rw [show ls.drop k = [] from List.drop_eq_nil_of_le (by rw [← HQ.out]; exact Nat.le_refl _), farT] at hfe
          have HFE := hid hfe
          have HBE := hid (HBX.out.trans (hbr.out.mono HBX.out.size))
          clear hfe hfar
          go_wp2
          go_ret
          exact ⟨by rw [← HFE.out]; rfl, HBE.out⟩
    · have hLS : ls = st ++ [1] := by rw [hls, lensT_more (fun h => h1 (g3.2 h)), ← hst]
      have HLS2 : Hid (ints ls = ints st ++ [(1 : Int)]) := by show _ = _; rw [hLS]; simp [ints]
      have HLS := hid hLS
      have hx0 : decide ((0 : Int) ≤ 0 ∧ (0 : Int) < (q : Int)) = true := decide_eq_true ⟨by omega, by omega⟩
      have hdl : decide ((1 : Int) < (la : Int)) = true := decide_eq_true (by omega)
      have hdl2 : decide (1 < la) = true := decide_eq_true (by omega)
      clear hv hL hst hls hall hal hX0 hl0 hq hz hLS hst40 hlf hylen h40 hk0L g2 g3 hla hla2 hk0s hk0
      go_enter Try.func13, Try.ntmps13
      go_wp2_with (first
        | (go_at_call 21; refine (stands_any HV.out (by omega) b hb i hi).mono ?_; rintro e wS ⟨vS, rfl, hoS, hbS⟩; rw [numsI_ints, ← HST.out] at hoS; have hoA := hoS; rw [← ints_length st] at hoA; rw [← HS.out] at hoS; have HOA := hid hoA; clear hoA; obtain ⟨gS, cS, rfl, _, _⟩ := hoS.form (by omega); have eS := hoS.cellAt k0 (by omega); rw [HLA.out] at eS; have HOS := hid hoS; have HBS := hid hbS; clear hoS hbS)
        | (at_builtin; refine wpList_append_ints rfl (.tmp 26) (.tmp 27) rfl w.heap.size _ (ints st) rfl (HOA.out.alloc _) _ [(1 : Int)] rfl (reads_built _ #[.int .i64 1] _ 1 rfl) (by rw [ints_length, ← HS.out]; simp <;> omega) (by have := HBS.out.size; simp; omega) ?_; intro v' w4 hown4 hb4; rw [← HLS2.out, ints_length, ← HQ.out] at hown4; obtain ⟨g3, c3, rfl, _, _⟩ := hown4.form (by omega); have eT := hown4.cellAt 0 (by omega); rw [HE0.out] at eT; have HO := hid hown4; clear hown4))
      have HBX : Hid (Below w.heap.size w w4) := (HBS.out.alloc HBS.out.size _).trans hb4
      clear hb4
      go_loopw [8, 9] (fun vm vk wr => ∃ (k m : Nat), vm = .int .i64 (m : Int) ∧ vk = .int .i64 (k : Int) ∧ 1 ≤ k ∧ k ≤ q ∧ i + m ≤ b.size ∧ Hid (farT (rN L ((nums b).drop i)) m (ls.drop k) = xN L ((nums b).drop i)) ∧ Hid (Below w4.heap.size w4 wr)) (fun _ vk _ => q - (intOf vk).toNat)
      case atStart => exact ⟨1, a0, rfl, rfl, by omega, by omega, HA0.out, HX0.out, Below.refl _ _⟩
      case round =>
        obtain ⟨k, m, rfl, rfl, hk1, hk, hm, hfar, hbr⟩ := hrel
        by_cases hkq : k < q
        · have hdk : decide ((k : Int) < (q : Int)) = true := decide_eq_true (by omega)
          have hx' : (decide ((0 : Int) ≤ (k : Int) ∧ (k : Int) < (q : Int))) = true := decide_eq_true ⟨by omega, by omega⟩
          have hkL : k < ls.length := by rw [← HQ.out]; exact hkq
          have hck := HO.out.cellAt k (by omega)
          rw [ints_get ls k hkL] at hck
          have hfn := farT_next (rN L ((nums b).drop i)) m ls k hkL
          rw [hfar.out] at hfn
          obtain ⟨n, hn⟩ : ∃ n, n = ls[k]'hkL := ⟨_, rfl⟩
          have hnb := HAll.out n (by rw [hn]; exact List.getElem_mem _)
          rw [← hn] at hck hfn
          have hck1 := keeps hbr.out _ _ hck
          have hckA := fun W (hW : Below w4.heap.size w4 W) => keeps hW _ _ hck
          have HcA := hid hckA
          have HB := hid (HBX.out.trans (hbr.out.mono HBX.out.size))
          have R1 := hid (fun W (hW : Below w.heap.size w W) => reachR_any (HV.out.below hW) HL.out b hb i n hnb)
          have R2 := hid (fun W (hW : Below w.heap.size w W) => reachR_any (HV.out.below hW) HL.out b hb i m hm)
          have hr1 := (rN_le HL.out ((nums b).drop i) n (by rw [List.length_drop, nums_length]; omega)).1
          have hr2 := (rN_le HL.out ((nums b).drop i) m (by rw [List.length_drop, nums_length]; omega)).1
          rw [List.length_drop, nums_length] at hr1 hr2
          obtain ⟨f1, hf1⟩ : ∃ f, f = i + rN L ((nums b).drop i) n := ⟨_, rfl⟩
          obtain ⟨f2, hf2⟩ : ∃ f, f = i + rN L ((nums b).drop i) m := ⟨_, rfl⟩
          rw [← hf1] at R1
          rw [← hf2] at R2
          have hf11 : f1 ≤ 1000 := by omega
          have hf21 : f2 ≤ 1000 := by omega
          by_cases hc : f2 < f1
          · have hd : decide ((f2 : Int) < (f1 : Int)) = true := decide_eq_true (by omega)
            have hd' : decide (f2 < f1) = true := decide_eq_true hc
            rw [if_pos (by omega)] at hfn
            have HFN := hid hfn
            clear hfn hf1 hf2 hr1 hr2 hn hck hckA hfar
            go_wp2_with (first
              | (go_at_call_of 16 (#[v, Value.string b, Value.int IntKind.i64 (i : Int), Value.int IntKind.i64 (n : Int)] : Array Value); refine (R1.out _ HB.out).mono ?_; rintro e w8 ⟨rfl, hb8⟩; have HB8 := hid (HB.out.trans (hb8.mono HB.out.size)); have HX8 := hid (hbr.out.trans (hb8.mono hbr.out.size)); clear hb8)
              | (go_at_call_of 16 (#[v, Value.string b, Value.int IntKind.i64 (i : Int), Value.int IntKind.i64 (m : Int)] : Array Value); refine (R2.out _ HB8.out).mono ?_; rintro e w9 ⟨rfl, hb9⟩; have HX9 := hid (HX8.out.trans (hb9.mono HX8.out.size)); have hck9 := HcA.out _ HX9.out; clear hb9))
            go_roundw
            case rel => exact ⟨k + 1, n, rfl, by go_num, by omega, by omega, hnb, HFN.out.symm, HX9.out⟩
            case measure => simp [intOf]; omega
          · have hd : decide ((f2 : Int) < (f1 : Int)) = false := decide_eq_false (by omega)
            have hd' : decide (f2 < f1) = false := decide_eq_false hc
            rw [if_neg (by omega)] at hfn
            have HFN := hid hfn
            clear hfn hf1 hf2 hr1 hr2 hn hck hckA hfar
            go_wp2_with (first
              | (go_at_call_of 16 (#[v, Value.string b, Value.int IntKind.i64 (i : Int), Value.int IntKind.i64 (n : Int)] : Array Value); refine (R1.out _ HB.out).mono ?_; rintro e w8 ⟨rfl, hb8⟩; have HB8 := hid (HB.out.trans (hb8.mono HB.out.size)); have HX8 := hid (hbr.out.trans (hb8.mono hbr.out.size)); clear hb8)
              | (go_at_call_of 16 (#[v, Value.string b, Value.int IntKind.i64 (i : Int), Value.int IntKind.i64 (m : Int)] : Array Value); refine (R2.out _ HB8.out).mono ?_; rintro e w9 ⟨rfl, hb9⟩; have HX9 := hid (HX8.out.trans (hb9.mono HX8.out.size)); clear hb9))
            go_roundw
            case rel => exact ⟨k + 1, m, rfl, by go_num, by omega, by omega, hm, HFN.out.symm, HX9.out⟩
            case measure => simp [intOf]; omega
        · obtain rfl : k = q := by omega
          have hdk : decide ((k : Int) < (k : Int)) = false := decide_eq_false (by omega)
          have hfe := hfar.out
          rw [show ls.drop k = [] from List.drop_eq_nil_of_le (by rw [← HQ.out]; exact Nat.le_refl _), farT] at hfe
          have HFE := hid hfe
          have HBE := hid (HBX.out.trans (hbr.out.mono HBX.out.size))
          clear hfe hfar
          go_wp2
          go_ret
          exact ⟨by rw [← HFE.out]; rfl, HBE.out⟩

set_option maxRecDepth 20000 in
set_option maxHeartbeats 4000000 in
theorem refFlex_any {w : World} {v : Value} {L : List ByteArray} (hv : Reads w v (strs L)) (hL : Fine L) (b : ByteArray) (hb : b.size ≤ 1000) :
    Calls Try.prog 18 #[v, .string b] w fun e w' => ∃ v', e = .returned v' ∧ w'.ownsRow w.heap.size 3 1 v' (xA L (nums b)).length (nats (ints (xA L (nums b)))) ∧ Below w.heap.size w w' := by
  have HV := hid hv
  have HL := hid hL
  have hl := hL.1
  clear hv hL
  go_enter Try.func18, Try.ntmps18
  go_wp2
  go_loopw [5, 6] (fun u vi wr => ∃ (a : Nat) (ts : List Nat), vi = .int .i64 a ∧ a ≤ b.size ∧ ts.length ≤ a ∧ Hid (wr.ownsRow w.heap.size 3 1 u (ints ts).length (nats (ints ts))) ∧ Hid (ts ++ xA L ((nums b).drop a) = xA L (nums b)) ∧ Hid (Below w.heap.size w wr)) (fun _ vi _ => b.size - (intOf vi).toNat)
  case atStart => exact ⟨0, [], rfl, by omega, by simp, World.ownsRow_nil _ _ _ _, by show _ = _; simp, Below.refl _ _⟩
  case round =>
    obtain ⟨a, ts, rfl, ha, hts, hown, heq, hbw⟩ := hrel
    by_cases hlt : a < b.size
    · have hd1 : decide ((a : Int) < (b.size : Int)) = true := decide_eq_true (by omega)
      have hy := drop_some hlt
      have hp := xN_pos HL.out hy
      have he := heq.out
      rw [xA_cons HL.out hy, List.drop_drop] at he
      obtain ⟨t, ht⟩ : ∃ t, t = xT L ((nums b).drop a) := ⟨_, rfl⟩
      obtain ⟨n, hn⟩ : ∃ n, n = xN L ((nums b).drop a) := ⟨_, rfl⟩
      have HF := hid (fun W (hW : Below w.heap.size w W) => second_any (HV.out.below hW) HL.out b hb a hlt)
      rw [← hn] at HF
      rw [← hn, List.length_drop, nums_length] at hp
      have hn1 := hp.1
      have hn2 : a + n ≤ b.size := by omega
      have HT := hid (fun W (hW : Below w.heap.size w W) => token_any (HV.out.below hW) (by omega) b hb a n hlt hn2)
      have etok : tokT (L.map nums) ((nums b).drop a) n = t := by rw [ht, hn]; rfl
      rw [etok] at HT
      rw [← ht, ← hn] at he
      have HE : Hid ((ts ++ [t]) ++ xA L ((nums b).drop (a + n)) = xA L (nums b)) := by show _ = _; rw [List.append_assoc]; exact he
      have hw : Hid (w.heap.size ≤ wr.heap.size) := hbw.out.size
      clear he heq hy hp ht hn etok
      go_wp2_with (first
        | (go_at_call 13; refine (HF.out _ hbw.out).mono ?_; rintro e w1 ⟨rfl, hb1⟩; have HB1 := hid (hbw.out.trans (hb1.mono hw.out)); have HO1 := hid (ownsRow_below hown.out hb1); clear hb1)
        | (go_at_call 14; refine (HT.out _ HB1.out).mono ?_; rintro e w2 ⟨rfl, rfl⟩)
        | (at_builtin; refine wpList_append_ints rfl (.tmp 16) (.tmp 22) rfl w.heap.size _ (ints ts) rfl (HO1.out.alloc _) _ [(t : Int)] rfl (reads_built _ #[.int .i64 (t : Int)] _ 1 rfl) (by rw [ints_length]; simp; omega) (by have := HB1.out.size; simp; omega) ?_; intro v' w4 hown4 hb4))
      have HB4 : Hid (Below w.heap.size w w4) := (HB1.out.alloc HB1.out.size _).trans hb4
      have HO4 : Hid (w4.ownsRow w.heap.size 3 1 v' (ints (ts ++ [t])).length (nats (ints (ts ++ [t])))) := by
        have e : ints (ts ++ [t]) = ints ts ++ [(t : Int)] := by simp [ints]
        show World.ownsRow _ _ _ _ _ _ _
        rw [e]; exact hown4
      clear hown4 hb4 hown hbw HB1 HO1
      go_roundw
      case rel => exact ⟨a + n, ts ++ [t], by go_num, by omega, by simp; omega, HO4.out, HE.out, HB4.out⟩
      case measure => simp [intOf]; omega
    · obtain rfl : a = b.size := by omega
      have hd : (nums b).drop b.size = [] := List.drop_eq_nil_of_le (by rw [nums_length]; omega)
      have he := heq.out
      rw [hd, xA_nil, List.append_nil] at he
      subst he
      have ho := hown.out
      rw [ints_length] at ho
      have HO := hid ho
      clear ho hown heq hd
      go_wp2
      go_ret
      exact ⟨_, rfl, HO.out, hbw.out⟩
end Go.Proofs.Ythgpacpahljabaa
