/-
  HitsLongest: the longest phrase at a place is the first of those that stand there. For every list of texts, every bytes.
  No condition: whatever the input, in whatever memory; the arguments read as before.
-/
import Derived.Test.YtfeibhdnmfiflaaAlive11
import Derived.ShutString
import Derived.ChangeOld
import Derived.SizedLaws
namespace Go.Proofs.Ytfeibhdnmfiflaa
open Go.ChangeShapes Go.WideShapes Go.ChangeAt Go.RowKit
open Go.ChangeMaps (open_string shut_string)

theorem lens_stands {L : List ByteArray} {b : ByteArray} {C CS : Nat → List Nat} (hL : Fine L) (h : ∀ k, k < b.size → AtOf L b.size (asHits (hitsT (L.map nums) 0 [] (nums b))) k (CS k) ∧ C k = (CS k).map (lenL L)) (k : Nat) (hk : k < b.size) : C k = standsT (L.map nums) 40 ((nums b).drop k) := by
  obtain ⟨h1, h2⟩ := h k hk
  rw [h2, atOf_ids hL (fun _ => Iff.rfl) h1 (by omega), idsT_lens hL]

theorem longest_nil {w : World} {d : Value} {L : List ByteArray} (h : DictV w d L) (hL : Fine L) (b : ByteArray) (hb : b.size ≤ 1000) (i : Nat) (hi : i < b.size) (hS : standsT (L.map nums) 40 ((nums b).drop i) = []) :
    Calls Try.prog 13 #[d, .string b, .int .i64 (i : Int)] w fun e w' => e = .returned (.tuple #[.int .i64 (-1), .int .i64 0]) ∧ w' = w := by
  have hFi := (fine_iff L).1 hL
  refine (longest_any h (by omega) hFi.2.1 b hb i hi).mono ?_
  rintro e w' ⟨k, m, rfl, hg, rfl⟩
  rcases lg_stands hL hg with ⟨_, rfl, rfl⟩ | ⟨l, h1, _⟩
  · exact ⟨rfl, rfl⟩
  · rw [hS] at h1; cases h1

theorem longest_cons {w : World} {d : Value} {L : List ByteArray} (h : DictV w d L) (hL : Fine L) (b : ByteArray) (hb : b.size ≤ 1000) (i : Nat) (hi : i < b.size) (m id : Nat) (l : List Nat) (hS : standsT (L.map nums) 40 ((nums b).drop i) = m :: l) (hid1 : id = (L.map nums).idxOf (((nums b).drop i).take m)) :
    Calls Try.prog 13 #[d, .string b, .int .i64 (i : Int)] w fun e w' => e = .returned (.tuple #[.int .i64 (id : Int), .int .i64 (m : Int)]) ∧ w' = w := by
  have hFi := (fine_iff L).1 hL
  refine (longest_any h (by omega) hFi.2.1 b hb i hi).mono ?_
  rintro e w' ⟨k, q, rfl, hg, rfl⟩
  rcases lg_stands hL hg with ⟨h0, rfl, rfl⟩ | ⟨l2, h1, _, _, h2⟩
  · rw [hS] at h0; cases h0
  · rw [hS] at h1
    injection h1 with h3 h4
    subst h3
    rw [h2, ← hid1]
    exact ⟨rfl, rfl⟩

theorem slice_between (b : ByteArray) (i j : Nat) (hij : i ≤ j) (hj : j ≤ b.size) (W : World) : (Instr.slice 9 (.string b) (some (.int .i64 (i : Int))) (some (.int .i64 (j : Int))) none).run Try.prog W = .ok (.string (b.extract i j)) W := by
  rw [run_slice_string (P := Try.prog) W 9 b .i64 .i64 (i : Int) (j : Int) Try.underlying9 (by omega) (by omega) (by omega)]
  rw [show ((i : Int)).toNat = i by omega, show ((j : Int)).toNat = j by omega]

/-- The text of the phrase that stands there. -/
theorem stands_text {L : List ByteArray} {b : ByteArray} {i m : Nat} (hm : ((nums b).drop i).take m ∈ L.map nums) : ∃ h : (L.map nums).idxOf (((nums b).drop i).take m) < L.length, L[(L.map nums).idxOf (((nums b).drop i).take m)]'h = b.extract i (i + m) := by
  obtain ⟨h, e⟩ := text_of_id hm
  refine ⟨h, nums_inj _ _ ?_⟩
  rw [e, nums_extract, show i + m - i = m by omega]

theorem standsT_few (P : List (List Nat)) (m : Nat) (x : List Nat) : (standsT P m x).length ≤ m := by
  unfold standsT
  refine Nat.le_trans (List.length_filter_le _ _) ?_
  simp
  omega

/-- A row of the lengths that stand at a place: they fall, none below 1. -/
theorem row_falls {P : List (List Nat)} (hP : ∀ s ∈ P, s.length ≤ 40) {x : List Nat} {m : Nat} {l : List Nat} (hS : standsT P 40 x = m :: l) {w : World} {B : Nat} {v : Value} (ho : w.ownsRow B 3 1 v (m :: l).length (numsI (m :: l))) : ∃ (sN : Nat → Nat) (q : Nat), 0 < q ∧ q ≤ 40 ∧ sN 0 = m ∧ (∀ j, j < q → 1 ≤ sN j) ∧ (∀ j, j + 1 < q → sN (j + 1) < sN j) ∧ ∃ g c, v = .slice (some ⟨g, 0, none⟩) q c ∧ ∀ j, j < q → w.cell? ⟨g, j, none⟩ = some (.int .i64 (sN j : Int)) := by
  have hat : ∀ j (h : j < (m :: l).length), (m :: l).getD j 0 = (m :: l)[j]'h := fun j h => by simp only [List.getD, List.getElem?_eq_getElem h, Option.getD_some]
  refine ⟨fun j => (m :: l).getD j 0, (m :: l).length, by simp, by rw [← hS]; exact standsT_few _ _ _, rfl, fun j hj => ?_, fun j hj => ?_, ?_⟩
  · show 1 ≤ (m :: l).getD j 0
    rw [hat j hj]
    exact ((standsT_mem P 40 hP x _).1 (by rw [hS]; exact List.getElem_mem _)).1
  · show (m :: l).getD (j + 1) 0 < (m :: l).getD j 0
    rw [hat j (by omega), hat (j + 1) hj]
    have hf := standsT_falls P 40 x
    rw [hS] at hf
    exact List.pairwise_iff_getElem.1 hf j (j + 1) (by omega) hj (by omega)
  · obtain ⟨g, c, rfl, _, _⟩ := ho.form (by simp)
    refine ⟨g, c, rfl, fun j hj => ?_⟩
    have h1 := ho.cellAt j (by omega)
    rw [numsI_at _ j hj] at h1
    rw [h1]
    show some (Value.int .i64 (((m :: l)[j]'hj : Nat) : Int)) = some (Value.int .i64 (((m :: l).getD j 0 : Nat) : Int))
    rw [hat j hj]

set_option maxRecDepth 20000 in
set_option maxHeartbeats 8000000 in
theorem longest_walk (v : Value) (L : List ByteArray) (b : ByteArray) (w : World) (h : ListIn w v L) :
    Calls Try.prog 4 #[v, .string b] w fun e w' => e = .returned (.bool true) ∧ Below w.heap.size w w' := by
  have H := hid h
  obtain ⟨⟨a, ca, rfl, ha⟩, hq2, hq3⟩ := h
  rw [strs_length] at *
  clear ha hq2 hq3
  by_cases hf : FewL L
  · have hd1 : fewB L = true := decide_eq_true hf
    have hsz := hf.sizes
    have HSZ := hid hf.2
    by_cases hcond : b.size ≤ 150
    · have hdb : decide ((150 : Int) < (b.size : Int)) = false := decide_eq_false (by omega)
      have hdb2 : decide (150 < b.size) = false := decide_eq_false (by omega)
      rcases fine_or_bad L with hL | ⟨cd, a0, hL⟩
      · have HF := hid hL
        have hl100 := hL.1
        clear hL hsz hf
        go_enter Try.func4, Try.ntmps4
        go_wp2_with (first
          | (go_at_call 7; refine (few_any H.out).mono ?_; rintro e w1 ⟨rfl, rfl⟩; rw [hd1])
          | (go_at_call 8; refine (alive_any _).mono ?_; rintro e w2 ⟨rfl, hb2⟩; have H2 := hid (H.out.below hb2); have HB2 := hid hb2; clear hb2)
          | (go_at_call 10; refine (make_fine H2.out.1 HF.out).mono ?_; rintro e w4 ⟨p, rfl, hd4, hb4⟩; have HD := hid (dict_v hd4); have HL4 := hid (H2.out.1.below hb4); have HB4 := hid (below_more HB2.out hb4); clear hd4 hb4)
          | (go_at_call 12; refine (lengths_any HD.out HF.out b (by omega)).mono ?_; rintro e w5 ⟨g5, V, C, CS, rfl, hl5, hg5, ha5, hb5⟩; have HLt := hid hl5; have HC := hid (lens_stands HF.out ha5); have HD5 := hid (HD.out.below hb5); have HL5 := hid (HL4.out.below hb5); have HB5 := hid (below_more HB4.out hb5); clear hl5 hg5 ha5 hb5))
        clear HD HL4 HB4 H2 HB2
        go_loopw [38] (fun vi wr => ∃ i : Nat, vi = .int .i64 i ∧ i ≤ b.size ∧ Hid (Below w5.heap.size w5 wr)) (fun vi _ => b.size - (intOf vi).toNat)
        case atStart => exact ⟨0, rfl, by omega, Below.refl _ _⟩
        case round =>
          obtain ⟨i, rfl, hi, hbw⟩ := hrel
          by_cases hin : i < b.size
          · have HLr := hid (HLt.out.below hbw.out)
            have hS := HC.out i hin
            have c1 := HLr.out.row.cell hin
            have hown := HLr.out.each i hin
            have hx : (decide ((0 : Int) ≤ (i : Int) ∧ (i : Int) < (b.size : Int))) = true := decide_eq_true ⟨by omega, by omega⟩
            have HDr := hid (HD5.out.below hbw.out)
            have hib : i < b.size := hin
            rw [hS] at hown
            cases hSS : standsT (L.map nums) 40 ((nums b).drop i) with
            | nil =>
              rw [hSS] at hown
              obtain ⟨av, cv, hV⟩ := ownsRow_slice hown
              rw [hV] at c1
              have HLG := hid (longest_nil HDr.out HF.out b (by omega) i hib hSS)
              clear hown hS hSS hV
              go_wp2_with (go_at_call 13; refine (HLG.out).mono ?_; rintro e w6 ⟨rfl, rfl⟩)
              go_quiet (fail)
              have hbq := hid (below_more hbw.out (drewN_below w6 nq _))
              have c2 := keeps (drewN_below w6 nq _) _ _ c1
              clear HLr HDr HLG c1 hbw
              generalize w6.drewN nq = w7 at hbq c2 ⊢
              go_wp2
              go_loopw [10] (fun vj wr2 => vj = .int .i64 1 ∧ wr2 = w7) (fun _ _ => 0)
              case atStart => exact ⟨rfl, rfl⟩
              case round =>
                obtain ⟨rfl, rfl⟩ := hrel
                go_wp2
                go_roundw
                case rel => exact ⟨i + 1, by go_num, by omega, hbq.out⟩
                case measure => simp [intOf]; omega
            | cons m l =>
              clear hown c1 HLr
              obtain ⟨hm1, hm2, hm3⟩ := (standsT_mem (L.map nums) 40 (phrases_short HF.out) ((nums b).drop i) m).1 (by rw [hSS]; simp)
              obtain ⟨sN, q, hq1, hq40, hs0, hsp, hsd, hrow⟩ := row_falls (P := L.map nums) (phrases_short HF.out) hSS (by have h1 := HLt.out.each i hin; rw [hS, hSS] at h1; exact h1)
              obtain ⟨gi, cv, hV, hcells⟩ := hrow
              have HROW : Hid (∀ W, Below w5.heap.size w5 W → W.cell? ⟨g5, i, none⟩ = some (.slice (some ⟨gi, 0, none⟩) q cv) ∧ ∀ j, j < q → W.cell? ⟨gi, j, none⟩ = some (.int .i64 (sN j : Int))) := fun W hW => by
                have h1 := HLt.out.row.cell hin
                rw [hV] at h1
                exact ⟨keeps hW _ _ h1, fun j hj => keeps hW _ _ (hcells j hj)⟩
              clear hV hcells
              obtain ⟨id, hid1⟩ : ∃ id, id = (L.map nums).idxOf (((nums b).drop i).take m) := ⟨_, rfl⟩
              have HLG := hid (longest_cons HDr.out HF.out b (by omega) i hib m id l hSS hid1)
              obtain ⟨hidL, htx⟩ : ∃ h : id < L.length, L[id]'h = b.extract i (i + m) := by rw [hid1]; exact stands_text hm3
              have hml : i + m ≤ b.size := by rw [List.length_drop, nums_length] at hm2; omega
              obtain ⟨j2, hj2⟩ : ∃ j2, j2 = i + m := ⟨_, rfl⟩
              rw [← hj2] at htx hml
              have hij2 : i ≤ j2 := by omega
              have hsl := fun W => slice_between b i j2 hij2 hml W
              have hsum : (i : Int) + (m : Int) = (j2 : Int) := by omega
              have HTX := hid htx
              obtain ⟨a9, c9, hv9, h9⟩ := HL5.out
              injection hv9 with e1 e2 e3
              rcases h9 with h9 | ⟨gb, ob, rfl, hgb, hcb⟩
              · rw [strs_length] at h9; omega
              subst e1
              have HCB : Hid (∀ W, Below w5.heap.size w5 W → W.cell? ⟨gb, ob + id, none⟩ = some (.string (b.extract i j2))) := fun W hW => by
                have h1 := hcb id (by rw [strs_length]; exact hidL)
                rw [strs_at L id hidL, HTX.out] at h1
                exact keeps hW _ _ h1
              obtain ⟨t, ht⟩ : ∃ t, t = b.extract i j2 := ⟨_, rfl⟩
              rw [← ht] at HCB hsl
              have hte : (t.toList == t.toList) = true := by simp
              have htn : (t.toList != t.toList) = false := by simp
              have HS0 := hid hs0
              have HSP := hid hsp
              have HSD := hid hsd
              obtain ⟨c1, cj⟩ := HROW.out wr hbw.out
              have c0 := cj 0 hq1
              rw [hs0] at c0
              have cb := HCB.out wr hbw.out
              have hq0 : ((q : Int) == 0) = false := beq_false_of_ne (by omega)
              have hqp : decide ((0 : Int) < (q : Int)) = true := decide_eq_true (by omega)
              have hqp2 : decide (0 < q) = true := decide_eq_true (by omega)
              have hx0 : (decide ((0 : Int) ≤ 0 ∧ (0 : Int) < (q : Int))) = true := decide_eq_true ⟨by omega, by omega⟩
              have hxi : (decide ((0 : Int) ≤ (id : Int) ∧ (id : Int) < (L.length : Int))) = true := decide_eq_true ⟨by omega, by omega⟩
              have hd3 : decide ((id : Int) < 0) = false := decide_eq_false (by omega)
              have hd4 : decide ((L.length : Int) ≤ (id : Int)) = false := decide_eq_false (by omega)
              have hd5 : decide (L.length ≤ id) = false := decide_eq_false (by omega)
              have hmm : ((m : Int) != (m : Int)) = false := by simp
              clear hid1 htx hj2 hcb e2 e3 HDr hs0 hsp hsd cj hS hSS ht hm2 hm3
              go_wp2_with (go_at_call 13; refine (HLG.out).mono ?_; rintro e w6 ⟨rfl, rfl⟩)
              go_quiet (fail)
              have hbq := hid (below_more hbw.out (drewN_below w6 nq _))
              clear HLG c1 c0 cb hbw
              generalize w6.drewN nq = w7 at hbq ⊢
              go_wp2
              go_loopw [10] (fun vj wr2 => ∃ j : Nat, vj = .int .i64 j ∧ 1 ≤ j ∧ j ≤ q ∧ Hid (Below w5.heap.size w5 wr2)) (fun vj _ => q - (intOf vj).toNat)
              case atStart => exact ⟨1, rfl, by omega, by omega, hbq.out⟩
              case round =>
                clear hbq
                obtain ⟨j, rfl, hj1, hjq, hbq⟩ := hrel
                obtain ⟨c1, cj⟩ := HROW.out wr hbq.out
                by_cases hjl : j < q
                · obtain ⟨j0, rfl⟩ : ∃ j0, j = j0 + 1 := ⟨j - 1, by omega⟩
                  have ca := cj (j0 + 1) hjl
                  have cb := cj j0 (by omega)
                  have h1 := HSP.out (j0 + 1) hjl
                  have h2 := HSD.out j0 hjl
                  obtain ⟨x, hx⟩ : ∃ x, x = sN (j0 + 1) := ⟨_, rfl⟩
                  obtain ⟨y, hy⟩ : ∃ y, y = sN j0 := ⟨_, rfl⟩
                  rw [← hx] at ca h1 h2
                  rw [← hy] at cb h2
                  obtain ⟨j, hj⟩ : ∃ j, j = j0 + 1 := ⟨_, rfl⟩
                  rw [← hj] at ca hjl ⊢
                  have hxj : (decide ((0 : Int) ≤ (j : Int) ∧ (j : Int) < (q : Int))) = true := decide_eq_true ⟨by omega, by omega⟩
                  have hxj0 : (decide ((0 : Int) ≤ (j0 : Int) ∧ (j0 : Int) < (q : Int))) = true := decide_eq_true ⟨by omega, by omega⟩
                  have hsub : (j : Int) - 1 = (j0 : Int) := by omega
                  have hwr : IntKind.i64.wrap ((j : Int) - 1) = (j0 : Int) := by rw [hsub, IntKind.wrap_i64]; omega
                  have hwr0 : IntKind.i64.wrap (j0 : Int) = (j0 : Int) := by rw [IntKind.wrap_i64]; omega
                  have hd6 : decide ((y : Int) ≤ (x : Int)) = false := decide_eq_false (by omega)
                  have hd7 : decide (y ≤ x) = false := decide_eq_false (by omega)
                  have hd8 : decide ((x : Int) < 1) = false := decide_eq_false (by omega)
                  have hd9 : decide (x < 1) = false := decide_eq_false (by omega)
                  have hjs : j < q := hjl
                  have hj11 : 1 ≤ j := by omega
                  clear hx hy hj h1 h2 cj
                  go_wp2
                  go_quiet (fail)
                  have hbq2 := hid (below_more hbq.out (drewN_below wr nq _))
                  clear c1 ca cb hbq
                  generalize wr.drewN nq = w8 at hbq2 ⊢
                  go_wp2
                  go_roundw
                  case rel => exact ⟨j + 1, by go_num, by omega, by omega, hbq2.out⟩
                  case measure => simp [intOf]; omega
                · have hdq : decide ((j : Int) < (q : Int)) = false := decide_eq_false (by omega)
                  clear cj
                  go_wp2
                  go_roundw
                  case rel => exact ⟨i + 1, by go_num, by omega, hbq.out⟩
                  case measure => simp [intOf]; omega
          · go_wp2
            go_ret
            exact ⟨rfl, below_more HB5.out hbw.out⟩
      · go_enter Try.func4, Try.ntmps4
        go_wp2_with (first
          | (go_at_call 7; refine (few_any H.out).mono ?_; rintro e w1 ⟨rfl, rfl⟩; rw [hd1])
          | (go_at_call 8; refine (alive_any _).mono ?_; rintro e w2 ⟨rfl, hb2⟩; have H2 := hid (H.out.below hb2))
          | (go_at_call 10; refine (make_bad H2.out.1 (by omega) (fun s hs => by have := hsz.2 s hs; omega) hL).mono ?_; rintro e w3 ⟨rfl, hb3⟩; have hb23 := below_more hb2 hb3))
        go_ret
        exact ⟨rfl, hb23⟩
    · have hdb : decide ((150 : Int) < (b.size : Int)) = true := decide_eq_true (by omega)
      have hdb2 : decide (150 < b.size) = true := decide_eq_true (by omega)
      go_enter Try.func4, Try.ntmps4
      go_wp2_with (first
        | (go_at_call 7; refine (few_any H.out).mono ?_; rintro e w1 ⟨rfl, rfl⟩; rw [hd1])
        | (go_at_call 8; refine (alive_any _).mono ?_; rintro e w2 ⟨rfl, hb2⟩))
      go_ret
      exact ⟨rfl, hb2⟩
  · have hd1 : fewB L = false := decide_eq_false hf
    go_enter Try.func4, Try.ntmps4
    go_wp2_with (first
      | (go_at_call 7; refine (few_any H.out).mono ?_; rintro e w1 ⟨rfl, rfl⟩; rw [hd1])
      | (go_at_call 8; refine (alive_any _).mono ?_; rintro e w2 ⟨rfl, hb2⟩))
    go_ret
    exact ⟨rfl, hb2⟩

set_option linter.unusedVariables false
theorem hitsLongest_own : ownKnob Try.prog.godebug = none := by kernel_rfl

theorem hitsLongest_laidOut : laidOutB Try.prog = true := by kernel_rfl

set_option maxRecDepth 100000 in
theorem hitsLongest_lifted (os : Os) (started : os.Started) (H : Type) (enc : TypeId × Value → H) :
    ReturnsInHanded {} Try.checked os 4 .any (Rows.hitsLongestSpec.pre6 enc Try.prog Try.f4 Rows.hitsLongestRow.domain false) (Rows.hitsLongestSpec.post enc Try.prog Try.f4 false true false false) := by
  refine returnsInHanded_of_change_sized (C := Try.checked) hitsLongest_own started (by kernel_rfl) Try.func4
    (ChangeSpec.witness6 (enc := enc) (C := Try.checked) false ⟨#[], #[.slice none 0 0, .string ByteArray.empty], []⟩ 8 (by kernel_rfl) (by kernel_rfl) (by kernel_rfl) (by kernel_rfl)) ?_
  intro W base args ds gs before hval0 hW hcnd hsz0 _
  have hsz : (DataW.weightsEach Try.prog (Try.f4.params.toList ++ Rows.hitsLongestSpec.plain.varTypes Try.prog) (ds ++ gs)).all (· ≤ reachBytes) = true := hsz0
  have hval : ∀ (j : Nat) t v, Try.f4.params[j]? = some t → args[j]? = some v → Value.okWide Try.prog W .any base t v := hval0
  have hW' := hW
  obtain ⟨p, q, hA0, hV, rfl, hfz, hnd⟩ := hW
  have hA : DataW.TrodAll enc Try.prog W 0 (fun _ => true) true Try.f4.params.toList args.toList ds p := hA0
  rw [Try.params4] at hA hval hsz
  obtain ⟨v0, vs0, d0, ds0, p0, q0, hargs, rfl, rfl, h0, r0⟩ := trodAll_cons hA
  obtain ⟨v1, vs1, d1, ds1, p1, q1, rfl, rfl, rfl, h1, r1⟩ := trodAll_cons r0
  obtain ⟨rfl, rfl, rfl⟩ := trodAll_nil r1
  obtain rfl : args = #[v0, v1] := by cases args; simp_all
  obtain ⟨rfl, rfl⟩ := trodVars_none hV
  obtain ⟨a0, len0, cap0, rfl⟩ := okWide_slice Try.underlying22 (hval 0 22 v0 rfl rfl)
  have k0 := h0
  have lt0 : ∀ x ∈ p0, x.block < W.heap.size := by obtain ⟨m, hm⟩ := k0; exact DataW.trod_lt m _ _ _ hm
  obtain ⟨z0, w0⟩ := h0.elim (fun _ hf => open_list hf hsz 0 rfl rfl)
  obtain ⟨a1, rfl, rfl, rfl, w1⟩ := open_string Try.underlying9 (hval 1 9 v1 rfl rfl) h1
  clear hA0 hval0
  have s1 : a1.size ≤ 140737488351232 := by have h := sized_string hsz (j := 1) (t := 9) rfl rfl; rw [Array.length_toList] at h; exact h
  refine (longest_walk _ z0 a1 W w0).mono fun e W' ⟨he, bel⟩ => ?_
  subst he
  exact ⟨_, rfl, _, _, _, [], _, [], hW', trodAll_mk1 (shut_bool Try.underlying4 _), (trodAll_cons_mk (Below.trod hitsLongest_laidOut (by kernel_rfl) (of_decide_eq_true (by kernel_rfl)) k0 bel lt0) (trodAll_cons_mk (shut_string Try.underlying9 w1) trodAll_mk0)), rfl, bel.frame _, fun h => by cases h⟩

/-- THE STATEMENT. -/
theorem hitsLongest_holds : Rows.HitsLongestSaid :=
  OpenClaim.holds_of_wide 4 Try.f4 rfl rfl rfl rfl rfl rfl rfl ⟨rfl, rfl, rfl, rfl, rfl⟩ rfl rfl rfl rfl rfl (by kernel_rfl) Try.func4 (by kernel_rfl)
    (of_decide_eq_true (by kernel_rfl)) (by unfold Func.isWrapper; first | (rw [if_pos (by decide +kernel)]; kernel_rfl) | (rw [if_neg (by decide +kernel)]; exact ⟨rfl, rfl⟩))
    (fun os started H enc _ => hitsLongest_lifted os started H enc)
#print axioms hitsLongest_holds
end Go.Proofs.Ytfeibhdnmfiflaa
