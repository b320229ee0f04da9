/-
  BestEnds: what is behind a place costs what it costs by itself. For every list of texts, every bytes, every number.
  No condition: whatever the input, in whatever memory; the arguments read as before.
-/
import Derived.Test.YtdplflcaanmmiabAlive15
import Derived.Test.YtdplflcaanmmiabBookCosts1
import Derived.BigQuiet
import Derived.Deep.CutRange
import Derived.ShutString
import Derived.ChangeOld
import Derived.SizedLaws
namespace Go.Proofs.Ytdplflcaanmmiab
open Go.ChangeShapes Go.WideShapes Go.ChangeAt Go.RowKit
open Go.ChangeMaps (open_string shut_string)

/-- Where the list is cut. -/
theorem cut_at (k : Int) (K : Nat) : ∃ r : Int, r = Int.tmod k ((K : Int) + 1) ∧ ∃ n : Nat, n ≤ K ∧ Int.tmod (r + (K : Int) + 1) ((K : Int) + 1) = (n : Int) ∧ -(K : Int) ≤ r ∧ r ≤ (K : Int) := by
  refine ⟨_, rfl, ?_⟩
  have h1 : Int.tmod k ((K : Int) + 1) < (K : Int) + 1 := Int.tmod_lt_of_pos k (by omega)
  have h2 : -((K : Int) + 1) < Int.tmod k ((K : Int) + 1) := by
    have h3 := Int.tmod_lt_of_pos (-k) (b := (K : Int) + 1) (by omega)
    rw [Int.neg_tmod] at h3
    omega
  obtain ⟨r, hr⟩ : ∃ r, r = Int.tmod k ((K : Int) + 1) := ⟨_, rfl⟩
  rw [← hr] at h1 h2 ⊢
  have h4 : 0 ≤ r + (K : Int) + 1 := by omega
  have h5 := Int.tmod_nonneg ((K : Int) + 1) h4
  have h6 := Int.tmod_lt_of_pos (r + (K : Int) + 1) (b := (K : Int) + 1) (by omega)
  exact ⟨(Int.tmod (r + (K : Int) + 1) ((K : Int) + 1)).toNat, by omega, by omega, by omega, by omega⟩

/-- The cut, as it is reckoned. -/
theorem cut_wrap (k : Int) (K : Nat) (hK : K ≤ 6000) : ∃ n : Nat, n ≤ K ∧ (wrap64 (wrap64 (k.tmod ((K : Int) + 1) + (K : Int)) + 1)).tmod ((K : Int) + 1) = (n : Int) := by
  obtain ⟨r, hr, n, h1, h2, h3, h4⟩ := cut_at k K
  rw [← hr]
  have e1 : wrap64 (r + (K : Int)) = r + (K : Int) := by unfold wrap64; omega
  have e2 : wrap64 (r + (K : Int) + 1) = r + (K : Int) + 1 := by unfold wrap64; omega
  rw [e1, e2]
  exact ⟨n, h1, h2⟩

/-- Costs as whole numbers. -/
def asC (cs : List (Nat × Nat)) : List (Int × Int) := cs.map (fun c => ((c.1 : Int), (c.2 : Int)))
theorem asC_length (cs : List (Nat × Nat)) : (asC cs).length = cs.length := by simp [asC]
theorem ccells_asC (cs : List (Nat × Nat)) : ccells (asC cs) = cNs cs := by
  unfold ccells asC cNs
  rw [List.map_map]
  refine List.map_congr_left (fun c _ => ?_)
  show cval _ = cN _
  unfold cval cN
  rw [iN_nat, iN_nat]
theorem asC_small {cs : List (Nat × Nat)} (h : ∀ c ∈ cs, c.1 ≤ 1000 ∧ c.2 ≤ 40000) : SmallC (asC cs) := by
  intro c hc
  obtain ⟨d, hd, rfl⟩ := List.mem_map.1 hc
  have := h d hd
  simp only [Int.natAbs_natCast]
  omega

/-- Costs from a place on. -/
theorem slice_costsW (g k N cap : Nat) (hk : k < N) (hN : N ≤ cap) (W : World) : (Instr.slice 37 (.slice (some ⟨g, 0, none⟩) N cap) (some (.int .i64 (k : Int))) none none).run Try.prog W = .ok (.slice (some ⟨g, k, none⟩) (N - k) (cap - k)) W := by
  rw [run_slice_l W _ _ N cap Try.elemCx .i64 (k : Int) (by omega) (by omega), Try.sizeCx, Int.toNat_natCast]
  by_cases h0 : k = 0
  · subst h0
    simp [Result.andThen_ok, sliced, Addr.add]
  · simp [Result.andThen_ok, sliced, if_neg (show ¬ cap = k by omega), Option.map_some, Addr.add, h0]

theorem own_cap {w : World} {B g N cap : Nat} {xs : List Value} (h : w.ownsRow B 33 1 (.slice (some ⟨g, 0, none⟩) N cap) N xs) : N ≤ cap := by
  rcases h.2 with ⟨e, _⟩ | ⟨g2, c2, cur, e, _, _, h3, _⟩
  · cases e
  · injection e with e1 e2 e3; omega

theorem reads_from {w : World} {B g N cap k : Nat} {xs : List Value} (h : w.ownsRow B 33 1 (.slice (some ⟨g, 0, none⟩) N cap) N xs) (hk : k < N) : Reads w (.slice (some ⟨g, k, none⟩) (N - k) (cap - k)) (xs.drop k) := by
  have hl : xs.length = N := by have := h.1; omega
  refine ⟨_, cap - k, by rw [List.length_drop, hl], .inr ⟨g, k, rfl, (h.lt g rfl).2, fun i hi => ?_⟩⟩
  rw [List.length_drop, hl] at hi
  rw [List.getElem?_drop]
  exact h.cellAt (k + i) (by omega)

set_option maxRecDepth 20000 in
set_option maxHeartbeats 8000000 in
theorem ends_walk (v : Value) (L : List ByteArray) (b : ByteArray) (k : Int) (w : World) (h : ListIn w v L) :
    Calls Try.prog 4 #[v, .string b, .int .i64 k] w fun e w' => e = .returned (.bool true) ∧ Below w.heap.size w w' := by
  have H := hid h
  clear h
  by_cases hfits : Fits L (b)
  · obtain ⟨_, h400, hF⟩ := id hfits
    have HF := hid hF
    have hl100 := hF.1
    have HFits := hid hfits
    clear hF hfits
    obtain ⟨n, hn, hcw⟩ := cut_wrap k b.size (by omega)
    have hsl : ∀ W : World, (Instr.slice 9 (.string b) (some (.int .i64 (n : Int))) none none).run Try.prog W = .ok (.string (b.extract n b.size)) W := fun W => by
      rw [run_slice_string_l (P := Try.prog) (t := 9) (w := W) (s := b) Try.underlying9 .i64 (n : Int) (by omega) (by omega), Int.toNat_natCast]
    have hsz : (b.extract n b.size).size = b.size - n := by rw [← nums_length, nums_extract, List.length_take, List.length_drop, nums_length]; omega
    have hnx : nums (b.extract n b.size) = (nums b).drop n := by rw [nums_extract, List.take_of_length_le (by rw [List.length_drop, nums_length]; exact Nat.le_refl _)]
    obtain ⟨s, hs⟩ : ∃ s, s = b.extract n b.size := ⟨_, rfl⟩
    rw [← hs] at hsl hsz hnx
    clear hs
    have HNX := hid hnx
    have HSZ := hid hsz
    have hs1 : s.size ≤ 400 := by omega
    have hxn : (b.size : Int) - (n : Int) = (s.size : Int) := by omega
    have hbb : ((b.size : Int) + 1 == ((b.size : Int) + 1)) = true := by simp
    have hss : ((s.size : Int) + 1 == ((s.size : Int) + 1)) = true := by simp
    have HT := hid (txt_nums b (by omega))
    clear hsz hnx
    go_enter Try.func4, Try.ntmps4
    go_wp2_with (first
      | (go_at_call 5; refine (dict_fits H.out HFits.out).mono ?_; rintro e w1 ⟨p, rfl, hd1, hb1⟩; have HD1 := hid hd1; have H1 := hid (H.out.below hb1); have HB1 := hid hb1; clear hd1 hb1)
      | (go_at_call 6; refine (alive_15 _).mono ?_; rintro e w2 ⟨rfl, hb2⟩; have H2 := hid (H1.out.below hb2); have HD2 := hid (HD1.out.below hb2); have HB2 := hid (HB1.out.trans (hb2.mono HB1.out.size)); clear hb2))
    have hdr : Below w2.heap.size w2 w2.drew := (Below.refl _ _).drew
    have HDd := hid (HD2.out.below hdr)
    have HBd := hid (below_more HB2.out hdr)
    clear hdr
    go_cut [10, 11] from 40 (fun u10 u11 wc => ∃ g cap g2 cap2 : Nat, u10 = .slice (some ⟨g, 0, none⟩) (b.size + 1) cap ∧ u11 = .slice (some ⟨g2, 0, none⟩) (s.size + 1) cap2 ∧ Hid (wc.ownsRow w2.heap.size 33 1 (.slice (some ⟨g, 0, none⟩) (b.size + 1) cap) (b.size + 1) (cNs (bCs L (nums b)))) ∧ Hid (wc.ownsRow w2.heap.size 33 1 (.slice (some ⟨g2, 0, none⟩) (s.size + 1) cap2) (s.size + 1) (cNs (bCs L ((nums b).drop n)))) ∧ Hid (b.size + 1 ≤ cap) ∧ Hid (Below w.heap.size w wc))
    case first =>
      go_region_law (first
        | (have _h := HO3; go_simp; go_at_call 12; refine (costsB_any HD3.out HF.out s (by omega)).mono ?_; rintro e w4 ⟨v4, rfl, ho4, hb4⟩; obtain ⟨g4, cap4, rfl, hcc4, _⟩ := ho4.form (by omega); rw [HNX.out] at ho4; have HO4 := hid ho4; have HO34 := hid (ownsRow_below HO3.out hb4); have HB4 := hid (below_more HB3.out hb4); clear ho4 hb4)
        | (go_simp; go_at_call 12; refine (costsB_any HDd.out HF.out b (by omega)).mono ?_; rintro e w3 ⟨v3, rfl, ho3, hb3⟩; obtain ⟨g3, cap3, rfl, hcc3, _⟩ := ho3.form (by omega); have HO3 := hid ho3; have HCC3 := hid hcc3; have HD3 := hid (HDd.out.below hb3); have HB3 := hid (below_more HBd.out hb3); have HZ3 : Hid (w2.heap.size ≤ w3.heap.size) := hb3.size; clear ho3 hb3 hcc3))
      all_goals go_wp2
      all_goals go_meet
      all_goals exact ⟨g3, cap3, g4, cap4, rfl, rfl, HO34.out, ownsRow_lower HO4.out HZ3.out, own_cap HO34.out, HB4.out⟩
    case rest =>
      obtain ⟨g, cap, g2, cap2, rfl, rfl, HO, HO2, HCAP, HB⟩ := hcut
      have hsl2 := slice_costsW g n (b.size + 1) cap (by omega) HCAP.out
      have hRa := reads_from (k := n) HO.out (by omega)
      have hdn : (cNs (bCs L (nums b))).drop n = ccells (asC (bCs L ((nums b).drop n))) := by
        rw [ccells_asC, ← bCs_drop L _ n (by rw [nums_length]; omega)]
        simp [cNs, List.map_drop]
      rw [hdn] at hRa
      have hRb := ownsRow_reads HO2.out
      rw [← ccells_asC] at hRb
      have HRA := hid hRa
      have HRB := hid hRb
      have HXL : Hid ((asC (bCs L ((nums b).drop n))).length ≤ 1000000) := by show _ ≤ _; rw [asC_length, bCs_length, List.length_drop, nums_length]; omega
      have HSM := hid (asC_small (bCs_small (phrases_short HF.out) (HT.out.drop n)))
      clear hRa hRb hdn
      go_wp2_with (go_at_call 13; refine (sameCosts_any HRA.out HRB.out HXL.out HSM.out).mono ?_; rintro e w5 ⟨rfl, hb5⟩; have HB5 := hid (below_more HB.out hb5); clear hb5)
      go_ret
      exact ⟨by simp, HB5.out⟩
  · have HFits := hid hfits
    clear hfits
    go_enter Try.func4, Try.ntmps4
    go_wp2_with (first
      | (go_at_call 5; refine (dict_no H.out HFits.out).mono ?_; rintro e w1 ⟨rfl, rfl⟩)
      | (go_at_call 6; refine (alive_15 _).mono ?_; rintro e w2 ⟨rfl, hb2⟩))
    go_ret
    exact ⟨rfl, hb2⟩

set_option linter.unusedVariables false
theorem bestEnds_own : ownKnob Try.prog.godebug = none := by kernel_rfl

theorem bestEnds_laidOut : laidOutB Try.prog = true := by kernel_rfl

set_option maxRecDepth 100000 in
theorem bestEnds_lifted (os : Os) (started : os.Started) (H : Type) (enc : TypeId × Value → H) :
    ReturnsInHanded {} Try.checked os 4 .any (Rows.bestEndsSpec.pre6 enc Try.prog Try.f4 Rows.bestEndsRow.domain false) (Rows.bestEndsSpec.post enc Try.prog Try.f4 false true false false) := by
  refine returnsInHanded_of_change_sized (C := Try.checked) bestEnds_own started (by kernel_rfl) Try.func4
    (ChangeSpec.witness6 (enc := enc) (C := Try.checked) false ⟨#[], #[.slice none 0 0, .string ByteArray.empty, .int .i64 0], []⟩ 8 (by kernel_rfl) (by kernel_rfl) (by kernel_rfl) (by kernel_rfl)) ?_
  intro W base args ds gs before hval0 hW hcnd hsz0 _
  have hsz : (DataW.weightsEach Try.prog (Try.f4.params.toList ++ Rows.bestEndsSpec.plain.varTypes Try.prog) (ds ++ gs)).all (· ≤ reachBytes) = true := hsz0
  have hval : ∀ (j : Nat) t v, Try.f4.params[j]? = some t → args[j]? = some v → Value.okWide Try.prog W .any base t v := hval0
  have hW' := hW
  obtain ⟨p, q, hA0, hV, rfl, hfz, hnd⟩ := hW
  have hA : DataW.TrodAll enc Try.prog W 0 (fun _ => true) true Try.f4.params.toList args.toList ds p := hA0
  rw [Try.params4] at hA hval hsz
  obtain ⟨v0, vs0, d0, ds0, p0, q0, hargs, rfl, rfl, h0, r0⟩ := trodAll_cons hA
  obtain ⟨v1, vs1, d1, ds1, p1, q1, rfl, rfl, rfl, h1, r1⟩ := trodAll_cons r0
  obtain ⟨v2, vs2, d2, ds2, p2, q2, rfl, rfl, rfl, h2, r2⟩ := trodAll_cons r1
  obtain ⟨rfl, rfl, rfl⟩ := trodAll_nil r2
  obtain rfl : args = #[v0, v1, v2] := by cases args; simp_all
  obtain ⟨rfl, rfl⟩ := trodVars_none hV
  obtain ⟨a0, len0, cap0, rfl⟩ := okWide_slice Try.underlying22 (hval 0 22 v0 rfl rfl)
  have k0 := h0
  have lt0 : ∀ x ∈ p0, x.block < W.heap.size := by obtain ⟨m, hm⟩ := k0; exact DataW.trod_lt m _ _ _ hm
  obtain ⟨z0, w0⟩ := h0.elim (fun _ hf => open_list hf hsz 0 rfl rfl)
  obtain ⟨a1, rfl, rfl, rfl, w1⟩ := open_string Try.underlying9 (hval 1 9 v1 rfl rfl) h1
  obtain ⟨a2, rfl, rfl, rfl, w2⟩ := open_int Try.underlying3 (hval 2 3 v2 rfl rfl) h2
  clear hA0 hval0
  have s1 : a1.size ≤ 140737488351232 := by have h := sized_string hsz (j := 1) (t := 9) rfl rfl; rw [Array.length_toList] at h; exact h
  refine (ends_walk _ z0 a1 a2 W w0).mono fun e W' ⟨he, bel⟩ => ?_
  subst he
  exact ⟨_, rfl, _, _, _, [], _, [], hW', trodAll_mk1 (shut_bool Try.underlying4 _), (trodAll_cons_mk (Below.trod bestEnds_laidOut (by kernel_rfl) (of_decide_eq_true (by kernel_rfl)) k0 bel lt0) (trodAll_cons_mk (shut_string Try.underlying9 w1) (trodAll_cons_mk (shut_int Try.underlying3 w2) trodAll_mk0))), rfl, bel.frame _, fun h => by cases h⟩

/-- THE STATEMENT. -/
theorem bestEnds_holds : Rows.BestEndsSaid :=
  OpenClaim.holds_of_wide 4 Try.f4 rfl rfl rfl rfl rfl rfl rfl ⟨rfl, rfl, rfl, rfl, rfl⟩ rfl rfl rfl rfl rfl (by kernel_rfl) Try.func4 (by kernel_rfl)
    (of_decide_eq_true (by kernel_rfl)) (by unfold Func.isWrapper; first | (rw [if_pos (by decide +kernel)]; kernel_rfl) | (rw [if_neg (by decide +kernel)]; exact ⟨rfl, rfl⟩))
    (fun os started H enc _ => bestEnds_lifted os started H enc)
#print axioms bestEnds_holds
end Go.Proofs.Ytdplflcaanmmiab
