/-
  ScanPieces: in whichever pieces bytes come, the hits are the same. For every list of texts, every bytes, every list of integers.
-/
import Derived.Test.YtmaadeeocppkfaaScanMore
import Derived.ChangeSlices
import Derived.ShutString
import Derived.ChangeOld
import Derived.SizedLaws
namespace Go.Proofs.Ytmaadeeocppkfaa
open Go.ChangeShapes Go.WideShapes Go.ChangeAt Go.RowKit
open Go.ChangeMaps (open_string shut_string)

/-- A list of integers that came in. -/
def IsInts (w : World) (a : Option Addr) (len : Nat) (z : Nat → Int) : Prop :=
  len = 0 ∨ ∃ b off, a = some ⟨b, off, none⟩ ∧ b < w.heap.size ∧ ∀ i, i < len → w.cell? ⟨b, off + i, none⟩ = some (.int .i64 (z i))

theorem Try.cellsInt : Try.prog.cellsOf 3 = 1 := by kernel_rfl

theorem open_numbers {H : Type} {enc : TypeId × Value → H} {W : World} {base fuel : Nat} {spare : Nat → Bool} {held : Bool} {a : Option Addr} {len cap : Nat} {x : DataW H × List MemPlace}
    (h : DataW.trod enc Try.prog W base spare held fuel 34 [.slice a len cap] = some x) : ∃ z, IsInts W a len z := by
  by_cases h0 : len = 0
  · exact ⟨fun _ => 0, .inl h0⟩
  rcases open_ints Try.underlying34 Try.underlying3 Try.cellsInt h with ⟨hcs, _⟩ | ⟨ad, l, c, zs, hcs, _, hl, _, hlen, _, hcell, _⟩
  · simp only [List.cons.injEq, Value.slice.injEq, and_true] at hcs
    omega
  · simp only [List.cons.injEq, Value.slice.injEq, and_true] at hcs
    obtain ⟨rfl, rfl, rfl⟩ := hcs
    have hlm : len ≤ zs.length := by rw [hlen]; split <;> omega
    obtain ⟨b, off, spot⟩ := ad
    have hspot : spot = none := by simpa [Addr.add] using World.cell?_spot (hcell 0 (by omega))
    subst hspot
    refine ⟨fun i => zs.getD i 0, .inr ⟨b, off, rfl, ?_, fun i hi => ?_⟩⟩
    · exact World.block_lt_of_cell? W _ (by have := hcell 0 (by omega); rw [Go.WideShapes.add_plain] at this; exact this)
    · have := hcell i (by omega)
      rwa [Go.WideShapes.add_plain] at this

theorem cut_text (t : ByteArray) (k : Nat) : t.extract 0 k ++ t.extract k t.size = t := by
  apply nums_inj
  rw [nums_append, nums_extract, nums_extract, List.drop_zero, Nat.sub_zero, List.take_of_length_le (l := (nums t).drop k) (by rw [List.length_drop, nums_length]; omega), List.take_append_drop]


set_option maxRecDepth 20000 in
set_option maxHeartbeats 1000000 in
theorem pieces_walk (v : Value) (L : List ByteArray) (b : ByteArray) (a2 : Option Addr) (len cap : Nat) (z : Nat → Int) (w : World) (h : ListIn w v L) (hin : IsInts w a2 len z) :
    Calls Try.prog 4 #[v, .string b, .slice a2 len cap] w fun e w' => e = .returned (.bool true) ∧ Below w.heap.size w w' := by
  have H := hid h
  by_cases hf : FewL L
  · have hd1 : fewB L = true := decide_eq_true hf
    have hsz := hf.sizes
    have HSZ := hid hf.2
    by_cases hcond : b.size ≤ 300 ∧ len ≤ 100
    · have hdc : decide ((300 : Int) < (b.size : Int)) = false := decide_eq_false (by omega)
      have hdc2 : decide (300 < b.size) = false := decide_eq_false (by omega)
      have hdd : decide ((100 : Int) < (len : Int)) = false := decide_eq_false (by omega)
      have hdd2 : decide (100 < len) = false := decide_eq_false (by omega)
      rcases fine_or_bad L with hL | ⟨cd, a0, hL⟩
      · have HF := hid hL
        have hl100 := hL.1
        obtain ⟨⟨a, ca, rfl, ha⟩, _, _⟩ := h
        rw [strs_length] at *
        clear ha hL hsz hf
        obtain ⟨A, hA⟩ : ∃ A, A = nodesN (L.map nums) := ⟨_, rfl⟩
        obtain ⟨P, hP⟩ : ∃ P, P = L.map nums := ⟨_, rfl⟩
        have HAE := hid hA
        have HPE := hid hP
        clear hA hP
        go_enter Try.func4, Try.ntmps4
        go_wp2_with (first
          | (go_at_call 8; refine (few_any H.out).mono ?_; rintro e w1 ⟨rfl, rfl⟩; rw [hd1])
          | (go_at_call 9; refine (alive_any _).mono ?_; rintro e w2 ⟨rfl, hb2⟩; have H2 := hid (H.out.below hb2); have HB2 := hid hb2; clear hb2)
          | (go_at_call 10; refine (phrases_fine H2.out.1 HF.out).mono ?_; rintro e w3 ⟨rfl, rfl⟩)
          | (go_at_call 11; refine (makeL_fine H2.out.1 HF.out).mono ?_; rintro e w4 ⟨l, t, rfl, hx4, hb4⟩; have hr4 := ready_of hx4 HF.out; have HR := hid hr4; have HX := hid hx4; have HL4 := hid (H2.out.1.below hb4); have HB4 := hid (below_more HB2.out hb4); clear hx4 hb4 hr4)
          | (go_at_call 15; refine (newS_in (ready_links HX.out) HR.out.nodes (Below.refl _ _)).mono ?_; rintro e w5 ⟨p, rfl, hs5, hp5, hb5⟩; have HS5 := hid hs5; have HP5 := hid (Nat.le_trans HB4.out.size hp5); have HB5 := hid (below_more HB4.out hb5); clear hs5 hp5 hb5))
        have HR2 : Hid (Ready A P) := by show Ready A P; rw [HAE.out, HPE.out]; exact HR.out
        have HX2 : Hid (LinksAt w4 l t A P (wordOf P)) := by show LinksAt _ _ _ _ _ _; rw [HAE.out, HPE.out]; exact HX.out
        have HS0 : Hid (ScAt w4 w5 p l t A P (wordOf P) (nums ByteArray.empty) ByteArray.empty.size) := by show ScAt _ _ _ _ _ _ _ _ _ _; rw [HAE.out, HPE.out]; exact HS5.out
        have HI := hid hin
        have hp5 : p < w5.heap.size := HS5.out.lt
        clear hin HX HR HS5 H H2 HB2 HL4 HB4
        go_loopw [11, 12, 50] (fun ug vt vi wr => ∃ (i K : Nat) (u t2 : ByteArray), vt = .string t2 ∧ vi = .int .i64 i ∧ i ≤ len ∧ t2.size ≤ 300 ∧ u.size ≤ 300 ∧ Hid (u ++ t2 = b) ∧ Hid (wr.ownsRow w5.heap.size 44 2 ug K (hcells (asHits (hitsT P 0 [] (nums u))))) ∧ Hid (ScAt w4 wr p l t A P (wordOf P) (nums u) u.size) ∧ Hid (Below w1.heap.size w1 wr ∧ w5.heap.size ≤ wr.heap.size)) (fun _ _ vi _ => len - (intOf vi).toNat)
        case atStart => exact ⟨0, 0, ByteArray.empty, b, rfl, rfl, by omega, hcond.1, by decide, by show ByteArray.empty ++ b = b; exact ByteArray.empty_append, World.ownsRow_nil _ _ _ _, HS0.out, HB5.out, Nat.le_refl _⟩
        case round =>
          obtain ⟨i, K, u, t2, rfl, rfl, hi, hts, hus, hut, hown, hsc, hbl⟩ := hrel
          have hK : K ≤ 12000 := by
            have h1 := hown.out.1
            have h2 := hitsT_few P 40 HR2.out.short (nums u) 0 []
            rw [hcells_length, asHits_length] at h1
            rw [nums_length] at h2
            have h3 : u.size * 40 ≤ 300 * 40 := Nat.mul_le_mul_right _ hus
            omega
          by_cases hlt : i < len
          · rcases HI.out with h | ⟨gb, o, rfl, hgb, hcell⟩
            · omega
            have hcb : wr.cell? ⟨gb, o + i, none⟩ = some (.int .i64 (z i)) := by rw [hbl.out.1.cell (p := ⟨gb, o + i, none⟩) hgb, hcell i hlt]
            clear hcell
            generalize z i = c at hcb
            obtain ⟨k, hk⟩ : ∃ k : Nat, min (max c 0) (t2.size : Int) = (k : Int) := ⟨(min (max c 0) (t2.size : Int)).toNat, by omega⟩
            have hkl : k ≤ t2.size := by omega
            go_wp2_with (first
              | (have _h := HK6; at_builtin; refine wpList_append_hits _ rfl (.tmp 59) (.tmp 64) rfl w5.heap.size u11 K (asHits (hitsT P 0 [] (nums u))) rfl (ownsRow_kept hown.out HK6.out hp5) _ _ rfl HO6.out (by have := HL6.out; omega) (Nat.le_trans hbl.out.2 HK6.out.size) ?_; intro v' w7 hown7 hgrow7 hat7 hold7; have hb67 := (Below.refl w5.heap.size w6).grown hgrow7 (Nat.le_trans hbl.out.2 HK6.out.size) (fun g hg => ((ownsRow_kept hown.out HK6.out hp5).lt g hg).1); rw [hits_more] at hown7; have HO7 := hid hown7; have HB67 := hid hb67; have HS7 := hid (HS6.out.row hp5 hb67); have HB7 := hid ((below_then hbl.out.1 HK6.out HP5.out).trans (hb67.mono HB5.out.size)); have hsz7 := Nat.le_trans hbl.out.2 (Nat.le_trans HK6.out.size hb67.size); clear hown7 hgrow7 hat7 hold7 hb67 _h HK6)
              | (go_at_call 16; refine (feed_more hsc.out HR2.out (t2.extract 0 k) (show ((t2.extract 0 k)).size ≤ 1000 from Nat.le_trans (show (t2.extract 0 k).size ≤ 300 by rw [ByteArray.size_extract]; omega) (by omega)) (show u.size ≤ 10000 by omega)).mono ?_; rintro e w6 ⟨v6, rfl, ho6, hl6, hs6, hk6⟩; have hl6' := Nat.le_trans hl6 (Nat.mul_le_mul_left 40 (show (t2.extract 0 k).size ≤ 300 by rw [ByteArray.size_extract]; omega)); have HO6 := hid ho6; have HL6 := hid hl6'; have HS6 := hid hs6; have HK6 := hid hk6; clear ho6 hl6 hs6 hk6 hl6'))
            go_roundw
            case rel => exact ⟨i + 1, _, u ++ (t2.extract 0 k), (t2.extract k t2.size), by first | rfl | (congr 1; apply nums_inj; simp [nums]), by go_num, by omega, by rw [ByteArray.size_extract]; omega, by rw [ByteArray.size_append]; have h1 := (show (t2.extract 0 k).size ≤ t2.size by rw [ByteArray.size_extract]; omega); have h2 := congrArg ByteArray.size hut.out; rw [ByteArray.size_append] at h2; omega, by show u ++ (t2.extract 0 k) ++ (t2.extract k t2.size) = b; rw [ByteArray.append_assoc, cut_text]; exact hut.out, HO7.out, HS7.out, HB7.out, hsz7⟩
            case measure => simp [intOf]; omega
          · obtain rfl : i = len := by omega
            go_wp2_with (first
              | (have _h := HK6; at_builtin; refine wpList_append_hits _ rfl (.tmp 70) (.tmp 73) rfl w5.heap.size u11 K (asHits (hitsT P 0 [] (nums u))) rfl (ownsRow_kept hown.out HK6.out hp5) _ _ rfl HO6.out (by have := HL6.out; omega) (Nat.le_trans hbl.out.2 HK6.out.size) ?_; intro v' w7 hown7 hgrow7 hat7 hold7; have hb67 := (Below.refl w5.heap.size w6).grown hgrow7 (Nat.le_trans hbl.out.2 HK6.out.size) (fun g hg => ((ownsRow_kept hown.out HK6.out hp5).lt g hg).1); rw [hits_more] at hown7; have HO7 := hid hown7; have HB67 := hid hb67; have HS7 := hid (HS6.out.row hp5 hb67); have HB7 := hid ((below_then hbl.out.1 HK6.out HP5.out).trans (hb67.mono HB5.out.size)); have hsz7 := Nat.le_trans hbl.out.2 (Nat.le_trans HK6.out.size hb67.size); clear hown7 hgrow7 hat7 hold7 hb67 _h HK6)
              | (go_at_call 16; refine (feed_more hsc.out HR2.out t2 (show (t2).size ≤ 1000 from Nat.le_trans hts (by omega)) (show u.size ≤ 10000 by omega)).mono ?_; rintro e w6 ⟨v6, rfl, ho6, hl6, hs6, hk6⟩; have hl6' := Nat.le_trans hl6 (Nat.mul_le_mul_left 40 hts); have HO6 := hid ho6; have HL6 := hid hl6'; have HS6 := hid hs6; have HK6 := hid hk6; clear ho6 hl6 hs6 hk6 hl6')
              | (go_at_call 18; refine (allS_in HX2.out HS7.out.below HR2.out.father HR2.out.mem HR2.out.some HR2.out.short b (by omega)).mono ?_; rintro e w9 ⟨v9, k9, rfl, ho9, hb9⟩; have HO9 := hid (ownsRow_readsH ho9); have h79 := ownsRow_readsH HO7.out; rw [hut.out] at h79; have HO79 := hid (h79.below hb9); have HS9 := hid (HS7.out.later hb9); have HB9 := hid (below_more HB7.out hb9); clear ho9 hb9 h79)
              | (go_at_call 17; refine (sameHits_any HO79.out HO9.out (by have := hitsT_few P 40 HR2.out.short (nums b) 0 []; rw [asHits_length]; rw [nums_length] at this; omega) (by have := hitsT_few P 40 HR2.out.short (nums b) 0 []; rw [asHits_length]; rw [nums_length] at this; omega)).mono ?_; rintro e w10 ⟨rfl, hb10⟩; have hs10 := HS9.out.later hb10; rw [hut.out] at hs10; have HS10 := hid hs10; have HB10 := hid (below_more HB9.out hb10); clear hb10 hs10; rw [decide_eq_true rfl])
              | (go_at_call 19; refine (atS_in HS10.out).mono ?_; rintro e w11 ⟨rfl, rfl⟩))
            go_ret
            exact ⟨rfl, HB10.out⟩
      · go_enter Try.func4, Try.ntmps4
        have hc0 : ¬ cd = 0 := bad_code hL
        go_wp2_with (first
          | (go_at_call 8; refine (few_any H.out).mono ?_; rintro e w1 ⟨rfl, rfl⟩; rw [hd1])
          | (go_at_call 9; refine (alive_any _).mono ?_; rintro e w2 ⟨rfl, hb2⟩; have H2 := hid (H.out.below hb2))
          | (go_at_call 10; refine (phrases_bad H2.out.1 hsz.1 (fun s hs => by have := hsz.2 s hs; omega) hL).mono ?_; rintro e w3 ⟨rfl, rfl⟩))
        go_ret
        exact ⟨rfl, hb2⟩
    · rcases (show 300 < b.size ∨ (b.size ≤ 300 ∧ 100 < len) by omega) with h1 | ⟨h1, h2⟩
      all_goals
        go_enter Try.func4, Try.ntmps4
        go_wp2_with (first
          | (go_at_call 8; refine (few_any H.out).mono ?_; rintro e w1 ⟨rfl, rfl⟩; rw [hd1])
          | (go_at_call 9; refine (alive_any _).mono ?_; rintro e w2 ⟨rfl, hb2⟩))
        go_ret
        exact ⟨rfl, hb2⟩
  · have hd1 : fewB L = false := decide_eq_false hf
    go_enter Try.func4, Try.ntmps4
    go_wp2_with (first
      | (go_at_call 8; refine (few_any H.out).mono ?_; rintro e w1 ⟨rfl, rfl⟩; rw [hd1])
      | (go_at_call 9; refine (alive_any _).mono ?_; rintro e w2 ⟨rfl, hb2⟩))
    go_ret
    exact ⟨rfl, hb2⟩

set_option linter.unusedVariables false
theorem scanPieces_own : ownKnob Try.prog.godebug = none := by kernel_rfl

theorem scanPieces_laidOut : laidOutB Try.prog = true := by kernel_rfl

set_option maxRecDepth 100000 in
theorem scanPieces_lifted (os : Os) (started : os.Started) (H : Type) (enc : TypeId × Value → H) :
    ReturnsInHanded {} Try.checked os 4 .any (Rows.scanPiecesSpec.pre6 enc Try.prog Try.f4 Rows.scanPiecesRow.domain false) (Rows.scanPiecesSpec.post enc Try.prog Try.f4 false true false false) := by
  refine returnsInHanded_of_change_sized (C := Try.checked) scanPieces_own started (by kernel_rfl) Try.func4
    (ChangeSpec.witness6 (enc := enc) (C := Try.checked) false ⟨#[], #[.slice none 0 0, .string ByteArray.empty, .slice none 0 0], []⟩ 8 (by kernel_rfl) (by kernel_rfl) (by kernel_rfl) (by kernel_rfl)) ?_
  intro W base args ds gs before hval0 hW hcnd hsz0 _
  have hsz : (DataW.weightsEach Try.prog (Try.f4.params.toList ++ Rows.scanPiecesSpec.plain.varTypes Try.prog) (ds ++ gs)).all (· ≤ reachBytes) = true := hsz0
  have hval : ∀ (j : Nat) t v, Try.f4.params[j]? = some t → args[j]? = some v → Value.okWide Try.prog W .any base t v := hval0
  have hW' := hW
  obtain ⟨p, q, hA0, hV, rfl, hfz, hnd⟩ := hW
  have hA : DataW.TrodAll enc Try.prog W 0 (fun _ => true) true Try.f4.params.toList args.toList ds p := hA0
  rw [Try.params4] at hA hval hsz
  obtain ⟨v0, vs0, d0, ds0, p0, q0, hargs, rfl, rfl, h0, r0⟩ := trodAll_cons hA
  obtain ⟨v1, vs1, d1, ds1, p1, q1, rfl, rfl, rfl, h1, r1⟩ := trodAll_cons r0
  obtain ⟨v2, vs2, d2, ds2, p2, q2, rfl, rfl, rfl, h2, r2⟩ := trodAll_cons r1
  obtain ⟨rfl, rfl, rfl⟩ := trodAll_nil r2
  obtain rfl : args = #[v0, v1, v2] := by cases args; simp_all
  obtain ⟨rfl, rfl⟩ := trodVars_none hV
  obtain ⟨a0, len0, cap0, rfl⟩ := okWide_slice Try.underlying22 (hval 0 22 v0 rfl rfl)
  have k0 := h0
  have lt0 : ∀ x ∈ p0, x.block < W.heap.size := by obtain ⟨m, hm⟩ := k0; exact DataW.trod_lt m _ _ _ hm
  obtain ⟨z0, w0⟩ := h0.elim (fun _ hf => open_list hf hsz 0 rfl rfl)
  obtain ⟨a1, rfl, rfl, rfl, w1⟩ := open_string Try.underlying9 (hval 1 9 v1 rfl rfl) h1
  obtain ⟨a2, len2, cap2, rfl⟩ := okWide_slice Try.underlying34 (hval 2 34 v2 rfl rfl)
  have k2 := h2
  have lt2 : ∀ x ∈ p2, x.block < W.heap.size := by obtain ⟨m, hm⟩ := k2; exact DataW.trod_lt m _ _ _ hm
  obtain ⟨z2, w2⟩ := h2.elim (fun _ hf => open_numbers hf)
  clear hA0 hval0
  have s1 : a1.size ≤ 140737488351232 := by have h := sized_string hsz (j := 1) (t := 9) rfl rfl; rw [Array.length_toList] at h; exact h
  refine (pieces_walk _ z0 a1 a2 len2 cap2 z2 W w0 w2).mono fun e W' ⟨he, bel⟩ => ?_
  subst he
  exact ⟨_, rfl, _, _, _, [], _, [], hW', trodAll_mk1 (shut_bool Try.underlying4 _), (trodAll_cons_mk (Below.trod scanPieces_laidOut (by kernel_rfl) (of_decide_eq_true (by kernel_rfl)) k0 bel lt0) (trodAll_cons_mk (shut_string Try.underlying9 w1) (trodAll_cons_mk (Below.trod scanPieces_laidOut (by kernel_rfl) (of_decide_eq_true (by kernel_rfl)) k2 bel lt2) trodAll_mk0))), rfl, bel.frame _, fun h => by cases h⟩

/-- THE STATEMENT. -/
theorem scanPieces_holds : Rows.ScanPiecesSaid :=
  OpenClaim.holds_of_wide 4 Try.f4 rfl rfl rfl rfl rfl rfl rfl ⟨rfl, rfl, rfl, rfl, rfl⟩ rfl rfl rfl rfl rfl (by kernel_rfl) Try.func4 (by kernel_rfl)
    (of_decide_eq_true (by kernel_rfl)) (by unfold Func.isWrapper; first | (rw [if_pos (by decide +kernel)]; kernel_rfl) | (rw [if_neg (by decide +kernel)]; exact ⟨rfl, rfl⟩))
    (fun os started H enc _ => scanPieces_lifted os started H enc)
#print axioms scanPieces_holds
end Go.Proofs.Ytmaadeeocppkfaa
