/-
  ScanPlays: of every dictionary, every bytes, in whichever pieces, begun anew now and then: each hit, where it is; lists kept, marked, grown. For every two lists of texts, every list of truths.
-/
import Derived.Test.YtmaadeeocppkfaaGreatScanReset
import Derived.Test.YtmaadeeocppkfaaGreatRefHits
import Derived.Test.YtmaadeeocppkfaaGreatRefLongest
import Derived.Test.YtmaadeeocppkfaaGreatHits
import Derived.Deep.Grids
import Derived.ChangeOld
import Derived.SizedLaws
namespace Go.Proofs.YtmaadeeocppkfaaGreat
open Go.ChangeShapes Go.WideShapes Go.ChangeAt Go.RowKit

/-- A list of truths that came in. -/
def IsBools (w : World) (a : Option Addr) (len : Nat) (z : Nat → Bool) : Prop :=
  len = 0 ∨ ∃ b off, a = some ⟨b, off, none⟩ ∧ b < w.heap.size ∧ ∀ i, i < len → w.cell? ⟨b, off + i, none⟩ = some (.bool (z i))

theorem Tryz.cellsBool : Tryz.prog.cellsOf 4 = 1 := by kernel_rfl

theorem open_truths {H : Type} {enc : TypeId × Value → H} {W : World} {base fuel : Nat} {held : Bool} {a : Option Addr} {len cap : Nat} {x : DataW H × List MemPlace}
    (h : DataW.trod enc Tryz.prog W base (fun _ => true) held fuel 23 [.slice a len cap] = some x) : ∃ z, IsBools W a len z := by
  by_cases h0 : len = 0
  · exact ⟨fun _ => false, .inl h0⟩
  rcases Go.Deep.open_bools Tryz.underlying23 Tryz.underlying4 Tryz.cellsBool h with ⟨hcs, _⟩ | ⟨ad, l, c, B, hcs, _, hl, _, _, hcell⟩
  · simp only [List.cons.injEq, Value.slice.injEq, and_true] at hcs
    omega
  · simp only [List.cons.injEq, Value.slice.injEq, and_true] at hcs
    obtain ⟨rfl, rfl, rfl⟩ := hcs
    obtain ⟨b, off, spot⟩ := ad
    have hspot : spot = none := by simpa [Addr.add] using World.cell?_spot (hcell 0 (by omega))
    subst hspot
    refine ⟨B, .inr ⟨b, off, rfl, ?_, fun i hi => ?_⟩⟩
    · exact World.block_lt_of_cell? W _ (by have := hcell 0 (by omega); rw [Go.WideShapes.add_plain] at this; exact this)
    · have := hcell i (by omega)
      rwa [Go.WideShapes.add_plain] at this

theorem BookHi.kept {w w' : World} {B p n q : Nat} {V V' : Nat → Value} {C : Nat → List (Int × Int)} {u u' : Value} (h : BookHi w B p n V V' C u u') (hk : Kept (· = q) w w') (hq : q < B) : BookHi w' B p n V V' C u u' :=
  ⟨⟨(hk.block p (Array.getElem?_eq_some_iff.1 h.book.1).1 (by have := h.low; omega)).trans h.book.1, h.book.2⟩,
   ⟨ownsRow_kept h.lists.row hk hq, fun j hj => ownsRow_kept (h.lists.each j hj) hk hq, h.lists.apart⟩,
   ⟨ownsRow_kept h.was.row hk hq, fun j hj => ownsRow_kept (h.was.each j hj) hk hq, h.was.apart⟩, h.off, h.off', h.low⟩

/-- One list more is kept, that a scanner told. -/
theorem ShelfH.keep2 {w : World} {B n q : Nat} (hn : n < 250) {W : World} {v : Value} {k : Nat} {X : List (Int × Int)} (hk : Kept (· = q) W w) (hq : q < B) (hS : ShelfH W B n) (hv : w.ownsRow W.heap.size 52 2 v k (hcells X)) (hX : X.length ≤ 50000) (hB : B ≤ W.heap.size) :
    Calls Tryz.prog 12 #[.pointer (some ⟨B, 0, none⟩), v] w fun e w' => e = .returned (.tuple #[]) ∧ ShelfH w' B (n + 1) ∧ ReadsH w' v X ∧ Below B w w' := by
  have hkx : k = X.length := by have := hv.1; rw [hcells_length] at this; omega
  subst hkx
  obtain ⟨V, V', C, u, u', h1, h2⟩ := hS
  have h1' := h1.kept hk hq
  refine (keepHits_any h1' hn (ownsRow_lower hv hB) hX (fun j hj => ?_) (Nat.le_trans hB hk.size)).mono ?_
  · exact freshH_off hv h1.lists j hj
  · rintro e w' ⟨rfl, ⟨u2, u3, V3, hb⟩, hbel, huk⟩
    refine ⟨rfl, ⟨_, _, _, _, _, hb, fun j hj => ?_⟩, ?_, hbel⟩
    · by_cases e : j = n
      · subst e; rw [put1_at]; exact hX
      · rw [put1_else _ _ _ _ (by omega)]; exact h2 j (by omega)
    · have := hb.lists.each n (by omega)
      rw [put1_at, put1_at] at this
      exact ownsRow_readsH this

theorem ShelfH.kept {w w' : World} {B n q : Nat} (h : ShelfH w B n) (hk : Kept (· = q) w w') (hq : q < B) : ShelfH w' B n := by
  obtain ⟨V, V', C, u, u', h1, h2⟩ := h
  exact ⟨V, V', C, u, u', h1.kept hk hq, h2⟩

theorem feed_own {w0 w : World} {p l t : Nat} {A P : List (List Nat)} {u ub s : ByteArray} (h : ScAt w0 w p l t A P (wordOf P) (nums u) u.size) (hr : Ready A P) (hub : ub = u ++ s) (hs : s.size ≤ 1000) (hu : u.size ≤ 10000) :
    Calls Tryz.prog 11 #[.pointer (some ⟨p, 0, none⟩), .string s] w fun e w' => ∃ v' k, e = .returned v' ∧ w'.ownsRow w.heap.size 52 2 v' k (hcells (asHits (hitsT P u.size (nums u) (nums s)))) ∧ ScAt w0 w' p l t A P (wordOf P) (nums ub) ub.size ∧ Kept (· = p) w w' := by
  refine (feed_in h hr.father hr.mem hr.some hr.short s (by omega) (by omega)).mono ?_
  rintro e w' ⟨v, k, rfl, ho, hs2, hk⟩
  refine ⟨v, k, rfl, ho, ?_, hk⟩
  rw [hub, nums_append, ByteArray.size_append]
  exact hs2

theorem kept_later {S : Nat → Prop} {w x y : World} (h : Kept S w x) (k : Below x.heap.size x y) : Kept S w y := h.trans (below_kept k S)

theorem refHits_zero {w : World} {v : Value} {L : List ByteArray} {P : List (List Nat)} (hv : Reads w v (strs L)) (hl : L.length ≤ 1000) (hP : Hid (P = L.map nums)) (h40 : ∀ x ∈ P, x.length ≤ 40) (b : ByteArray) (hbl : b.size ≤ 1000) :
    Calls Tryz.prog 14 #[v, .string ⟨#[]⟩, .string b, .int .i64 0] w fun e w' => ∃ v', e = .returned v' ∧ ReadsH w' v' (asHits (hitsT P 0 [] (nums b))) ∧ Below w.heap.size w w' :=
  refHits_any hv hl hP.out h40 ⟨#[]⟩ b (by decide) hbl 0 (by decide)

theorem few_hits {P : List (List Nat)} (h : ∀ x ∈ P, x.length ≤ 40) (n : Nat) (z : List Nat) (s : ByteArray) (hs : s.size ≤ 1000) : (asHits (hitsT P n z (nums s))).length ≤ 50000 := by
  have := hitsT_few P 40 h (nums s) n z
  rw [asHits_length]
  rw [nums_length] at this
  omega

set_option maxRecDepth 20000 in
set_option maxHeartbeats 4000000 in
theorem plays_walk (v : Value) (L : List ByteArray) (v2 : Value) (L2 : List ByteArray) (a3 : Option Addr) (len cap : Nat) (z : Nat → Bool) (w : World) (h : ListIn w v L) (h2 : ListIn w v2 L2) (h3 : IsBools w a3 len z) :
    Calls Tryz.prog 3 #[v, v2, .slice a3 len cap] w fun e w' => e = .returned (.bool true) ∧ Below w.heap.size w w' := by
  have H := hid h
  obtain ⟨⟨a2, ca2, rfl, ha2⟩, hl2a, hl2b⟩ := h2
  rw [strs_length] at ha2 ⊢
  have HI2 := hid ha2
  have HI3 := hid h3
  clear ha2 h3 hl2b
  by_cases hf : FewL L
  · have hd1 : fewB L = true := decide_eq_true hf
    have hsz := hf.sizes
    have HSZ := hid hf.2
    by_cases hcond : L2.length ≤ 20
    · have hdc : decide ((20 : Int) < (L2.length : Int)) = false := decide_eq_false (by omega)
      have hdc2 : decide (20 < L2.length) = false := decide_eq_false (by omega)
      rcases fine_or_bad L with hL | ⟨cd, a0, hL⟩
      · have HF := hid hL
        have hl100 := hL.1
        obtain ⟨⟨a, ca, rfl, ha⟩, _, _⟩ := h
        rw [strs_length] at *
        clear ha hL hsz hf
        obtain ⟨A, hA⟩ : ∃ A, A = nodesN (L.map nums) := ⟨_, rfl⟩
        obtain ⟨P, hP⟩ : ∃ P, P = L.map nums := ⟨_, rfl⟩
        obtain ⟨nA, hnA⟩ : ∃ nA, nA = A.length := ⟨_, rfl⟩
        have HAE := hid hA
        have HPE := hid hP
        have HNE := hid hnA
        clear hA hP hnA
        go_enter Tryz.func3, Tryz.ntmps3
        go_wp2_with (first
          | (go_at_call 4; refine (few_any H.out).mono ?_; rintro e w1 ⟨rfl, rfl⟩; rw [hd1])
          | (go_at_call 5; refine (alive_any _).mono ?_; rintro e w2 ⟨rfl, hb2⟩; have H2 := hid (H.out.below hb2); have HB2 := hid hb2; clear hb2)
          | (go_at_call 6; refine (phrases_fine H2.out.1 HF.out).mono ?_; rintro e w3 ⟨rfl, rfl⟩)
          | (go_at_call 7; refine (makeL_fine H2.out.1 HF.out).mono ?_; rintro e w4 ⟨l, t, rfl, hx4, hb4⟩; have hr4 := ready_of hx4 HF.out; have HR := hid hr4; have HX := hid hx4; have HL4 := hid (H2.out.1.below hb4); have HB4 := hid (below_more HB2.out hb4); clear hx4 hb4 hr4)
          | (go_at_call 8; refine (newS_in (show LinksAt w4 l t A P (wordOf P) by rw [HAE.out, HPE.out]; exact HX.out) (by rw [HAE.out]; exact HR.out.nodes) (Below.refl _ _)).mono ?_; rintro e w5 ⟨p, rfl, hs5, hp5, hb5⟩; have HS5 := hid hs5; have HX2 := hid hs5.links; have HR2 : Hid (Ready A P) := (by show Ready A P; rw [HAE.out, HPE.out]; exact HR.out); have HP5 := hid (Nat.le_trans HB4.out.size hp5); have HB5 := hid (below_more HB4.out hb5); have HL5 := hid (HL4.out.below hb5); clear hs5 hp5 hb5)
          | (go_at_call 9; refine (nodes_any HL5.out (by have := HSZ.out; omega) (by have := HSZ.out; omega)).mono ?_; rintro e w6 ⟨v6, rfl, ho6, hb6⟩; rw [← HAE.out, ← HNE.out] at ho6; obtain ⟨g6, c6, rfl⟩ := ownsRow_slice ho6; have HO6 := hid ho6; have HS6 := hid (HS5.out.later hb6); have HB65 := hid hb6.size; have HB6 := hid (below_more HB5.out hb6); clear ho6 hb6))
        have hp5 : p < w5.heap.size := HS5.out.lt
        have h56 : w5.heap.size ≤ w6.heap.size := HB65.out
        obtain ⟨B, hB⟩ : ∃ B, B = w6.heap.size := ⟨_, rfl⟩
        have hpB : p < B := by omega
        have HBB : Hid (w1.heap.size ≤ B) := by show _ ≤ _; have := HB6.out.size; omega
        have HKB : Hid (B ≤ w6.heap.size) := Nat.le_of_eq hB
        have HBE := hid hB
        have HLI : Hid (∀ W : World, Below w1.heap.size w1 W → Reads W (.slice a L.length ca) (strs L)) := fun W hW => H.out.1.below hW
        have HBY : Hid (AllBytes A) := by show AllBytes A; rw [HAE.out]; exact allBytes_nodes L
        have HNA : Hid (A.length ≤ 1000000) := by
          obtain ⟨B0, hT0⟩ := HX2.out.trie
          have := hT0.few
          show _ ≤ _
          omega
        have hsh0 := shelfH_new w6
        have hk0 : Kept (· = p) w6 (w6.alloc (.cells #[.slice none 0 0, .slice none 0 0, .slice none 0 0, .slice none 0 0, .slice none 0 0, .slice none 0 0, .slice none 0 0, .slice none 0 0, .slice none 0 0, .slice none 0 0] 41)) := (Kept.refl _ _).alloc _
        have hb0 := HB6.out.alloc HB6.out.size (.cells #[.slice none 0 0, .slice none 0 0, .slice none 0 0, .slice none 0 0, .slice none 0 0, .slice none 0 0, .slice none 0 0, .slice none 0 0, .slice none 0 0, .slice none 0 0] 41)
        have hs0 := HS6.out.later ((Below.refl w6.heap.size w6).alloc (Nat.le_refl _) (.cells #[.slice none 0 0, .slice none 0 0, .slice none 0 0, .slice none 0 0, .slice none 0 0, .slice none 0 0, .slice none 0 0, .slice none 0 0, .slice none 0 0, .slice none 0 0] 41))
        rw [← hB] at hsh0 ⊢
        generalize w6.alloc (.cells #[.slice none 0 0, .slice none 0 0, .slice none 0 0, .slice none 0 0, .slice none 0 0, .slice none 0 0, .slice none 0 0, .slice none 0 0, .slice none 0 0, .slice none 0 0] 41) = w7 at *
        have HSH0 := hid hsh0
        have HKP0 := hid hk0
        have HBW0 := hid hb0
        have HSC0 : Hid (ScAt w4 w7 p l t A P (wordOf P) (nums (⟨#[]⟩ : ByteArray)) (⟨#[]⟩ : ByteArray).size) := hs0
        clear HX HR H H2 HB2 HL4 HB4 HS5 HS6 HB5 HL5 HB6 hB hsh0 hk0 hb0 hs0 h56
        go_loopw [12, 13, 51] (fun vw va vi wr => ∃ (i : Nat) (was : ByteArray), vw = .string was ∧ va = .int .i64 (was.size : Int) ∧ vi = .int .i64 i ∧ i ≤ L2.length ∧ Hid (was.size ≤ i * 60) ∧ Hid (ScAt w4 wr p l t A P (wordOf P) (nums was) was.size) ∧ Hid (ShelfH wr B i) ∧ Hid (Kept (· = p) w6 wr) ∧ Hid (Below w1.heap.size w1 wr)) (fun _ _ vi _ => L2.length - (intOf vi).toNat)
        case atStart => exact ⟨0, ⟨#[]⟩, rfl, rfl, rfl, by omega, by show _ ≤ _; decide, HSC0.out, HSH0.out, HKP0.out, HBW0.out⟩
        case round =>
          obtain ⟨i, was, rfl, rfl, rfl, hi, hws, hsc, hsh, hkp, hbw⟩ := hrel
          by_cases hlt : i < L2.length
          · rcases HI2.out with h0 | ⟨gp, op, rfl, hgp, hcp⟩
            · omega
            have hcb : wr.cell? ⟨gp, op + i, none⟩ = some (.string (L2[i]'hlt)) := by rw [hbw.out.cell (p := ⟨gp, op + i, none⟩) hgp, hcp i hlt, strs_at]
            have hx1 : (decide ((0 : Int) ≤ (i : Int) ∧ (i : Int) < (L2.length : Int))) = true := decide_eq_true ⟨by omega, by omega⟩
            clear hcp
            generalize L2[i]'hlt = s at hcb
            have hwi : was.size ≤ 1200 := by have := hws.out; have h3 : i * 60 ≤ 20 * 60 := Nat.mul_le_mul_right _ (by omega); omega
            by_cases hs60 : s.size ≤ 60
            · have hds : decide ((60 : Int) < (s.size : Int)) = false := decide_eq_false (by omega)
              have hds2 : decide (60 < s.size) = false := decide_eq_false (by omega)
              by_cases hr : i < len
              · have hdr : decide ((i : Int) < (len : Int)) = true := decide_eq_true (by omega)
                rcases HI3.out with h0 | ⟨gz, oz, rfl, hgz, hcz⟩
                · omega
                have hcz2 : wr.cell? ⟨gz, oz + i, none⟩ = some (.bool (z i)) := by rw [hbw.out.cell (p := ⟨gz, oz + i, none⟩) hgz, hcz i hr]
                have hx2 : (decide ((0 : Int) ≤ (i : Int) ∧ (i : Int) < (len : Int))) = true := decide_eq_true ⟨by omega, by omega⟩
                clear hcz
                cases hzi : z i
                · rw [hzi] at hcz2
                  obtain ⟨wb, hwb⟩ : ∃ wb, wb = was ++ s := ⟨_, rfl⟩
                  have hwz : wb.size = was.size + s.size := by rw [hwb, ByteArray.size_append]
                  have HSU : Hid (wb = was ++ s) := hwb
                  have hadd : ∀ W : World, (Op.stringOp .add was s).run Tryz.prog W = .ok (.string wb) W := fun W => by rw [run_string_add_sum W _ _ (by have := hws.out; omega), hwb]
                  have hwz2 : (was.size : Int) + (s.size : Int) = (wb.size : Int) := by omega
                  have HWS : Hid (wb.size ≤ (i + 1) * 60) := by show _ ≤ _; have := hws.out; omega
                  obtain ⟨X, hX⟩ : ∃ X, X = asHits (hitsT P was.size (nums was) (nums s)) := ⟨_, rfl⟩
                  obtain ⟨Y, hY⟩ : ∃ Y, Y = asHits (hitsT P 0 [] (nums s)) := ⟨_, rfl⟩
                  obtain ⟨m2, hm2⟩ : ∃ m2, m2 = A.idxOf (longT A (nums wb)) := ⟨_, rfl⟩
                  have HXL : Hid (X.length ≤ 50000) := by show _ ≤ _; rw [hX]; exact few_hits HR2.out.short _ _ s (by omega)
                  have HYL : Hid (Y.length ≤ 50000) := by show _ ≤ _; rw [hY]; exact few_hits HR2.out.short _ _ s (by omega)
                  have hWz : wb.size ≤ 1500 := by have := HWS.out; have h3 : (i + 1) * 60 ≤ 20 * 60 := Nat.mul_le_mul_right _ (by omega); omega
                  have hlo := fun (W : World) (hW : Reads W (.slice g6 nA c6) (strs (asTexts A))) => longest_from (w := W) HBY.out (nodes_mem0 HR2.out.nodes) hW HNA.out (x := nums wb) (bytesOf_nums _).symm (nums_byte _) (by rw [nums_length]; omega) wb.size (by omega)
                  rw [nums_length, Nat.sub_self, List.drop_zero, ← hm2] at hlo
                  have HLO := hid hlo
                  have HX := hid hX
                  have HY := hid hY
                  have HM2 := hid hm2
                  clear hlo hX hY hm2 hwb hwz
                  have HSC := hsc
                  have HSH := hsh
                  have HKP := hkp
                  have HBW := hbw
                  clear hsc hsh hkp hbw
                  go_wp2_with (first
                    | (have _h := HSC; go_at_call_of 11 (Value.pointer (some ⟨p, 0, none⟩)); refine (feed_own (u := was) (ub := wb) HSC.out HR2.out HSU.out (by omega) (by have := hws.out; omega)).mono ?_; rintro e w8 ⟨v8, k8, rfl, ho8, hs8, hk8⟩; rw [← HX.out] at ho8; have HO8 := hid ho8; have HK8 := hid hk8; have HS8 := hid hs8; have HB8 := hid (below_then HBW.out hk8 HP5.out); clear ho8 hs8 hk8 HSC _h)
                    | (go_at_call 12; refine (ShelfH.keep2 (n := i) (by omega) HK8.out hpB HSH.out HO8.out HXL.out (Nat.le_trans HKB.out (HKP.out.size))).mono ?_; rintro e w9 ⟨rfl, hs9, hr9, hb9⟩; have HSH9 := hid hs9; have HR9 := hid hr9; have HS9 := hid (HS8.out.row hpB hb9); have HKP9 := hid (kept_below (HKP.out.trans HK8.out) (by rw [← HBE.out]; exact hb9)); have HB9 := hid (HB8.out.trans (hb9.mono HBB.out)); clear hs9 hr9 hb9)
                    | (have _h := HR9; go_at_call 14; refine (refHits_any (HLI.out _ HB9.out) (by omega) HPE.out HR2.out.short was s (by have := hws.out; omega) (by omega) was.size (by have := hws.out; omega)).mono ?_; rintro e wA ⟨vA, rfl, hrA, hbA⟩; rw [← HX.out] at hrA; have HRA := hid hrA; have HRX := hid (HR9.out.below hbA); have HSA := hid (HS9.out.later hbA); have HSHA := hid (HSH9.out.below hbA); have HKPA := hid (kept_later HKP9.out hbA); have HBA := hid (below_more HB9.out hbA); clear hrA hbA HR9 _h)
                    | (have _h := HRX; go_at_call 13; refine (sameHits_any HRX.out HRA.out (by have := HXL.out; omega) (by have := HXL.out; omega)).mono ?_; rintro e wB ⟨rfl, hbB⟩; have HSB := hid (HSA.out.later hbB); have HSHB := hid (HSHA.out.below hbB); have HKPB := hid (kept_later HKPA.out hbB); have HBB2 := hid (below_more HBA.out hbB); clear hbB HRX HRA _h; rw [decide_eq_true rfl])
                    | (go_at_call_of 15 (Value.pointer (some ⟨p, 0, none⟩)); refine (atS_in HSB.out).mono ?_; rintro e wC ⟨rfl, rfl⟩)
                    | (go_at_call_of 16 (Value.pointer (some ⟨p, 0, none⟩)); refine (nodeS_in HSB.out).mono ?_; rintro e wD ⟨rfl, rfl⟩; rw [← HM2.out])
                    | (go_at_call 17; refine (HLO.out _ (ownsRow_reads (ownsRow_kept HO6.out HKPB.out hp5))).mono ?_; rintro e wE ⟨rfl, rfl⟩)
                    | (go_at_call 18; refine (allS_in HX2.out HSB.out.below HR2.out.father HR2.out.mem HR2.out.some HR2.out.short s (by omega)).mono ?_; rintro e wF ⟨vF, kF, rfl, hoF, hbF⟩; rw [← HY.out] at hoF; have HRF := hid (ownsRow_readsH hoF); have HSF := hid (HSB.out.later hbF); have HSHF := hid (HSHB.out.below hbF); have HKPF := hid (kept_later HKPB.out hbF); have HBF := hid (below_more HBB2.out hbF); clear hoF hbF)
                    | (go_at_call 14; refine (refHits_zero (HLI.out _ HBF.out) (by omega) HPE HR2.out.short s (by omega)).mono ?_; rintro e wG ⟨vG, rfl, hrG, hbG⟩; rw [← HY.out] at hrG; have HRG := hid hrG; have HRF2 := hid (HRF.out.below hbG); have HSG := hid (HSF.out.later hbG); have HSHG := hid (HSHF.out.below hbG); have HKPG := hid (kept_later HKPF.out hbG); have HBG := hid (below_more HBF.out hbG); clear hrG hbG)
                    | (go_at_call 13; refine (sameHits_any HRF2.out HRG.out (by have := HYL.out; omega) (by have := HYL.out; omega)).mono ?_; rintro e wH ⟨rfl, hbH⟩; have HSH2 := hid (HSG.out.later hbH); have HSHH := hid (HSHG.out.below hbH); have HKPH := hid (kept_later HKPG.out hbH); have HBH := hid (below_more HBG.out hbH); clear hbH; rw [decide_eq_true rfl]))
                  go_roundw
                  case rel => exact ⟨i + 1, wb, rfl, by first | rfl | go_num, by go_num, by omega, HWS.out, HSH2.out, HSHH.out, HKPH.out, HBH.out⟩
                  case measure => simp [intOf]; omega
                · rw [hzi] at hcz2
                  have HSU : Hid (s = (⟨#[]⟩ : ByteArray) ++ s) := by show _ = _; exact ByteArray.empty_append.symm
                  have hadd : ∀ W : World, (Op.stringOp .add (⟨#[]⟩ : ByteArray) s).run Tryz.prog W = .ok (.string s) W := fun W => by rw [run_string_add_sum W _ _ (by have : (⟨#[]⟩ : ByteArray).size = 0 := rfl; omega)]; exact congrArg (fun x => Result.ok (Value.string x) W) ByteArray.empty_append
                  have HWS : Hid (s.size ≤ (i + 1) * 60) := by show _ ≤ _; omega
                  obtain ⟨X, hX⟩ : ∃ X, X = asHits (hitsT P (⟨#[]⟩ : ByteArray).size (nums (⟨#[]⟩ : ByteArray)) (nums s)) := ⟨_, rfl⟩
                  obtain ⟨Y, hY⟩ : ∃ Y, Y = asHits (hitsT P 0 [] (nums s)) := ⟨_, rfl⟩
                  obtain ⟨m2, hm2⟩ : ∃ m2, m2 = A.idxOf (longT A (nums s)) := ⟨_, rfl⟩
                  have HXL : Hid (X.length ≤ 50000) := by show _ ≤ _; rw [hX]; exact few_hits HR2.out.short _ _ s (by omega)
                  have HYL : Hid (Y.length ≤ 50000) := by show _ ≤ _; rw [hY]; exact few_hits HR2.out.short _ _ s (by omega)
                  have hWz : s.size ≤ 1500 := by have := HWS.out; have h3 : (i + 1) * 60 ≤ 20 * 60 := Nat.mul_le_mul_right _ (by omega); omega
                  have hlo := fun (W : World) (hW : Reads W (.slice g6 nA c6) (strs (asTexts A))) => longest_from (w := W) HBY.out (nodes_mem0 HR2.out.nodes) hW HNA.out (x := nums s) (bytesOf_nums _).symm (nums_byte _) (by rw [nums_length]; omega) s.size (by omega)
                  rw [nums_length, Nat.sub_self, List.drop_zero, ← hm2] at hlo
                  have HLO := hid hlo
                  have HX := hid hX
                  have HY := hid hY
                  have HM2 := hid hm2
                  clear hlo hX hY hm2
                  go_wp2_with (first
                    | (have _h := hsc; go_at_call_of 10 (Value.pointer (some ⟨p, 0, none⟩)); refine (resetS_in hsc.out HR2.out.nodes).mono ?_; rintro e w7 ⟨rfl, hs7, hk7⟩; have HSC : Hid (ScAt w4 w7 p l t A P (wordOf P) (nums (⟨#[]⟩ : ByteArray)) (⟨#[]⟩ : ByteArray).size) := hs7; have HSH := hid (hsh.out.kept hk7 hpB); have HKP := hid (hkp.out.trans hk7); have HBW := hid (below_then hbw.out hk7 HP5.out); clear hs7 hk7 hsc hsh hkp hbw _h)
                    | (have _h := HSC; go_at_call_of 11 (Value.pointer (some ⟨p, 0, none⟩)); refine (feed_own (u := (⟨#[]⟩ : ByteArray)) (ub := s) HSC.out HR2.out HSU.out (by omega) (by decide)).mono ?_; rintro e w8 ⟨v8, k8, rfl, ho8, hs8, hk8⟩; rw [← HX.out] at ho8; have HO8 := hid ho8; have HK8 := hid hk8; have HS8 := hid hs8; have HB8 := hid (below_then HBW.out hk8 HP5.out); clear ho8 hs8 hk8 HSC _h)
                    | (go_at_call 12; refine (ShelfH.keep2 (n := i) (by omega) HK8.out hpB HSH.out HO8.out HXL.out (Nat.le_trans HKB.out (HKP.out.size))).mono ?_; rintro e w9 ⟨rfl, hs9, hr9, hb9⟩; have HSH9 := hid hs9; have HR9 := hid hr9; have HS9 := hid (HS8.out.row hpB hb9); have HKP9 := hid (kept_below (HKP.out.trans HK8.out) (by rw [← HBE.out]; exact hb9)); have HB9 := hid (HB8.out.trans (hb9.mono HBB.out)); clear hs9 hr9 hb9)
                    | (have _h := HR9; go_at_call 14; refine (refHits_zero (HLI.out _ HB9.out) (by omega) HPE HR2.out.short s (by omega)).mono ?_; rintro e wA ⟨vA, rfl, hrA, hbA⟩; have HRA : Hid (ReadsH wA vA X) := (by show ReadsH wA vA X; rw [HX.out]; exact hrA); have HRX := hid (HR9.out.below hbA); have HSA := hid (HS9.out.later hbA); have HSHA := hid (HSH9.out.below hbA); have HKPA := hid (kept_later HKP9.out hbA); have HBA := hid (below_more HB9.out hbA); clear hrA hbA HR9 _h)
                    | (have _h := HRX; go_at_call 13; refine (sameHits_any HRX.out HRA.out (by have := HXL.out; omega) (by have := HXL.out; omega)).mono ?_; rintro e wB ⟨rfl, hbB⟩; have HSB := hid (HSA.out.later hbB); have HSHB := hid (HSHA.out.below hbB); have HKPB := hid (kept_later HKPA.out hbB); have HBB2 := hid (below_more HBA.out hbB); clear hbB HRX HRA _h; rw [decide_eq_true rfl])
                    | (go_at_call_of 15 (Value.pointer (some ⟨p, 0, none⟩)); refine (atS_in HSB.out).mono ?_; rintro e wC ⟨rfl, rfl⟩)
                    | (go_at_call_of 16 (Value.pointer (some ⟨p, 0, none⟩)); refine (nodeS_in HSB.out).mono ?_; rintro e wD ⟨rfl, rfl⟩; rw [← HM2.out])
                    | (go_at_call 17; refine (HLO.out _ (ownsRow_reads (ownsRow_kept HO6.out HKPB.out hp5))).mono ?_; rintro e wE ⟨rfl, rfl⟩)
                    | (go_at_call 18; refine (allS_in HX2.out HSB.out.below HR2.out.father HR2.out.mem HR2.out.some HR2.out.short s (by omega)).mono ?_; rintro e wF ⟨vF, kF, rfl, hoF, hbF⟩; rw [← HY.out] at hoF; have HRF := hid (ownsRow_readsH hoF); have HSF := hid (HSB.out.later hbF); have HSHF := hid (HSHB.out.below hbF); have HKPF := hid (kept_later HKPB.out hbF); have HBF := hid (below_more HBB2.out hbF); clear hoF hbF)
                    | (go_at_call 14; refine (refHits_zero (HLI.out _ HBF.out) (by omega) HPE HR2.out.short s (by omega)).mono ?_; rintro e wG ⟨vG, rfl, hrG, hbG⟩; rw [← HY.out] at hrG; have HRG := hid hrG; have HRF2 := hid (HRF.out.below hbG); have HSG := hid (HSF.out.later hbG); have HSHG := hid (HSHF.out.below hbG); have HKPG := hid (kept_later HKPF.out hbG); have HBG := hid (below_more HBF.out hbG); clear hrG hbG)
                    | (go_at_call 13; refine (sameHits_any HRF2.out HRG.out (by have := HYL.out; omega) (by have := HYL.out; omega)).mono ?_; rintro e wH ⟨rfl, hbH⟩; have HSH2 := hid (HSG.out.later hbH); have HSHH := hid (HSHG.out.below hbH); have HKPH := hid (kept_later HKPG.out hbH); have HBH := hid (below_more HBG.out hbH); clear hbH; rw [decide_eq_true rfl]))
                  go_roundw
                  case rel => exact ⟨i + 1, s, rfl, by first | rfl | go_num, by go_num, by omega, HWS.out, HSH2.out, HSHH.out, HKPH.out, HBH.out⟩
                  case measure => simp [intOf]; omega
              · have hdr : decide ((i : Int) < (len : Int)) = false := decide_eq_false (by omega)
                have hdr2 : decide (i < len) = false := decide_eq_false (by omega)
                obtain ⟨wb, hwb⟩ : ∃ wb, wb = was ++ s := ⟨_, rfl⟩
                have hwz : wb.size = was.size + s.size := by rw [hwb, ByteArray.size_append]
                have HSU : Hid (wb = was ++ s) := hwb
                have hadd : ∀ W : World, (Op.stringOp .add was s).run Tryz.prog W = .ok (.string wb) W := fun W => by rw [run_string_add_sum W _ _ (by have := hws.out; omega), hwb]
                have hwz2 : (was.size : Int) + (s.size : Int) = (wb.size : Int) := by omega
                have HWS : Hid (wb.size ≤ (i + 1) * 60) := by show _ ≤ _; have := hws.out; omega
                obtain ⟨X, hX⟩ : ∃ X, X = asHits (hitsT P was.size (nums was) (nums s)) := ⟨_, rfl⟩
                obtain ⟨Y, hY⟩ : ∃ Y, Y = asHits (hitsT P 0 [] (nums s)) := ⟨_, rfl⟩
                obtain ⟨m2, hm2⟩ : ∃ m2, m2 = A.idxOf (longT A (nums wb)) := ⟨_, rfl⟩
                have HXL : Hid (X.length ≤ 50000) := by show _ ≤ _; rw [hX]; exact few_hits HR2.out.short _ _ s (by omega)
                have HYL : Hid (Y.length ≤ 50000) := by show _ ≤ _; rw [hY]; exact few_hits HR2.out.short _ _ s (by omega)
                have hWz : wb.size ≤ 1500 := by have := HWS.out; have h3 : (i + 1) * 60 ≤ 20 * 60 := Nat.mul_le_mul_right _ (by omega); omega
                have hlo := fun (W : World) (hW : Reads W (.slice g6 nA c6) (strs (asTexts A))) => longest_from (w := W) HBY.out (nodes_mem0 HR2.out.nodes) hW HNA.out (x := nums wb) (bytesOf_nums _).symm (nums_byte _) (by rw [nums_length]; omega) wb.size (by omega)
                rw [nums_length, Nat.sub_self, List.drop_zero, ← hm2] at hlo
                have HLO := hid hlo
                have HX := hid hX
                have HY := hid hY
                have HM2 := hid hm2
                clear hlo hX hY hm2 hwb hwz
                have HSC := hsc
                have HSH := hsh
                have HKP := hkp
                have HBW := hbw
                clear hsc hsh hkp hbw
                go_wp2_with (first
                  | (have _h := HSC; go_at_call_of 11 (Value.pointer (some ⟨p, 0, none⟩)); refine (feed_own (u := was) (ub := wb) HSC.out HR2.out HSU.out (by omega) (by have := hws.out; omega)).mono ?_; rintro e w8 ⟨v8, k8, rfl, ho8, hs8, hk8⟩; rw [← HX.out] at ho8; have HO8 := hid ho8; have HK8 := hid hk8; have HS8 := hid hs8; have HB8 := hid (below_then HBW.out hk8 HP5.out); clear ho8 hs8 hk8 HSC _h)
                  | (go_at_call 12; refine (ShelfH.keep2 (n := i) (by omega) HK8.out hpB HSH.out HO8.out HXL.out (Nat.le_trans HKB.out (HKP.out.size))).mono ?_; rintro e w9 ⟨rfl, hs9, hr9, hb9⟩; have HSH9 := hid hs9; have HR9 := hid hr9; have HS9 := hid (HS8.out.row hpB hb9); have HKP9 := hid (kept_below (HKP.out.trans HK8.out) (by rw [← HBE.out]; exact hb9)); have HB9 := hid (HB8.out.trans (hb9.mono HBB.out)); clear hs9 hr9 hb9)
                  | (have _h := HR9; go_at_call 14; refine (refHits_any (HLI.out _ HB9.out) (by omega) HPE.out HR2.out.short was s (by have := hws.out; omega) (by omega) was.size (by have := hws.out; omega)).mono ?_; rintro e wA ⟨vA, rfl, hrA, hbA⟩; rw [← HX.out] at hrA; have HRA := hid hrA; have HRX := hid (HR9.out.below hbA); have HSA := hid (HS9.out.later hbA); have HSHA := hid (HSH9.out.below hbA); have HKPA := hid (kept_later HKP9.out hbA); have HBA := hid (below_more HB9.out hbA); clear hrA hbA HR9 _h)
                  | (have _h := HRX; go_at_call 13; refine (sameHits_any HRX.out HRA.out (by have := HXL.out; omega) (by have := HXL.out; omega)).mono ?_; rintro e wB ⟨rfl, hbB⟩; have HSB := hid (HSA.out.later hbB); have HSHB := hid (HSHA.out.below hbB); have HKPB := hid (kept_later HKPA.out hbB); have HBB2 := hid (below_more HBA.out hbB); clear hbB HRX HRA _h; rw [decide_eq_true rfl])
                  | (go_at_call_of 15 (Value.pointer (some ⟨p, 0, none⟩)); refine (atS_in HSB.out).mono ?_; rintro e wC ⟨rfl, rfl⟩)
                  | (go_at_call_of 16 (Value.pointer (some ⟨p, 0, none⟩)); refine (nodeS_in HSB.out).mono ?_; rintro e wD ⟨rfl, rfl⟩; rw [← HM2.out])
                  | (go_at_call 17; refine (HLO.out _ (ownsRow_reads (ownsRow_kept HO6.out HKPB.out hp5))).mono ?_; rintro e wE ⟨rfl, rfl⟩)
                  | (go_at_call 18; refine (allS_in HX2.out HSB.out.below HR2.out.father HR2.out.mem HR2.out.some HR2.out.short s (by omega)).mono ?_; rintro e wF ⟨vF, kF, rfl, hoF, hbF⟩; rw [← HY.out] at hoF; have HRF := hid (ownsRow_readsH hoF); have HSF := hid (HSB.out.later hbF); have HSHF := hid (HSHB.out.below hbF); have HKPF := hid (kept_later HKPB.out hbF); have HBF := hid (below_more HBB2.out hbF); clear hoF hbF)
                  | (go_at_call 14; refine (refHits_zero (HLI.out _ HBF.out) (by omega) HPE HR2.out.short s (by omega)).mono ?_; rintro e wG ⟨vG, rfl, hrG, hbG⟩; rw [← HY.out] at hrG; have HRG := hid hrG; have HRF2 := hid (HRF.out.below hbG); have HSG := hid (HSF.out.later hbG); have HSHG := hid (HSHF.out.below hbG); have HKPG := hid (kept_later HKPF.out hbG); have HBG := hid (below_more HBF.out hbG); clear hrG hbG)
                  | (go_at_call 13; refine (sameHits_any HRF2.out HRG.out (by have := HYL.out; omega) (by have := HYL.out; omega)).mono ?_; rintro e wH ⟨rfl, hbH⟩; have HSH2 := hid (HSG.out.later hbH); have HSHH := hid (HSHG.out.below hbH); have HKPH := hid (kept_later HKPG.out hbH); have HBH := hid (below_more HBG.out hbH); clear hbH; rw [decide_eq_true rfl]))
                go_roundw
                case rel => exact ⟨i + 1, wb, rfl, by first | rfl | go_num, by go_num, by omega, HWS.out, HSH2.out, HSHH.out, HKPH.out, HBH.out⟩
                case measure => simp [intOf]; omega
            · have hds : decide ((60 : Int) < (s.size : Int)) = true := decide_eq_true (by omega)
              have hds2 : decide (60 < s.size) = true := decide_eq_true (by omega)
              go_wp2
              go_ret
              exact ⟨rfl, hbw.out⟩
          · obtain rfl : i = L2.length := by omega
            go_wp2_with (first
              | (go_at_call 10; refine (resetS_none _).mono ?_; rintro e wA ⟨rfl, rfl⟩)
              | (go_at_call 11; refine (feed_none _ _).mono ?_; rintro e wB ⟨rfl, rfl⟩)
              | (go_at_call 15; refine (atS_none _).mono ?_; rintro e wC ⟨rfl, rfl⟩)
              | (go_at_call 16; refine (nodeS_none _).mono ?_; rintro e wD ⟨rfl, rfl⟩)
              | (go_at_call 18; refine (allS_none _ _).mono ?_; rintro e wE ⟨rfl, rfl⟩)
              | (go_at_call 19; refine (ShelfH.apart hsh.out (by omega) (Nat.le_trans HKB.out hkp.out.size)).mono ?_; rintro e wF ⟨rfl, hbF⟩; have HBF := hid (hbw.out.trans (hbF.mono HBB.out)); clear hbF))
            go_ret
            exact ⟨rfl, HBF.out⟩
      · go_enter Tryz.func3, Tryz.ntmps3
        have hc0 : ¬ cd = 0 := bad_code hL
        go_wp2_with (first
          | (go_at_call 4; refine (few_any H.out).mono ?_; rintro e w1 ⟨rfl, rfl⟩; rw [hd1])
          | (go_at_call 5; refine (alive_any _).mono ?_; rintro e w2 ⟨rfl, hb2⟩; have H2 := hid (H.out.below hb2))
          | (go_at_call 6; refine (phrases_bad H2.out.1 hsz.1 (fun s hs => by have := hsz.2 s hs; omega) hL).mono ?_; rintro e w3 ⟨rfl, rfl⟩))
        go_ret
        exact ⟨rfl, hb2⟩
    · have hdc : decide ((20 : Int) < (L2.length : Int)) = true := decide_eq_true (by omega)
      have hdc2 : decide (20 < L2.length) = true := decide_eq_true (by omega)
      go_enter Tryz.func3, Tryz.ntmps3
      go_wp2_with (first
        | (go_at_call 4; refine (few_any H.out).mono ?_; rintro e w1 ⟨rfl, rfl⟩; rw [hd1])
        | (go_at_call 5; refine (alive_any _).mono ?_; rintro e w2 ⟨rfl, hb2⟩))
      go_ret
      exact ⟨rfl, hb2⟩
  · have hd1 : fewB L = false := decide_eq_false hf
    go_enter Tryz.func3, Tryz.ntmps3
    go_wp2_with (first
      | (go_at_call 4; refine (few_any H.out).mono ?_; rintro e w1 ⟨rfl, rfl⟩; rw [hd1])
      | (go_at_call 5; refine (alive_any _).mono ?_; rintro e w2 ⟨rfl, hb2⟩))
    go_ret
    exact ⟨rfl, hb2⟩

set_option linter.unusedVariables false
theorem scanPlays_own : ownKnob Tryz.prog.godebug = none := by kernel_rfl

theorem scanPlays_laidOut : laidOutB Tryz.prog = true := by kernel_rfl

set_option maxRecDepth 100000 in
theorem scanPlays_lifted (os : Os) (started : os.Started) (H : Type) (enc : TypeId × Value → H) :
    ReturnsInHanded {} Tryz.checked os 3 .any (Rows.scanPlaysSpec.pre6 enc Tryz.prog Tryz.f3 Rows.scanPlaysRow.domain false) (Rows.scanPlaysSpec.post enc Tryz.prog Tryz.f3 false true false false) := by
  refine returnsInHanded_of_change_sized (C := Tryz.checked) scanPlays_own started (by kernel_rfl) Tryz.func3
    (ChangeSpec.witness6 (enc := enc) (C := Tryz.checked) false ⟨#[], #[.slice none 0 0, .slice none 0 0, .slice none 0 0], []⟩ 8 (by kernel_rfl) (by kernel_rfl) (by kernel_rfl) (by kernel_rfl)) ?_
  intro W base args ds gs before hval0 hW hcnd hsz0 _
  have hsz : (DataW.weightsEach Tryz.prog (Tryz.f3.params.toList ++ Rows.scanPlaysSpec.plain.varTypes Tryz.prog) (ds ++ gs)).all (· ≤ reachBytes) = true := hsz0
  have hval : ∀ (j : Nat) t v, Tryz.f3.params[j]? = some t → args[j]? = some v → Value.okWide Tryz.prog W .any base t v := hval0
  have hW' := hW
  obtain ⟨p, q, hA0, hV, rfl, hfz, hnd⟩ := hW
  have hA : DataW.TrodAll enc Tryz.prog W 0 (fun _ => true) true Tryz.f3.params.toList args.toList ds p := hA0
  rw [Tryz.params3] at hA hval hsz
  obtain ⟨v0, vs0, d0, ds0, p0, q0, hargs, rfl, rfl, h0, r0⟩ := trodAll_cons hA
  obtain ⟨v1, vs1, d1, ds1, p1, q1, rfl, rfl, rfl, h1, r1⟩ := trodAll_cons r0
  obtain ⟨v2, vs2, d2, ds2, p2, q2, rfl, rfl, rfl, h2, r2⟩ := trodAll_cons r1
  obtain ⟨rfl, rfl, rfl⟩ := trodAll_nil r2
  obtain rfl : args = #[v0, v1, v2] := by cases args; simp_all
  obtain ⟨rfl, rfl⟩ := trodVars_none hV
  obtain ⟨a0, len0, cap0, rfl⟩ := okWide_slice Tryz.underlying22 (hval 0 22 v0 rfl rfl)
  have k0 := h0
  have lt0 : ∀ x ∈ p0, x.block < W.heap.size := by obtain ⟨m, hm⟩ := k0; exact DataW.trod_lt m _ _ _ hm
  obtain ⟨z0, w0⟩ := h0.elim (fun _ hf => open_list hf hsz 0 rfl rfl)
  obtain ⟨a1, len1, cap1, rfl⟩ := okWide_slice Tryz.underlying22 (hval 1 22 v1 rfl rfl)
  have k1 := h1
  have lt1 : ∀ x ∈ p1, x.block < W.heap.size := by obtain ⟨m, hm⟩ := k1; exact DataW.trod_lt m _ _ _ hm
  obtain ⟨z1, w1⟩ := h1.elim (fun _ hf => open_list hf hsz 1 rfl rfl)
  obtain ⟨a2, len2, cap2, rfl⟩ := okWide_slice Tryz.underlying23 (hval 2 23 v2 rfl rfl)
  have k2 := h2
  have lt2 : ∀ x ∈ p2, x.block < W.heap.size := by obtain ⟨m, hm⟩ := k2; exact DataW.trod_lt m _ _ _ hm
  obtain ⟨z2, w2⟩ := h2.elim (fun _ hf => open_truths hf)
  clear hA0 hval0
  refine (plays_walk _ z0 _ z1 a2 len2 cap2 z2 W w0 w1 w2).mono fun e W' ⟨he, bel⟩ => ?_
  subst he
  exact ⟨_, rfl, _, _, _, [], _, [], hW', trodAll_mk1 (shut_bool Tryz.underlying4 _), (trodAll_cons_mk (Below.trod scanPlays_laidOut (by kernel_rfl) (of_decide_eq_true (by kernel_rfl)) k0 bel lt0) (trodAll_cons_mk (Below.trod scanPlays_laidOut (by kernel_rfl) (of_decide_eq_true (by kernel_rfl)) k1 bel lt1) (trodAll_cons_mk (Below.trod scanPlays_laidOut (by kernel_rfl) (of_decide_eq_true (by kernel_rfl)) k2 bel lt2) trodAll_mk0))), rfl, bel.frame _, fun h => by cases h⟩

/-- THE STATEMENT. -/
theorem scanPlays_holds : Rows.ScanPlaysSaid :=
  OpenClaim.holds_of_wide 3 Tryz.f3 rfl rfl rfl rfl rfl rfl rfl ⟨rfl, rfl, rfl, rfl, rfl⟩ rfl rfl rfl rfl rfl (by kernel_rfl) Tryz.func3 (by kernel_rfl)
    (of_decide_eq_true (by kernel_rfl)) (by unfold Func.isWrapper; first | (rw [if_pos (by decide +kernel)]; kernel_rfl) | (rw [if_neg (by decide +kernel)]; exact ⟨rfl, rfl⟩))
    (fun os started H enc _ => scanPlays_lifted os started H enc)
#print axioms scanPlays_holds
end Go.Proofs.YtmaadeeocppkfaaGreat
