/-
  Contract of package lexiphanebook: Apart of a book of lists of numbers and of costs.
-/
import Derived.Test.YtdplflcaanmmiaaGreatBookRest
import Derived.Test.YtdplflcaanmmiaaGreatBookN
import Derived.Test.YtdplflcaanmmiaaGreatBookI
import Derived.Test.YtdplflcaanmmiaaGreatBookC
namespace Go.Proofs.YtdplflcaanmmiaaGreat
open Go.ChangeShapes Go.WideShapes Go.ChangeAt Go.RowKit

theorem marksI_tail (j m : Nat) : marksI j 0 m ++ marksI j (marksI j 0 m).length 72 = marksI j 0 (marksI j 0 m ++ marksI j (marksI j 0 m).length 72).length := by
  rw [List.length_append, marksI_length, marksI_length]
  have := marksI_append j 0 m 72
  rwa [Nat.zero_add] at this

theorem marksC_tail (j m : Nat) : marksC j 0 m ++ marksC j (marksC j 0 m).length 72 = marksC j 0 (marksC j 0 m ++ marksC j (marksC j 0 m).length 72).length := by
  rw [List.length_append, marksC_length, marksC_length]
  have := marksC_append j 0 m 72
  rwa [Nat.zero_add] at this

theorem book_turned {e : TypeId} {w w' : World} {B p : Nat} {cs : Array Value} (h : BookAt w p cs) (hT : Turns e B w w') (he : 38 ≠ e) : BookAt w' p cs := ⟨hT.cell he h.1, h.2⟩

set_option maxRecDepth 20000 in
set_option maxHeartbeats 4000000 in
theorem apartIC_any {w : World} {B p : Nat} {nI nC : Nat} {VI VI' VC VC' : Nat → Value} {CI : Nat → List Int} {CC : Nat → List (Int × Int)} {uI uI' uC uC' : Value}
    (hP : BookAt w p #[uI, uI', .slice none 0 0, .slice none 0 0, .slice none 0 0, .slice none 0 0, uC, uC', .slice none 0 0, .slice none 0 0])
    (lI : ListsI w B uI nI VI CI) (wI : ListsI w B uI' nI VI' CI) (lC : ListsC w B uC nC VC CC) (wC : ListsC w B uC' nC VC' CC)
    (hnI : nI ≤ 250) (hnC : nC ≤ 250)
    (hcI : ∀ j, j < nI → (CI j).length ≤ 50000) (hcC : ∀ j, j < nC → (CC j).length ≤ 50000) (hSm : ∀ j, j < nC → SmallC (CC j)) (hB : B ≤ w.heap.size) :
    Calls Tryz.prog 12 #[.pointer (some ⟨p, 0, none⟩)] w fun e w' => e = .returned (.bool true) ∧ Below B w w' := by
  have P0 := hid hP
  have hs0 := hid hB
  have hw0 : Hid (Below B w w) := Below.refl _ _
  have LI0 := hid lI
  have WI0 := hid wI
  have HCI := hid hcI
  have LC0 := hid lC
  have WC0 := hid wC
  have HCC := hid hcC
  have HSm := hid hSm
  clear hSm hP lI wI hcI lC wC hcC
  have x0 : w.cell? ⟨p, 0, none⟩ = some (uI) := P0.out.cell 0
  have x2 : w.cell? ⟨p, 2, none⟩ = some (.slice none 0 0) := P0.out.cell 2
  have x4 : w.cell? ⟨p, 4, none⟩ = some (.slice none 0 0) := P0.out.cell 4
  have x6 : w.cell? ⟨p, 6, none⟩ = some (uC) := P0.out.cell 6
  have x8 : w.cell? ⟨p, 8, none⟩ = some (.slice none 0 0) := P0.out.cell 8
  go_enter Tryz.func12, Tryz.ntmps12
  go_wp2_with (first
    | (have _h := at9; go_at_call 50; refine (markedCosts_any LC9.out (fun j _ => by rw [marksC_length]) hnC (fun j hj => by rw [marksC_length]; have := HCC.out j hj; omega)).mono ?_; rintro e w10 ⟨rfl, hb⟩; clear x0 x2 x4 x6 x8; have P10 := hid (P9.out.below hb); have hw10 := hid (hw9.out.trans (hb.mono hs9.out)); have hs10 := hid (Nat.le_trans hs9.out hb.size); have x0 : w10.cell? ⟨p, 0, none⟩ = some (uI) := P10.out.cell 0; have x2 : w10.cell? ⟨p, 2, none⟩ = some (.slice none 0 0) := P10.out.cell 2; have x4 : w10.cell? ⟨p, 4, none⟩ = some (.slice none 0 0) := P10.out.cell 4; have x6 : w10.cell? ⟨p, 6, none⟩ = some (uC) := P10.out.cell 6; have x8 : w10.cell? ⟨p, 8, none⟩ = some (.slice none 0 0) := P10.out.cell 8; clear hb; have at10 : True := trivial)
    | (have _h := at8; go_at_call 50; refine (markedCosts_any GC8.out (fun j _ => marksC_tail j _) hnC (fun j hj => by rw [List.length_append, marksC_length, marksC_length]; have := HCC.out j hj; omega)).mono ?_; rintro e w9 ⟨rfl, hb⟩; clear x0 x2 x4 x6 x8; have LC9 := hid (LC8.out.below hb); have P9 := hid (P8.out.below hb); have hw9 := hid (hw8.out.trans (hb.mono hs8.out)); have hs9 := hid (Nat.le_trans hs8.out hb.size); have x0 : w9.cell? ⟨p, 0, none⟩ = some (uI) := P9.out.cell 0; have x2 : w9.cell? ⟨p, 2, none⟩ = some (.slice none 0 0) := P9.out.cell 2; have x4 : w9.cell? ⟨p, 4, none⟩ = some (.slice none 0 0) := P9.out.cell 4; have x6 : w9.cell? ⟨p, 6, none⟩ = some (uC) := P9.out.cell 6; have x8 : w9.cell? ⟨p, 8, none⟩ = some (.slice none 0 0) := P9.out.cell 8; clear hb; have at9 : True := trivial)
    | (have _h := at7; go_at_call 47; refine (markedInts_any LI7.out (fun j _ => by rw [marksI_length]) hnI (fun j hj => by rw [marksI_length]; have := HCI.out j hj; omega)).mono ?_; rintro e w8 ⟨rfl, hb⟩; clear x0 x2 x4 x6 x8; have LC8 := hid (LC7.out.below hb); have GC8 := hid (GC7.out.below hb); have P8 := hid (P7.out.below hb); have hw8 := hid (hw7.out.trans (hb.mono hs7.out)); have hs8 := hid (Nat.le_trans hs7.out hb.size); have x0 : w8.cell? ⟨p, 0, none⟩ = some (uI) := P8.out.cell 0; have x2 : w8.cell? ⟨p, 2, none⟩ = some (.slice none 0 0) := P8.out.cell 2; have x4 : w8.cell? ⟨p, 4, none⟩ = some (.slice none 0 0) := P8.out.cell 4; have x6 : w8.cell? ⟨p, 6, none⟩ = some (uC) := P8.out.cell 6; have x8 : w8.cell? ⟨p, 8, none⟩ = some (.slice none 0 0) := P8.out.cell 8; clear hb; have at8 : True := trivial)
    | (have _h := at6; go_at_call 47; refine (markedInts_any GI6.out (fun j _ => marksI_tail j _) hnI (fun j hj => by rw [List.length_append, marksI_length, marksI_length]; have := HCI.out j hj; omega)).mono ?_; rintro e w7 ⟨rfl, hb⟩; clear x0 x2 x4 x6 x8; have LI7 := hid (LI6.out.below hb); have LC7 := hid (LC6.out.below hb); have GC7 := hid (GC6.out.below hb); have P7 := hid (P6.out.below hb); have hw7 := hid (hw6.out.trans (hb.mono hs6.out)); have hs7 := hid (Nat.le_trans hs6.out hb.size); have x0 : w7.cell? ⟨p, 0, none⟩ = some (uI) := P7.out.cell 0; have x2 : w7.cell? ⟨p, 2, none⟩ = some (.slice none 0 0) := P7.out.cell 2; have x4 : w7.cell? ⟨p, 4, none⟩ = some (.slice none 0 0) := P7.out.cell 4; have x6 : w7.cell? ⟨p, 6, none⟩ = some (uC) := P7.out.cell 6; have x8 : w7.cell? ⟨p, 8, none⟩ = some (.slice none 0 0) := P7.out.cell 8; clear hb; have at7 : True := trivial)
    | (go_at_call 45; refine (growCosts_any P5.out rfl LC5.out hnC (fun j hj => by rw [marksC_length]; exact HCC.out j hj) hs5.out).mono ?_; rintro e w6 ⟨gC, rfl, ⟨V2C, hl⟩, hg, hT⟩; clear x0 x2 x4 x6 x8; have GC6 := hid hl; have LC6 := hid hg; have LI6 := hid (LI5.out.turned hT (by decide) (by decide)); have GI6 := hid (GI5.out.turned hT (by decide) (by decide)); have P6 := hid (book_turned P5.out hT (by decide)); have hw6 := hid (hw5.out.trans (hT.below hs5.out)); have hs6 := hid (Nat.le_trans hs5.out hT.size); have x0 : w6.cell? ⟨p, 0, none⟩ = some (uI) := P6.out.cell 0; have x2 : w6.cell? ⟨p, 2, none⟩ = some (.slice none 0 0) := P6.out.cell 2; have x4 : w6.cell? ⟨p, 4, none⟩ = some (.slice none 0 0) := P6.out.cell 4; have x6 : w6.cell? ⟨p, 6, none⟩ = some (uC) := P6.out.cell 6; have x8 : w6.cell? ⟨p, 8, none⟩ = some (.slice none 0 0) := P6.out.cell 8; clear hl hg hT; have at6 : True := trivial)
    | (go_at_call 42; refine (growInts_any P4.out rfl LI4.out hnI (fun j hj => by rw [marksI_length]; exact HCI.out j hj) hs4.out).mono ?_; rintro e w5 ⟨gI, rfl, ⟨V2I, hl⟩, hg, hT⟩; clear x0 x2 x4 x6 x8; have GI5 := hid hl; have LI5 := hid hg; have LC5 := hid (LC4.out.turned hT (by decide) (by decide)); have P5 := hid (book_turned P4.out hT (by decide)); have hw5 := hid (hw4.out.trans (hT.below hs4.out)); have hs5 := hid (Nat.le_trans hs4.out hT.size); have x0 : w5.cell? ⟨p, 0, none⟩ = some (uI) := P5.out.cell 0; have x2 : w5.cell? ⟨p, 2, none⟩ = some (.slice none 0 0) := P5.out.cell 2; have x4 : w5.cell? ⟨p, 4, none⟩ = some (.slice none 0 0) := P5.out.cell 4; have x6 : w5.cell? ⟨p, 6, none⟩ = some (uC) := P5.out.cell 6; have x8 : w5.cell? ⟨p, 8, none⟩ = some (.slice none 0 0) := P5.out.cell 8; clear hl hg hT; have at5 : True := trivial)
    | (go_at_call 40; refine (putCosts_any P3.out rfl LC3.out hnC HCC.out).mono ?_; rintro e w4 ⟨rfl, hl, hT⟩; clear x0 x2 x4 x6 x8; have LC4 := hid hl; have LI4 := hid (LI3.out.turned hT (by decide) (by decide)); have P4 := hid (book_turned P3.out hT (by decide)); have hw4 := hid (hw3.out.trans (hT.below hs3.out)); have hs4 := hid (Nat.le_trans hs3.out hT.size); have x0 : w4.cell? ⟨p, 0, none⟩ = some (uI) := P4.out.cell 0; have x2 : w4.cell? ⟨p, 2, none⟩ = some (.slice none 0 0) := P4.out.cell 2; have x4 : w4.cell? ⟨p, 4, none⟩ = some (.slice none 0 0) := P4.out.cell 4; have x6 : w4.cell? ⟨p, 6, none⟩ = some (uC) := P4.out.cell 6; have x8 : w4.cell? ⟨p, 8, none⟩ = some (.slice none 0 0) := P4.out.cell 8; clear hl hT)
    | (go_at_call 37; refine (putInts_any P2.out rfl LI2.out hnI HCI.out).mono ?_; rintro e w3 ⟨rfl, hl, hT⟩; clear x0 x2 x4 x6 x8; have LI3 := hid hl; have LC3 := hid (LC2.out.turned hT (by decide) (by decide)); have P3 := hid (book_turned P2.out hT (by decide)); have hw3 := hid (hw2.out.trans (hT.below hs2.out)); have hs3 := hid (Nat.le_trans hs2.out hT.size); have x0 : w3.cell? ⟨p, 0, none⟩ = some (uI) := P3.out.cell 0; have x2 : w3.cell? ⟨p, 2, none⟩ = some (.slice none 0 0) := P3.out.cell 2; have x4 : w3.cell? ⟨p, 4, none⟩ = some (.slice none 0 0) := P3.out.cell 4; have x6 : w3.cell? ⟨p, 6, none⟩ = some (uC) := P3.out.cell 6; have x8 : w3.cell? ⟨p, 8, none⟩ = some (.slice none 0 0) := P3.out.cell 8; clear hl hT)
    | (go_at_call 35; refine (stillCosts_any P1.out rfl rfl LC1.out WC1.out hnC HCC.out HSm.out).mono ?_; rintro e w2 ⟨rfl, hb⟩; clear x0 x2 x4 x6 x8; have LI2 := hid (LI1.out.below hb); have WI2 := hid (WI1.out.below hb); have LC2 := hid (LC1.out.below hb); have WC2 := hid (WC1.out.below hb); have P2 := hid (P1.out.below hb); have hw2 := hid (hw1.out.trans (hb.mono hs1.out)); have hs2 := hid (Nat.le_trans hs1.out hb.size); have x0 : w2.cell? ⟨p, 0, none⟩ = some (uI) := P2.out.cell 0; have x2 : w2.cell? ⟨p, 2, none⟩ = some (.slice none 0 0) := P2.out.cell 2; have x4 : w2.cell? ⟨p, 4, none⟩ = some (.slice none 0 0) := P2.out.cell 4; have x6 : w2.cell? ⟨p, 6, none⟩ = some (uC) := P2.out.cell 6; have x8 : w2.cell? ⟨p, 8, none⟩ = some (.slice none 0 0) := P2.out.cell 8; clear hb)
    | (go_at_call 32; refine (stillInts_any P0.out rfl rfl LI0.out WI0.out hnI HCI.out).mono ?_; rintro e w1 ⟨rfl, hb⟩; clear x0 x2 x4 x6 x8; have LI1 := hid (LI0.out.below hb); have WI1 := hid (WI0.out.below hb); have LC1 := hid (LC0.out.below hb); have WC1 := hid (WC0.out.below hb); have P1 := hid (P0.out.below hb); have hw1 := hid (hw0.out.trans (hb.mono hs0.out)); have hs1 := hid (Nat.le_trans hs0.out hb.size); have x0 : w1.cell? ⟨p, 0, none⟩ = some (uI) := P1.out.cell 0; have x2 : w1.cell? ⟨p, 2, none⟩ = some (.slice none 0 0) := P1.out.cell 2; have x4 : w1.cell? ⟨p, 4, none⟩ = some (.slice none 0 0) := P1.out.cell 4; have x6 : w1.cell? ⟨p, 6, none⟩ = some (uC) := P1.out.cell 6; have x8 : w1.cell? ⟨p, 8, none⟩ = some (.slice none 0 0) := P1.out.cell 8; clear hb)
    | (go_at_call 33; refine (stillTexts_none P1.out rfl).mono ?_; rintro e _ ⟨rfl, rfl⟩)
    | (go_at_call 34; refine (stillHits_none P1.out rfl).mono ?_; rintro e _ ⟨rfl, rfl⟩)
    | (go_at_call 36; refine (stillBytes_none P2.out rfl).mono ?_; rintro e _ ⟨rfl, rfl⟩)
    | (go_at_call 38; refine (putTexts_none P3.out rfl).mono ?_; rintro e _ ⟨rfl, rfl⟩)
    | (go_at_call 39; refine (putHits_none P3.out rfl).mono ?_; rintro e _ ⟨rfl, rfl⟩)
    | (go_at_call 41; refine (putBytes_none P4.out rfl).mono ?_; rintro e _ ⟨rfl, rfl⟩)
    | (go_at_call 43; refine (growTexts_none P5.out rfl).mono ?_; rintro e _ ⟨rfl, rfl⟩)
    | (go_at_call 44; refine (growHits_none P5.out rfl).mono ?_; rintro e _ ⟨rfl, rfl⟩)
    | (go_at_call 46; refine (growBytes_none P6.out rfl).mono ?_; rintro e _ ⟨rfl, rfl⟩)
    | (go_at_call 48; refine (markedTexts_none _).mono ?_; rintro e _ ⟨rfl, rfl⟩)
    | (go_at_call 49; refine (markedHits_none _).mono ?_; rintro e _ ⟨rfl, rfl⟩)
    | (go_at_call 51; refine (markedBytes_none _).mono ?_; rintro e _ ⟨rfl, rfl⟩))
  go_ret
  exact ⟨rfl, hw10.out⟩
end Go.Proofs.YtdplflcaanmmiaaGreat
