/-
  Contract of package lexiphanebook: Apart of a book of lists of numbers, texts, hits, bytes. A book of lists of numbers, texts, hits, bytes, as one fact: a new one, what outlasts what, all are apart. One more list of numbers for a book of lists of all kinds. Contract of package lexiphanebook: one more list of numbers for a book, where the lists were made ahead of it; a book that is full; are all apart.
-/
import Derived.Test.YtfeibhdnmfiflaaGreatBook
import Derived.Test.YtfeibhdnmfiflaaGreatBookI
import Derived.Test.YtfeibhdnmfiflaaGreatBookH
import Derived.Test.YtfeibhdnmfiflaaGreatBookB
namespace Go.Proofs.YtfeibhdnmfiflaaGreat
open Go.ChangeShapes Go.WideShapes Go.ChangeAt Go.RowKit

theorem marksI_tail (j m : Nat) : marksI j 0 m ++ marksI j (marksI j 0 m).length 72 = marksI j 0 (marksI j 0 m ++ marksI j (marksI j 0 m).length 72).length := by
  rw [List.length_append, marksI_length, marksI_length]
  have := marksI_append j 0 m 72
  rwa [Nat.zero_add] at this

theorem marksT_tail (j m : Nat) : marksT j 0 m ++ marksT j (marksT j 0 m).length 72 = marksT j 0 (marksT j 0 m ++ marksT j (marksT j 0 m).length 72).length := by
  rw [List.length_append, marksT_length, marksT_length]
  have := marksT_append j 0 m 72
  rwa [Nat.zero_add] at this

theorem marksH_tail (j m : Nat) : marksH j 0 m ++ marksH j (marksH j 0 m).length 72 = marksH j 0 (marksH j 0 m ++ marksH j (marksH j 0 m).length 72).length := by
  rw [List.length_append, marksH_length, marksH_length]
  have := marksH_append j 0 m 72
  rwa [Nat.zero_add] at this

theorem marksB_tail (j m : Nat) : marksB j 0 m ++ marksB j (marksB j 0 m).length 72 = marksB j 0 (marksB j 0 m ++ marksB j (marksB j 0 m).length 72).length := by
  rw [List.length_append, marksB_length, marksB_length]
  have := marksB_append j 0 m 72
  rwa [Nat.zero_add] at this

theorem book_turned {e : TypeId} {w w' : World} {B p : Nat} {cs : Array Value} (h : BookAt w p cs) (hT : Turns e B w w') (he : 44 ≠ e) : BookAt w' p cs := ⟨hT.cell he h.1, h.2⟩

set_option maxRecDepth 20000 in
set_option maxHeartbeats 4000000 in
theorem apartM_any {w : World} {B p : Nat} {nI nT nH nB : Nat} {VI VI' VT VT' VH VH' VB VB' : Nat → Value} {CI : Nat → List Int} {CT : Nat → List ByteArray} {CH : Nat → List (Int × Int)} {CB : Nat → List Nat} {uI uI' uT uT' uH uH' uB uB' : Value}
    (hP : BookAt w p #[uI, uI', uT, uT', uH, uH', .slice none 0 0, .slice none 0 0, uB, uB'])
    (lI : ListsI w B uI nI VI CI) (wI : ListsI w B uI' nI VI' CI) (lT : ListsT w B uT nT VT CT) (wT : ListsT w B uT' nT VT' CT) (lH : ListsH w B uH nH VH CH) (wH : ListsH w B uH' nH VH' CH) (lB : ListsB w B uB nB VB CB) (wB : ListsB w B uB' nB VB' CB)
    (hnI : nI ≤ 250) (hnT : nT ≤ 250) (hnH : nH ≤ 250) (hnB : nB ≤ 250)
    (hcI : ∀ j, j < nI → (CI j).length ≤ 50000) (hcT : ∀ j, j < nT → (CT j).length ≤ 50000) (hcH : ∀ j, j < nH → (CH j).length ≤ 50000) (hcB : ∀ j, j < nB → (CB j).length ≤ 50000) (hB : B ≤ w.heap.size) :
    Calls Tryz.prog 19 #[.pointer (some ⟨p, 0, none⟩)] w fun e w' => e = .returned (.bool true) ∧ Below B w w' := by
  have P0 := hid hP
  have hs0 := hid hB
  have hw0 : Hid (Below B w w) := Below.refl _ _
  have LI0 := hid lI
  have WI0 := hid wI
  have HCI := hid hcI
  have LT0 := hid lT
  have WT0 := hid wT
  have HCT := hid hcT
  have LH0 := hid lH
  have WH0 := hid wH
  have HCH := hid hcH
  have LB0 := hid lB
  have WB0 := hid wB
  have HCB := hid hcB
  clear hP lI wI hcI lT wT hcT lH wH hcH lB wB hcB
  have x0 : w.cell? ⟨p, 0, none⟩ = some (uI) := P0.out.cell 0
  have x2 : w.cell? ⟨p, 2, none⟩ = some (uT) := P0.out.cell 2
  have x4 : w.cell? ⟨p, 4, none⟩ = some (uH) := P0.out.cell 4
  have x6 : w.cell? ⟨p, 6, none⟩ = some (.slice none 0 0) := P0.out.cell 6
  have x8 : w.cell? ⟨p, 8, none⟩ = some (uB) := P0.out.cell 8
  go_enter Tryz.func19, Tryz.ntmps19
  go_wp2_with (first
    | (have _h := at19; go_at_call 54; refine (markedBytes_any LB19.out (fun j _ => by rw [marksB_length]) hnB (fun j hj => by rw [marksB_length]; have := HCB.out j hj; omega)).mono ?_; rintro e w20 ⟨rfl, hb⟩; clear x0 x2 x4 x6 x8; have P20 := hid (P19.out.below hb); have hw20 := hid (hw19.out.trans (hb.mono hs19.out)); have hs20 := hid (Nat.le_trans hs19.out hb.size); have x0 : w20.cell? ⟨p, 0, none⟩ = some (uI) := P20.out.cell 0; have x2 : w20.cell? ⟨p, 2, none⟩ = some (uT) := P20.out.cell 2; have x4 : w20.cell? ⟨p, 4, none⟩ = some (uH) := P20.out.cell 4; have x6 : w20.cell? ⟨p, 6, none⟩ = some (.slice none 0 0) := P20.out.cell 6; have x8 : w20.cell? ⟨p, 8, none⟩ = some (uB) := P20.out.cell 8; clear hb; have at20 : True := trivial)
    | (have _h := at18; go_at_call 54; refine (markedBytes_any GB18.out (fun j _ => marksB_tail j _) hnB (fun j hj => by rw [List.length_append, marksB_length, marksB_length]; have := HCB.out j hj; omega)).mono ?_; rintro e w19 ⟨rfl, hb⟩; clear x0 x2 x4 x6 x8; have LB19 := hid (LB18.out.below hb); have P19 := hid (P18.out.below hb); have hw19 := hid (hw18.out.trans (hb.mono hs18.out)); have hs19 := hid (Nat.le_trans hs18.out hb.size); have x0 : w19.cell? ⟨p, 0, none⟩ = some (uI) := P19.out.cell 0; have x2 : w19.cell? ⟨p, 2, none⟩ = some (uT) := P19.out.cell 2; have x4 : w19.cell? ⟨p, 4, none⟩ = some (uH) := P19.out.cell 4; have x6 : w19.cell? ⟨p, 6, none⟩ = some (.slice none 0 0) := P19.out.cell 6; have x8 : w19.cell? ⟨p, 8, none⟩ = some (uB) := P19.out.cell 8; clear hb; have at19 : True := trivial)
    | (have _h := at17; go_at_call 52; refine (markedHits_any LH17.out (fun j _ => by rw [marksH_length]) hnH (fun j hj => by rw [marksH_length]; have := HCH.out j hj; omega)).mono ?_; rintro e w18 ⟨rfl, hb⟩; clear x0 x2 x4 x6 x8; have LB18 := hid (LB17.out.below hb); have GB18 := hid (GB17.out.below hb); have P18 := hid (P17.out.below hb); have hw18 := hid (hw17.out.trans (hb.mono hs17.out)); have hs18 := hid (Nat.le_trans hs17.out hb.size); have x0 : w18.cell? ⟨p, 0, none⟩ = some (uI) := P18.out.cell 0; have x2 : w18.cell? ⟨p, 2, none⟩ = some (uT) := P18.out.cell 2; have x4 : w18.cell? ⟨p, 4, none⟩ = some (uH) := P18.out.cell 4; have x6 : w18.cell? ⟨p, 6, none⟩ = some (.slice none 0 0) := P18.out.cell 6; have x8 : w18.cell? ⟨p, 8, none⟩ = some (uB) := P18.out.cell 8; clear hb; have at18 : True := trivial)
    | (have _h := at16; go_at_call 52; refine (markedHits_any GH16.out (fun j _ => marksH_tail j _) hnH (fun j hj => by rw [List.length_append, marksH_length, marksH_length]; have := HCH.out j hj; omega)).mono ?_; rintro e w17 ⟨rfl, hb⟩; clear x0 x2 x4 x6 x8; have LH17 := hid (LH16.out.below hb); have LB17 := hid (LB16.out.below hb); have GB17 := hid (GB16.out.below hb); have P17 := hid (P16.out.below hb); have hw17 := hid (hw16.out.trans (hb.mono hs16.out)); have hs17 := hid (Nat.le_trans hs16.out hb.size); have x0 : w17.cell? ⟨p, 0, none⟩ = some (uI) := P17.out.cell 0; have x2 : w17.cell? ⟨p, 2, none⟩ = some (uT) := P17.out.cell 2; have x4 : w17.cell? ⟨p, 4, none⟩ = some (uH) := P17.out.cell 4; have x6 : w17.cell? ⟨p, 6, none⟩ = some (.slice none 0 0) := P17.out.cell 6; have x8 : w17.cell? ⟨p, 8, none⟩ = some (uB) := P17.out.cell 8; clear hb; have at17 : True := trivial)
    | (have _h := at15; go_at_call 51; refine (markedTexts_any LT15.out (fun j _ => by rw [marksT_length]) hnT (fun j hj => by rw [marksT_length]; have := HCT.out j hj; omega)).mono ?_; rintro e w16 ⟨rfl, hb⟩; clear x0 x2 x4 x6 x8; have LH16 := hid (LH15.out.below hb); have GH16 := hid (GH15.out.below hb); have LB16 := hid (LB15.out.below hb); have GB16 := hid (GB15.out.below hb); have P16 := hid (P15.out.below hb); have hw16 := hid (hw15.out.trans (hb.mono hs15.out)); have hs16 := hid (Nat.le_trans hs15.out hb.size); have x0 : w16.cell? ⟨p, 0, none⟩ = some (uI) := P16.out.cell 0; have x2 : w16.cell? ⟨p, 2, none⟩ = some (uT) := P16.out.cell 2; have x4 : w16.cell? ⟨p, 4, none⟩ = some (uH) := P16.out.cell 4; have x6 : w16.cell? ⟨p, 6, none⟩ = some (.slice none 0 0) := P16.out.cell 6; have x8 : w16.cell? ⟨p, 8, none⟩ = some (uB) := P16.out.cell 8; clear hb; have at16 : True := trivial)
    | (have _h := at14; go_at_call 51; refine (markedTexts_any GT14.out (fun j _ => marksT_tail j _) hnT (fun j hj => by rw [List.length_append, marksT_length, marksT_length]; have := HCT.out j hj; omega)).mono ?_; rintro e w15 ⟨rfl, hb⟩; clear x0 x2 x4 x6 x8; have LT15 := hid (LT14.out.below hb); have LH15 := hid (LH14.out.below hb); have GH15 := hid (GH14.out.below hb); have LB15 := hid (LB14.out.below hb); have GB15 := hid (GB14.out.below hb); have P15 := hid (P14.out.below hb); have hw15 := hid (hw14.out.trans (hb.mono hs14.out)); have hs15 := hid (Nat.le_trans hs14.out hb.size); have x0 : w15.cell? ⟨p, 0, none⟩ = some (uI) := P15.out.cell 0; have x2 : w15.cell? ⟨p, 2, none⟩ = some (uT) := P15.out.cell 2; have x4 : w15.cell? ⟨p, 4, none⟩ = some (uH) := P15.out.cell 4; have x6 : w15.cell? ⟨p, 6, none⟩ = some (.slice none 0 0) := P15.out.cell 6; have x8 : w15.cell? ⟨p, 8, none⟩ = some (uB) := P15.out.cell 8; clear hb; have at15 : True := trivial)
    | (have _h := at13; go_at_call 50; refine (markedInts_any LI13.out (fun j _ => by rw [marksI_length]) hnI (fun j hj => by rw [marksI_length]; have := HCI.out j hj; omega)).mono ?_; rintro e w14 ⟨rfl, hb⟩; clear x0 x2 x4 x6 x8; have LT14 := hid (LT13.out.below hb); have GT14 := hid (GT13.out.below hb); have LH14 := hid (LH13.out.below hb); have GH14 := hid (GH13.out.below hb); have LB14 := hid (LB13.out.below hb); have GB14 := hid (GB13.out.below hb); have P14 := hid (P13.out.below hb); have hw14 := hid (hw13.out.trans (hb.mono hs13.out)); have hs14 := hid (Nat.le_trans hs13.out hb.size); have x0 : w14.cell? ⟨p, 0, none⟩ = some (uI) := P14.out.cell 0; have x2 : w14.cell? ⟨p, 2, none⟩ = some (uT) := P14.out.cell 2; have x4 : w14.cell? ⟨p, 4, none⟩ = some (uH) := P14.out.cell 4; have x6 : w14.cell? ⟨p, 6, none⟩ = some (.slice none 0 0) := P14.out.cell 6; have x8 : w14.cell? ⟨p, 8, none⟩ = some (uB) := P14.out.cell 8; clear hb; have at14 : True := trivial)
    | (have _h := at12; go_at_call 50; refine (markedInts_any GI12.out (fun j _ => marksI_tail j _) hnI (fun j hj => by rw [List.length_append, marksI_length, marksI_length]; have := HCI.out j hj; omega)).mono ?_; rintro e w13 ⟨rfl, hb⟩; clear x0 x2 x4 x6 x8; have LI13 := hid (LI12.out.below hb); have LT13 := hid (LT12.out.below hb); have GT13 := hid (GT12.out.below hb); have LH13 := hid (LH12.out.below hb); have GH13 := hid (GH12.out.below hb); have LB13 := hid (LB12.out.below hb); have GB13 := hid (GB12.out.below hb); have P13 := hid (P12.out.below hb); have hw13 := hid (hw12.out.trans (hb.mono hs12.out)); have hs13 := hid (Nat.le_trans hs12.out hb.size); have x0 : w13.cell? ⟨p, 0, none⟩ = some (uI) := P13.out.cell 0; have x2 : w13.cell? ⟨p, 2, none⟩ = some (uT) := P13.out.cell 2; have x4 : w13.cell? ⟨p, 4, none⟩ = some (uH) := P13.out.cell 4; have x6 : w13.cell? ⟨p, 6, none⟩ = some (.slice none 0 0) := P13.out.cell 6; have x8 : w13.cell? ⟨p, 8, none⟩ = some (uB) := P13.out.cell 8; clear hb; have at13 : True := trivial)
    | (go_at_call 49; refine (growBytes_any P11.out rfl LB11.out hnB (fun j hj => by rw [marksB_length]; exact HCB.out j hj) hs11.out).mono ?_; rintro e w12 ⟨gB, rfl, ⟨V2B, hl⟩, hg, hT⟩; clear x0 x2 x4 x6 x8; have GB12 := hid hl; have LB12 := hid hg; have LI12 := hid (LI11.out.turned hT (by decide) (by decide)); have GI12 := hid (GI11.out.turned hT (by decide) (by decide)); have LT12 := hid (LT11.out.turned hT (by decide) (by decide)); have GT12 := hid (GT11.out.turned hT (by decide) (by decide)); have LH12 := hid (LH11.out.turned hT (by decide) (by decide)); have GH12 := hid (GH11.out.turned hT (by decide) (by decide)); have P12 := hid (book_turned P11.out hT (by decide)); have hw12 := hid (hw11.out.trans (hT.below hs11.out)); have hs12 := hid (Nat.le_trans hs11.out hT.size); have x0 : w12.cell? ⟨p, 0, none⟩ = some (uI) := P12.out.cell 0; have x2 : w12.cell? ⟨p, 2, none⟩ = some (uT) := P12.out.cell 2; have x4 : w12.cell? ⟨p, 4, none⟩ = some (uH) := P12.out.cell 4; have x6 : w12.cell? ⟨p, 6, none⟩ = some (.slice none 0 0) := P12.out.cell 6; have x8 : w12.cell? ⟨p, 8, none⟩ = some (uB) := P12.out.cell 8; clear hl hg hT; have at12 : True := trivial)
    | (go_at_call 47; refine (growHits_any P10.out rfl LH10.out hnH (fun j hj => by rw [marksH_length]; exact HCH.out j hj) hs10.out).mono ?_; rintro e w11 ⟨gH, rfl, ⟨V2H, hl⟩, hg, hT⟩; clear x0 x2 x4 x6 x8; have GH11 := hid hl; have LH11 := hid hg; have LI11 := hid (LI10.out.turned hT (by decide) (by decide)); have GI11 := hid (GI10.out.turned hT (by decide) (by decide)); have LT11 := hid (LT10.out.turned hT (by decide) (by decide)); have GT11 := hid (GT10.out.turned hT (by decide) (by decide)); have LB11 := hid (LB10.out.turned hT (by decide) (by decide)); have P11 := hid (book_turned P10.out hT (by decide)); have hw11 := hid (hw10.out.trans (hT.below hs10.out)); have hs11 := hid (Nat.le_trans hs10.out hT.size); have x0 : w11.cell? ⟨p, 0, none⟩ = some (uI) := P11.out.cell 0; have x2 : w11.cell? ⟨p, 2, none⟩ = some (uT) := P11.out.cell 2; have x4 : w11.cell? ⟨p, 4, none⟩ = some (uH) := P11.out.cell 4; have x6 : w11.cell? ⟨p, 6, none⟩ = some (.slice none 0 0) := P11.out.cell 6; have x8 : w11.cell? ⟨p, 8, none⟩ = some (uB) := P11.out.cell 8; clear hl hg hT; have at11 : True := trivial)
    | (go_at_call 46; refine (growTexts_any P9.out rfl LT9.out hnT (fun j hj => by rw [marksT_length]; exact HCT.out j hj) hs9.out).mono ?_; rintro e w10 ⟨gT, rfl, ⟨V2T, hl⟩, hg, hT⟩; clear x0 x2 x4 x6 x8; have GT10 := hid hl; have LT10 := hid hg; have LI10 := hid (LI9.out.turned hT (by decide) (by decide)); have GI10 := hid (GI9.out.turned hT (by decide) (by decide)); have LH10 := hid (LH9.out.turned hT (by decide) (by decide)); have LB10 := hid (LB9.out.turned hT (by decide) (by decide)); have P10 := hid (book_turned P9.out hT (by decide)); have hw10 := hid (hw9.out.trans (hT.below hs9.out)); have hs10 := hid (Nat.le_trans hs9.out hT.size); have x0 : w10.cell? ⟨p, 0, none⟩ = some (uI) := P10.out.cell 0; have x2 : w10.cell? ⟨p, 2, none⟩ = some (uT) := P10.out.cell 2; have x4 : w10.cell? ⟨p, 4, none⟩ = some (uH) := P10.out.cell 4; have x6 : w10.cell? ⟨p, 6, none⟩ = some (.slice none 0 0) := P10.out.cell 6; have x8 : w10.cell? ⟨p, 8, none⟩ = some (uB) := P10.out.cell 8; clear hl hg hT; have at10 : True := trivial)
    | (go_at_call 45; refine (growInts_any P8.out rfl LI8.out hnI (fun j hj => by rw [marksI_length]; exact HCI.out j hj) hs8.out).mono ?_; rintro e w9 ⟨gI, rfl, ⟨V2I, hl⟩, hg, hT⟩; clear x0 x2 x4 x6 x8; have GI9 := hid hl; have LI9 := hid hg; have LT9 := hid (LT8.out.turned hT (by decide) (by decide)); have LH9 := hid (LH8.out.turned hT (by decide) (by decide)); have LB9 := hid (LB8.out.turned hT (by decide) (by decide)); have P9 := hid (book_turned P8.out hT (by decide)); have hw9 := hid (hw8.out.trans (hT.below hs8.out)); have hs9 := hid (Nat.le_trans hs8.out hT.size); have x0 : w9.cell? ⟨p, 0, none⟩ = some (uI) := P9.out.cell 0; have x2 : w9.cell? ⟨p, 2, none⟩ = some (uT) := P9.out.cell 2; have x4 : w9.cell? ⟨p, 4, none⟩ = some (uH) := P9.out.cell 4; have x6 : w9.cell? ⟨p, 6, none⟩ = some (.slice none 0 0) := P9.out.cell 6; have x8 : w9.cell? ⟨p, 8, none⟩ = some (uB) := P9.out.cell 8; clear hl hg hT; have at9 : True := trivial)
    | (go_at_call 44; refine (putBytes_any P7.out rfl LB7.out hnB HCB.out).mono ?_; rintro e w8 ⟨rfl, hl, hT⟩; clear x0 x2 x4 x6 x8; have LB8 := hid hl; have LI8 := hid (LI7.out.turned hT (by decide) (by decide)); have LT8 := hid (LT7.out.turned hT (by decide) (by decide)); have LH8 := hid (LH7.out.turned hT (by decide) (by decide)); have P8 := hid (book_turned P7.out hT (by decide)); have hw8 := hid (hw7.out.trans (hT.below hs7.out)); have hs8 := hid (Nat.le_trans hs7.out hT.size); have x0 : w8.cell? ⟨p, 0, none⟩ = some (uI) := P8.out.cell 0; have x2 : w8.cell? ⟨p, 2, none⟩ = some (uT) := P8.out.cell 2; have x4 : w8.cell? ⟨p, 4, none⟩ = some (uH) := P8.out.cell 4; have x6 : w8.cell? ⟨p, 6, none⟩ = some (.slice none 0 0) := P8.out.cell 6; have x8 : w8.cell? ⟨p, 8, none⟩ = some (uB) := P8.out.cell 8; clear hl hT)
    | (go_at_call 42; refine (putHits_any P6.out rfl LH6.out hnH HCH.out).mono ?_; rintro e w7 ⟨rfl, hl, hT⟩; clear x0 x2 x4 x6 x8; have LH7 := hid hl; have LI7 := hid (LI6.out.turned hT (by decide) (by decide)); have LT7 := hid (LT6.out.turned hT (by decide) (by decide)); have LB7 := hid (LB6.out.turned hT (by decide) (by decide)); have P7 := hid (book_turned P6.out hT (by decide)); have hw7 := hid (hw6.out.trans (hT.below hs6.out)); have hs7 := hid (Nat.le_trans hs6.out hT.size); have x0 : w7.cell? ⟨p, 0, none⟩ = some (uI) := P7.out.cell 0; have x2 : w7.cell? ⟨p, 2, none⟩ = some (uT) := P7.out.cell 2; have x4 : w7.cell? ⟨p, 4, none⟩ = some (uH) := P7.out.cell 4; have x6 : w7.cell? ⟨p, 6, none⟩ = some (.slice none 0 0) := P7.out.cell 6; have x8 : w7.cell? ⟨p, 8, none⟩ = some (uB) := P7.out.cell 8; clear hl hT)
    | (go_at_call 41; refine (putTexts_any P5.out rfl LT5.out hnT HCT.out).mono ?_; rintro e w6 ⟨rfl, hl, hT⟩; clear x0 x2 x4 x6 x8; have LT6 := hid hl; have LI6 := hid (LI5.out.turned hT (by decide) (by decide)); have LH6 := hid (LH5.out.turned hT (by decide) (by decide)); have LB6 := hid (LB5.out.turned hT (by decide) (by decide)); have P6 := hid (book_turned P5.out hT (by decide)); have hw6 := hid (hw5.out.trans (hT.below hs5.out)); have hs6 := hid (Nat.le_trans hs5.out hT.size); have x0 : w6.cell? ⟨p, 0, none⟩ = some (uI) := P6.out.cell 0; have x2 : w6.cell? ⟨p, 2, none⟩ = some (uT) := P6.out.cell 2; have x4 : w6.cell? ⟨p, 4, none⟩ = some (uH) := P6.out.cell 4; have x6 : w6.cell? ⟨p, 6, none⟩ = some (.slice none 0 0) := P6.out.cell 6; have x8 : w6.cell? ⟨p, 8, none⟩ = some (uB) := P6.out.cell 8; clear hl hT)
    | (go_at_call 40; refine (putInts_any P4.out rfl LI4.out hnI HCI.out).mono ?_; rintro e w5 ⟨rfl, hl, hT⟩; clear x0 x2 x4 x6 x8; have LI5 := hid hl; have LT5 := hid (LT4.out.turned hT (by decide) (by decide)); have LH5 := hid (LH4.out.turned hT (by decide) (by decide)); have LB5 := hid (LB4.out.turned hT (by decide) (by decide)); have P5 := hid (book_turned P4.out hT (by decide)); have hw5 := hid (hw4.out.trans (hT.below hs4.out)); have hs5 := hid (Nat.le_trans hs4.out hT.size); have x0 : w5.cell? ⟨p, 0, none⟩ = some (uI) := P5.out.cell 0; have x2 : w5.cell? ⟨p, 2, none⟩ = some (uT) := P5.out.cell 2; have x4 : w5.cell? ⟨p, 4, none⟩ = some (uH) := P5.out.cell 4; have x6 : w5.cell? ⟨p, 6, none⟩ = some (.slice none 0 0) := P5.out.cell 6; have x8 : w5.cell? ⟨p, 8, none⟩ = some (uB) := P5.out.cell 8; clear hl hT)
    | (go_at_call 39; refine (stillBytes_any P3.out rfl rfl LB3.out WB3.out hnB HCB.out).mono ?_; rintro e w4 ⟨rfl, hb⟩; clear x0 x2 x4 x6 x8; have LI4 := hid (LI3.out.below hb); have WI4 := hid (WI3.out.below hb); have LT4 := hid (LT3.out.below hb); have WT4 := hid (WT3.out.below hb); have LH4 := hid (LH3.out.below hb); have WH4 := hid (WH3.out.below hb); have LB4 := hid (LB3.out.below hb); have WB4 := hid (WB3.out.below hb); have P4 := hid (P3.out.below hb); have hw4 := hid (hw3.out.trans (hb.mono hs3.out)); have hs4 := hid (Nat.le_trans hs3.out hb.size); have x0 : w4.cell? ⟨p, 0, none⟩ = some (uI) := P4.out.cell 0; have x2 : w4.cell? ⟨p, 2, none⟩ = some (uT) := P4.out.cell 2; have x4 : w4.cell? ⟨p, 4, none⟩ = some (uH) := P4.out.cell 4; have x6 : w4.cell? ⟨p, 6, none⟩ = some (.slice none 0 0) := P4.out.cell 6; have x8 : w4.cell? ⟨p, 8, none⟩ = some (uB) := P4.out.cell 8; clear hb)
    | (go_at_call 37; refine (stillHits_any P2.out rfl rfl LH2.out WH2.out hnH HCH.out).mono ?_; rintro e w3 ⟨rfl, hb⟩; clear x0 x2 x4 x6 x8; have LI3 := hid (LI2.out.below hb); have WI3 := hid (WI2.out.below hb); have LT3 := hid (LT2.out.below hb); have WT3 := hid (WT2.out.below hb); have LH3 := hid (LH2.out.below hb); have WH3 := hid (WH2.out.below hb); have LB3 := hid (LB2.out.below hb); have WB3 := hid (WB2.out.below hb); have P3 := hid (P2.out.below hb); have hw3 := hid (hw2.out.trans (hb.mono hs2.out)); have hs3 := hid (Nat.le_trans hs2.out hb.size); have x0 : w3.cell? ⟨p, 0, none⟩ = some (uI) := P3.out.cell 0; have x2 : w3.cell? ⟨p, 2, none⟩ = some (uT) := P3.out.cell 2; have x4 : w3.cell? ⟨p, 4, none⟩ = some (uH) := P3.out.cell 4; have x6 : w3.cell? ⟨p, 6, none⟩ = some (.slice none 0 0) := P3.out.cell 6; have x8 : w3.cell? ⟨p, 8, none⟩ = some (uB) := P3.out.cell 8; clear hb)
    | (go_at_call 36; refine (stillTexts_any P1.out rfl rfl LT1.out WT1.out hnT HCT.out).mono ?_; rintro e w2 ⟨rfl, hb⟩; clear x0 x2 x4 x6 x8; have LI2 := hid (LI1.out.below hb); have WI2 := hid (WI1.out.below hb); have LT2 := hid (LT1.out.below hb); have WT2 := hid (WT1.out.below hb); have LH2 := hid (LH1.out.below hb); have WH2 := hid (WH1.out.below hb); have LB2 := hid (LB1.out.below hb); have WB2 := hid (WB1.out.below hb); have P2 := hid (P1.out.below hb); have hw2 := hid (hw1.out.trans (hb.mono hs1.out)); have hs2 := hid (Nat.le_trans hs1.out hb.size); have x0 : w2.cell? ⟨p, 0, none⟩ = some (uI) := P2.out.cell 0; have x2 : w2.cell? ⟨p, 2, none⟩ = some (uT) := P2.out.cell 2; have x4 : w2.cell? ⟨p, 4, none⟩ = some (uH) := P2.out.cell 4; have x6 : w2.cell? ⟨p, 6, none⟩ = some (.slice none 0 0) := P2.out.cell 6; have x8 : w2.cell? ⟨p, 8, none⟩ = some (uB) := P2.out.cell 8; clear hb)
    | (go_at_call 35; refine (stillInts_any P0.out rfl rfl LI0.out WI0.out hnI HCI.out).mono ?_; rintro e w1 ⟨rfl, hb⟩; clear x0 x2 x4 x6 x8; have LI1 := hid (LI0.out.below hb); have WI1 := hid (WI0.out.below hb); have LT1 := hid (LT0.out.below hb); have WT1 := hid (WT0.out.below hb); have LH1 := hid (LH0.out.below hb); have WH1 := hid (WH0.out.below hb); have LB1 := hid (LB0.out.below hb); have WB1 := hid (WB0.out.below hb); have P1 := hid (P0.out.below hb); have hw1 := hid (hw0.out.trans (hb.mono hs0.out)); have hs1 := hid (Nat.le_trans hs0.out hb.size); have x0 : w1.cell? ⟨p, 0, none⟩ = some (uI) := P1.out.cell 0; have x2 : w1.cell? ⟨p, 2, none⟩ = some (uT) := P1.out.cell 2; have x4 : w1.cell? ⟨p, 4, none⟩ = some (uH) := P1.out.cell 4; have x6 : w1.cell? ⟨p, 6, none⟩ = some (.slice none 0 0) := P1.out.cell 6; have x8 : w1.cell? ⟨p, 8, none⟩ = some (uB) := P1.out.cell 8; clear hb)
    | (go_at_call 38; refine (stillCosts_none P3.out rfl).mono ?_; rintro e _ ⟨rfl, rfl⟩)
    | (go_at_call 43; refine (putCosts_none P7.out rfl).mono ?_; rintro e _ ⟨rfl, rfl⟩)
    | (go_at_call 48; refine (growCosts_none P11.out rfl).mono ?_; rintro e _ ⟨rfl, rfl⟩)
    | (go_at_call 53; refine (markedCosts_none _).mono ?_; rintro e _ ⟨rfl, rfl⟩))
  go_ret
  exact ⟨rfl, hw20.out⟩
end Go.Proofs.YtfeibhdnmfiflaaGreat

namespace Go.Proofs.YtfeibhdnmfiflaaGreat
open Go.ChangeShapes Go.WideShapes Go.ChangeAt Go.RowKit

theorem ownsRow_keptS {S : Nat → Prop} {w w' : World} {base : Nat} {e : TypeId} {size : Nat} {v : Value} {n : Nat} {xs : List Value} (h : w.ownsRow base e size v n xs) (hk : Kept S w w') (hS : ∀ k, S k → k < base) : w'.ownsRow base e size v n xs :=
  ownsRow_same h (fun g hg => hk.block g (h.lt g hg).2 (fun hs => by have := (h.lt _ hg).1; have := hS g hs; omega))

def KindI (w : World) (B : Nat) (u u' : Value) (n : Nat) : Prop := ∃ (V V' : Nat → Value) (C : Nat → List Int), ListsI w B u n V C ∧ ListsI w B u' n V' C ∧ Off u u' ∧ Off u' u ∧ ∀ j, j < n → (C j).length ≤ 50000
theorem KindI.new (w : World) (B : Nat) : KindI w B (.slice none 0 0) (.slice none 0 0) 0 := ⟨fun _ => .slice none 0 0, fun _ => .slice none 0 0, fun _ => [], ⟨World.ownsRow_nil _ _ _ _, fun j hj => by omega, fun i j hi => by omega⟩, ⟨World.ownsRow_nil _ _ _ _, fun j hj => by omega, fun i j hi => by omega⟩, .inl rfl, .inl rfl, fun j hj => by omega⟩
theorem KindI.keptS {S : Nat → Prop} {w w' : World} {B n : Nat} {u u' : Value} (h : KindI w B u u' n) (hk : Kept S w w') (hS : ∀ k, S k → k < B) : KindI w' B u u' n := by
  obtain ⟨V, V', C, h1, h2, h3, h4, h5⟩ := h
  exact ⟨V, V', C, ⟨ownsRow_keptS h1.row hk hS, fun j hj => ownsRow_keptS (h1.each j hj) hk hS, h1.apart⟩, ⟨ownsRow_keptS h2.row hk hS, fun j hj => ownsRow_keptS (h2.each j hj) hk hS, h2.apart⟩, h3, h4, h5⟩
theorem KindI.rest {e : TypeId} {w w' : World} {B n : Nat} {u u' : Value} (h : KindI w B u u' n) (hr : Rest e w w') (h1 : 47 ≠ e) (h2 : 3 ≠ e) : KindI w' B u u' n := by
  obtain ⟨V, V', C, k1, k2, k3, k4, k5⟩ := h
  exact ⟨V, V', C, ⟨ownsRow_rest k1.row hr h1 (by decide), fun j hj => ownsRow_rest (k1.each j hj) hr h2 (by decide), k1.apart⟩, ⟨ownsRow_rest k2.row hr h1 (by decide), fun j hj => ownsRow_rest (k2.each j hj) hr h2 (by decide), k2.apart⟩, k3, k4, k5⟩

def KindT (w : World) (B : Nat) (u u' : Value) (n : Nat) : Prop := ∃ (V V' : Nat → Value) (C : Nat → List ByteArray), ListsT w B u n V C ∧ ListsT w B u' n V' C ∧ Off u u' ∧ Off u' u ∧ ∀ j, j < n → (C j).length ≤ 50000
theorem KindT.new (w : World) (B : Nat) : KindT w B (.slice none 0 0) (.slice none 0 0) 0 := ⟨fun _ => .slice none 0 0, fun _ => .slice none 0 0, fun _ => [], ⟨World.ownsRow_nil _ _ _ _, fun j hj => by omega, fun i j hi => by omega⟩, ⟨World.ownsRow_nil _ _ _ _, fun j hj => by omega, fun i j hi => by omega⟩, .inl rfl, .inl rfl, fun j hj => by omega⟩
theorem KindT.keptS {S : Nat → Prop} {w w' : World} {B n : Nat} {u u' : Value} (h : KindT w B u u' n) (hk : Kept S w w') (hS : ∀ k, S k → k < B) : KindT w' B u u' n := by
  obtain ⟨V, V', C, h1, h2, h3, h4, h5⟩ := h
  exact ⟨V, V', C, ⟨ownsRow_keptS h1.row hk hS, fun j hj => ownsRow_keptS (h1.each j hj) hk hS, h1.apart⟩, ⟨ownsRow_keptS h2.row hk hS, fun j hj => ownsRow_keptS (h2.each j hj) hk hS, h2.apart⟩, h3, h4, h5⟩
theorem KindT.rest {e : TypeId} {w w' : World} {B n : Nat} {u u' : Value} (h : KindT w B u u' n) (hr : Rest e w w') (h1 : 22 ≠ e) (h2 : 9 ≠ e) : KindT w' B u u' n := by
  obtain ⟨V, V', C, k1, k2, k3, k4, k5⟩ := h
  exact ⟨V, V', C, ⟨ownsRow_rest k1.row hr h1 (by decide), fun j hj => ownsRow_rest (k1.each j hj) hr h2 (by decide), k1.apart⟩, ⟨ownsRow_rest k2.row hr h1 (by decide), fun j hj => ownsRow_rest (k2.each j hj) hr h2 (by decide), k2.apart⟩, k3, k4, k5⟩

def KindH (w : World) (B : Nat) (u u' : Value) (n : Nat) : Prop := ∃ (V V' : Nat → Value) (C : Nat → List (Int × Int)), ListsH w B u n V C ∧ ListsH w B u' n V' C ∧ Off u u' ∧ Off u' u ∧ ∀ j, j < n → (C j).length ≤ 50000
theorem KindH.new (w : World) (B : Nat) : KindH w B (.slice none 0 0) (.slice none 0 0) 0 := ⟨fun _ => .slice none 0 0, fun _ => .slice none 0 0, fun _ => [], ⟨World.ownsRow_nil _ _ _ _, fun j hj => by omega, fun i j hi => by omega⟩, ⟨World.ownsRow_nil _ _ _ _, fun j hj => by omega, fun i j hi => by omega⟩, .inl rfl, .inl rfl, fun j hj => by omega⟩
theorem KindH.keptS {S : Nat → Prop} {w w' : World} {B n : Nat} {u u' : Value} (h : KindH w B u u' n) (hk : Kept S w w') (hS : ∀ k, S k → k < B) : KindH w' B u u' n := by
  obtain ⟨V, V', C, h1, h2, h3, h4, h5⟩ := h
  exact ⟨V, V', C, ⟨ownsRow_keptS h1.row hk hS, fun j hj => ownsRow_keptS (h1.each j hj) hk hS, h1.apart⟩, ⟨ownsRow_keptS h2.row hk hS, fun j hj => ownsRow_keptS (h2.each j hj) hk hS, h2.apart⟩, h3, h4, h5⟩
theorem KindH.rest {e : TypeId} {w w' : World} {B n : Nat} {u u' : Value} (h : KindH w B u u' n) (hr : Rest e w w') (h1 : 30 ≠ e) (h2 : 55 ≠ e) : KindH w' B u u' n := by
  obtain ⟨V, V', C, k1, k2, k3, k4, k5⟩ := h
  exact ⟨V, V', C, ⟨ownsRow_rest k1.row hr h1 (by decide), fun j hj => ownsRow_rest (k1.each j hj) hr h2 (by decide), k1.apart⟩, ⟨ownsRow_rest k2.row hr h1 (by decide), fun j hj => ownsRow_rest (k2.each j hj) hr h2 (by decide), k2.apart⟩, k3, k4, k5⟩

def KindB (w : World) (B : Nat) (u u' : Value) (n : Nat) : Prop := ∃ (V V' : Nat → Value) (C : Nat → List Nat), ListsB w B u n V C ∧ ListsB w B u' n V' C ∧ Off u u' ∧ Off u' u ∧ ∀ j, j < n → (C j).length ≤ 50000
theorem KindB.new (w : World) (B : Nat) : KindB w B (.slice none 0 0) (.slice none 0 0) 0 := ⟨fun _ => .slice none 0 0, fun _ => .slice none 0 0, fun _ => [], ⟨World.ownsRow_nil _ _ _ _, fun j hj => by omega, fun i j hi => by omega⟩, ⟨World.ownsRow_nil _ _ _ _, fun j hj => by omega, fun i j hi => by omega⟩, .inl rfl, .inl rfl, fun j hj => by omega⟩
theorem KindB.keptS {S : Nat → Prop} {w w' : World} {B n : Nat} {u u' : Value} (h : KindB w B u u' n) (hk : Kept S w w') (hS : ∀ k, S k → k < B) : KindB w' B u u' n := by
  obtain ⟨V, V', C, h1, h2, h3, h4, h5⟩ := h
  exact ⟨V, V', C, ⟨ownsRow_keptS h1.row hk hS, fun j hj => ownsRow_keptS (h1.each j hj) hk hS, h1.apart⟩, ⟨ownsRow_keptS h2.row hk hS, fun j hj => ownsRow_keptS (h2.each j hj) hk hS, h2.apart⟩, h3, h4, h5⟩
theorem KindB.rest {e : TypeId} {w w' : World} {B n : Nat} {u u' : Value} (h : KindB w B u u' n) (hr : Rest e w w') (h1 : 98 ≠ e) (h2 : 5 ≠ e) : KindB w' B u u' n := by
  obtain ⟨V, V', C, k1, k2, k3, k4, k5⟩ := h
  exact ⟨V, V', C, ⟨ownsRow_rest k1.row hr h1 (by decide), fun j hj => ownsRow_rest (k1.each j hj) hr h2 (by decide), k1.apart⟩, ⟨ownsRow_rest k2.row hr h1 (by decide), fun j hj => ownsRow_rest (k2.each j hj) hr h2 (by decide), k2.apart⟩, k3, k4, k5⟩

/-- A book at block B of so many lists of each kind; all from block B on. -/
def Mixed (w : World) (B nI nT nH nB : Nat) : Prop := ∃ uI uI' uT uT' uH uH' uB uB' : Value, BookAt w B #[uI, uI', uT, uT', uH, uH', .slice none 0 0, .slice none 0 0, uB, uB'] ∧ KindI w B uI uI' nI ∧ KindT w B uT uT' nT ∧ KindH w B uH uH' nH ∧ KindB w B uB uB' nB

theorem mixed_new (w : World) : Mixed (w.alloc (.cells #[.slice none 0 0, .slice none 0 0, .slice none 0 0, .slice none 0 0, .slice none 0 0, .slice none 0 0, .slice none 0 0, .slice none 0 0, .slice none 0 0, .slice none 0 0] 44)) w.heap.size 0 0 0 0 :=
  ⟨_, _, _, _, _, _, _, _, ⟨heap_alloc_new w _, rfl⟩, KindI.new _ _, KindT.new _ _, KindH.new _ _, KindB.new _ _⟩

theorem Mixed.keptS {S : Nat → Prop} {w w' : World} {B nI nT nH nB : Nat} (h : Mixed w B nI nT nH nB) (hk : Kept S w w') (hS : ∀ k, S k → k < B) : Mixed w' B nI nT nH nB := by
  obtain ⟨uI, uI', uT, uT', uH, uH', uB, uB', h1, h2, h3, h4, h5⟩ := h
  exact ⟨uI, uI', uT, uT', uH, uH', uB, uB', ⟨(hk.block B (Array.getElem?_eq_some_iff.1 h1.1).1 (fun hs => by have := hS B hs; omega)).trans h1.1, h1.2⟩, h2.keptS hk hS, h3.keptS hk hS, h4.keptS hk hS, h5.keptS hk hS⟩

theorem Mixed.below {w w' : World} {B nI nT nH nB : Nat} (h : Mixed w B nI nT nH nB) (hb : Below w.heap.size w w') : Mixed w' B nI nT nH nB :=
  h.keptS (below_kept hb (fun _ => False)) (fun _ hs => hs.elim)

theorem Mixed.kept {w w' : World} {B nI nT nH nB q : Nat} (h : Mixed w B nI nT nH nB) (hk : Kept (· = q) w w') (hq : q < B) : Mixed w' B nI nT nH nB :=
  h.keptS hk (by rintro k rfl; exact hq)

theorem Mixed.apart {w : World} {B nI nT nH nB : Nat} (h : Mixed w B nI nT nH nB) (hI : nI ≤ 250) (hT : nT ≤ 250) (hH : nH ≤ 250) (hB1 : nB ≤ 250) (hB : B ≤ w.heap.size) :
    Calls Tryz.prog 19 #[.pointer (some ⟨B, 0, none⟩)] w fun e w' => e = .returned (.bool true) ∧ Below B w w' := by
  obtain ⟨uI, uI', uT, uT', uH, uH', uB, uB', h1, ⟨_, _, _, a1, a2, _, _, a3⟩, ⟨_, _, _, b1, b2, _, _, b3⟩, ⟨_, _, _, c1, c2, _, _, c3⟩, ⟨_, _, _, d1, d2, _, _, d3⟩⟩ := h
  exact apartM_any h1 a1 a2 b1 b2 c1 c2 d1 d2 hI hT hH hB1 a3 b3 c3 d3 hB
end Go.Proofs.YtfeibhdnmfiflaaGreat

namespace Go.Proofs.YtfeibhdnmfiflaaGreat
open Go.ChangeShapes Go.WideShapes Go.ChangeAt Go.RowKit

theorem Mixed.keepI {S : Nat → Prop} {W w : World} {B nI nT nH nB k : Nat} {v : Value} {X : List Int} (hS : Mixed W B nI nT nH nB) (hn : nI < 250) (hk : Kept S W w) (hq : ∀ k, S k → k < B) (hv : w.ownsRow W.heap.size 3 1 v k (nats X)) (hX : X.length ≤ 50000) (hB : B ≤ W.heap.size) :
    Calls Tryz.prog 14 #[.pointer (some ⟨B, 0, none⟩), v] w fun e w' => e = .returned (.tuple #[]) ∧ Mixed w' B (nI + 1) nT nH nB ∧ Reads w' v (nats X) ∧ Below B w w' ∧ Rest 47 w w' := by
  have hkx : k = X.length := by have := hv.1; rw [nats_length] at this; omega
  subst hkx
  obtain ⟨uI, uI', uT, uT', uH, uH', uB, uB', h1, gI, gT, gH, gB⟩ := hS
  have h1' : BookAt w B #[uI, uI', uT, uT', uH, uH', .slice none 0 0, .slice none 0 0, uB, uB'] := ⟨(hk.block B (Array.getElem?_eq_some_iff.1 h1.1).1 (fun hs => by have := hq B hs; omega)).trans h1.1, h1.2⟩
  have oT := gT.keptS hk hq
  have oH := gH.keptS hk hq
  have oB := gB.keptS hk hq
  obtain ⟨V, V', C, k1, k2, k3, k4, k5⟩ := gI
  have hvo := freshI_off hv k1
  have l1 : ListsI w B uI nI V C := ⟨ownsRow_keptS k1.row hk hq, fun j hj => ownsRow_keptS (k1.each j hj) hk hq, k1.apart⟩
  have l2 : ListsI w B uI' nI V' C := ⟨ownsRow_keptS k2.row hk hq, fun j hj => ownsRow_keptS (k2.each j hj) hk hq, k2.apart⟩
  have hbk : BookIn #[uI, uI', uT, uT', uH, uH', .slice none 0 0, .slice none 0 0, uB, uB'] w B B nI V V' C uI uI' := ⟨h1', l1, l2, k3, k4, Nat.le_refl _⟩
  refine (keepInts_any hbk hn (ownsRow_lower hv hB) hX hvo (Nat.le_trans hB hk.size)).mono ?_
  rintro e w' ⟨rfl, ⟨u2, u3, V3, hb⟩, hbel, hrest⟩
  refine ⟨rfl, ⟨u2, u3, uT, uT', uH, uH', uB, uB', hb.book, ⟨_, _, _, hb.lists, hb.was, hb.off, hb.off', fun j hj => by
    by_cases e : j = nI
    · subst e; rw [put1_at]; exact hX
    · rw [put1_else _ _ _ _ (by omega)]; exact k5 j (by omega)⟩, oT.rest hrest (by decide) (by decide), oH.rest hrest (by decide) (by decide), oB.rest hrest (by decide) (by decide)⟩, ?_, hbel, hrest⟩
  have := hb.lists.each nI (by omega)
  rw [put1_at, put1_at] at this
  exact ownsRow_reads this
end Go.Proofs.YtfeibhdnmfiflaaGreat

namespace Go.Proofs.YtfeibhdnmfiflaaGreat.Low
open Go.ChangeShapes Go.WideShapes Go.ChangeAt Go.RowKit

/-- Lists that lie from block B0 on, in a row from block B on. -/
structure L2 (w : World) (B0 B : Nat) (u : Value) (n : Nat) (V : Nat → Value) (C : Nat → List Int) : Prop where
  row : w.ownsRow B 47 1 u n ((List.range n).map V)
  each : ∀ j, j < n → w.ownsRow B0 3 1 (V j) (C j).length (nats (C j))
  apart : ∀ i j, i < n → j < n → i ≠ j → (V i).ownBlock = none ∨ (V i).ownBlock ≠ (V j).ownBlock

theorem L2.below {w w' : World} {B0 B : Nat} {u : Value} {n : Nat} {V : Nat → Value} {C : Nat → List Int} (h : L2 w B0 B u n V C) (hb : Below w.heap.size w w') : L2 w' B0 B u n V C :=
  ⟨ownsRow_below h.row hb, fun j hj => ownsRow_below (h.each j hj) hb, h.apart⟩

theorem L2.turned {e : TypeId} {B' : Nat} {w w' : World} {B0 B : Nat} {u : Value} {n : Nat} {V : Nat → Value} {C : Nat → List Int} (h : L2 w B0 B u n V C) (hT : Turns e B' w w') (h1 : 47 ≠ e) (h2 : 3 ≠ e) : L2 w' B0 B u n V C :=
  ⟨hT.row h1 h.row, fun j hj => hT.row h2 (h.each j hj), h.apart⟩

theorem L2.lists {w : World} {B0 B : Nat} {u : Value} {n : Nat} {V : Nat → Value} {C : Nat → List Int} (h : L2 w B0 B u n V C) (hB : B0 ≤ B) : ListsI w B0 u n V C :=
  ⟨ownsRow_lower h.row hB, h.each, h.apart⟩

/-- The cells of a book of lists of numbers alone. -/
def bookCellsI (cs : Array Value) (u u' : Value) : Array Value := cells2 0 cs u u'

/-- A book at block p of n lists of numbers, with copies; all from block B on. -/
structure BookIn (cs : Array Value) (w : World) (B0 B p n : Nat) (V V' : Nat → Value) (C : Nat → List Int) (u u' : Value) : Prop where
  book : BookAt w p (bookCellsI cs u u')
  lists : L2 w B0 B u n V C
  was : ListsI w B u' n V' C
  off : Off u u'
  off' : Off u' u
  low : B ≤ p

/-- The book between the two appends. -/
structure BookIm (cs : Array Value) (w : World) (B0 B p n : Nat) (V V' : Nat → Value) (C C' : Nat → List Int) (u u' : Value) : Prop where
  book : BookAt w p (bookCellsI cs u u')
  lists : L2 w B0 B u (n + 1) V C'
  was : ListsI w B u' n V' C
  off : Off u u'
  off' : Off u' u
  low : B ≤ p

theorem BookIm.below {cs : Array Value} {w w' : World} {B0 B p n : Nat} {V V' : Nat → Value} {C C' : Nat → List Int} {u u' : Value} (h : BookIm cs w B0 B p n V V' C C' u u') (hb : Below w.heap.size w w') : BookIm cs w' B0 B p n V V' C C' u u' :=
  ⟨h.book.below hb, h.lists.below hb, h.was.below hb, h.off, h.off', h.low⟩


theorem bookI_step1 {cs : Array Value} {w w1 : World} {B0 B p n : Nat} {V V' : Nat → Value} {C : Nat → List Int} {u u' u1 v : Value} {X : List Int} {o : Obj} (h : BookIn cs w B0 B p n V V' C u u') (hv : w.ownsRow B0 3 1 v X.length (nats X)) (hvo : ∀ j, j < n → Off v (V j))
    (hg : (w.alloc o).grownBy w1 u.ownBlock) (hu : w1.ownsRow B 47 1 u1 (n + 1) ((List.range n).map V ++ [v])) (hat : u1.ownBlock = u.ownBlock ∨ u1.ownBlock = some (w.alloc o).heap.size) (hB : B ≤ w.heap.size) :
    BookAt w1 p (bookCellsI cs u u') ∧ BookIm cs (w1.setCell ⟨p, 0, none⟩ u1) B0 B p n (put1 n V v) V' C (put1 n C X) u1 u' ∧ (w1.setCell ⟨p, 0, none⟩ u1).ownsRow B0 3 1 v X.length (nats X) ∧ Below B w (w1.setCell ⟨p, 0, none⟩ u1) ∧ Rest 47 w (w1.setCell ⟨p, 0, none⟩ u1) := by
  have hba : Below w.heap.size w (w.alloc o) := (Below.refl _ _).alloc (Nat.le_refl _) _
  have hL := h.lists.below hba
  have hW := h.was.below hba
  have hT := turns_grown hL.row hg
  have hbk : BookAt w1 p (bookCellsI cs u u') := ⟨hT.cell (by decide) (h.book.below hba).1, h.book.2⟩
  have hTb := turns_book hbk h.low 0 u1
  have hv1 := hT.row (by decide) (ownsRow_below hv hba)
  have hl1 : L2 w1 B0 B u1 (n + 1) (put1 n V v) (put1 n C X) := by
    have hl0 : L2 w1 B0 B u1 (n + 1) (put1 n V v) (put1 n C X) := by
      refine ⟨by rw [put1_range]; exact hu, fun j hj => ?_, fun i j hi hj hij => ?_⟩
      · by_cases e : j = n
        · subst e; rw [put1_at, put1_at]; exact hv1
        · rw [put1_else n V v j (by omega), put1_else n C X j (by omega)]; exact hT.row (by decide) (hL.each j (by omega))
      · by_cases e : i = n
        · subst e
          rw [put1_at, put1_else i V v j (by omega)]
          rcases hvo j (by omega) with h1 | h1
          · cases hb : v.ownBlock with
            | none => exact .inl rfl
            | some g => right; rw [h1]; simp
          · right; exact fun e => h1 e.symm
        · by_cases e2 : j = n
          · subst e2
            rw [put1_at, put1_else j V v i (by omega)]
            exact hvo i (by omega)
          · rw [put1_else n V v i (by omega), put1_else n V v j (by omega)]
            exact h.lists.apart i j (by omega) (by omega) hij
    exact hl0
  have hw1 : ListsI w1 B u' n V' C := ⟨hW.row.kept hg h.off, fun j hj => hT.row (by decide) (hW.each j hj), hW.apart⟩
  have hoff : Off u1 u' := off_new h.off hW.row hat
  have hoff' : Off u' u1 := by
    refine off_same h.off' ?_
    rcases hat with hh | hh
    · exact .inl hh
    · exact .inr ⟨_, hh, row_fresh hW.row⟩
  refine ⟨hbk, ⟨?_, hl1.turned hTb (by decide) (by decide), hw1.turned hTb (by decide) (by decide), hoff, hoff', h.low⟩, hTb.row (by decide) hv1, ?_, fun k cur t ht1 ht2 hk => hTb.cell ht2 (hT.cell ht1 ((hba.block k (Array.getElem?_eq_some_iff.1 hk).1).trans hk))⟩
  · have hbs := book_set hbk 0 u1
    rw [bookCellsI, cells2_set1] at hbs
    exact hbs
  · exact ((hba.mono hB).trans (hT.below (Nat.le_trans hB hba.size))).trans (hTb.below (Nat.le_trans hB (Nat.le_trans hba.size hg.size)))

theorem bookI_step2 {cs : Array Value} {w w1 : World} {B0 B p n : Nat} {V V' : Nat → Value} {C : Nat → List Int} {u u' u1 v : Value} {X : List Int} {o : Obj} (h : BookIm cs w B0 B p n V V' C (put1 n C X) u u') (hv : w.ownsRow B 3 1 v X.length (nats X)) (hvo : ∀ j, j < n → Off v (V' j))
    (hg : (w.alloc o).grownBy w1 u'.ownBlock) (hu : w1.ownsRow B 47 1 u1 (n + 1) ((List.range n).map V' ++ [v])) (hat : u1.ownBlock = u'.ownBlock ∨ u1.ownBlock = some (w.alloc o).heap.size) (hB : B ≤ w.heap.size) :
    BookAt w1 p (bookCellsI cs u u') ∧ BookIn cs (w1.setCell ⟨p, 1, none⟩ u1) B0 B p (n + 1) V (put1 n V' v) (put1 n C X) u u1 ∧ Below B w (w1.setCell ⟨p, 1, none⟩ u1) ∧ Rest 47 w (w1.setCell ⟨p, 1, none⟩ u1) := by
  have hba : Below w.heap.size w (w.alloc o) := (Below.refl _ _).alloc (Nat.le_refl _) _
  have hL := h.lists.below hba
  have hW := h.was.below hba
  have hT := turns_grown hW.row hg
  have hbk : BookAt w1 p (bookCellsI cs u u') := ⟨hT.cell (by decide) (h.book.below hba).1, h.book.2⟩
  have hTb := turns_book hbk h.low 1 u1
  have hv1 := hT.row (by decide) (ownsRow_below hv hba)
  have hl1 : L2 w1 B0 B u (n + 1) V (put1 n C X) := ⟨hL.row.kept hg h.off', fun j hj => hT.row (by decide) (hL.each j hj), hL.apart⟩
  have hwn : ListsI w1 B u1 (n + 1) (put1 n V' v) (put1 n C X) := by
    refine ⟨by rw [put1_range]; exact hu, fun j hj => ?_, fun i j hi hj hij => ?_⟩
    · by_cases e : j = n
      · subst e; rw [put1_at, put1_at]; exact hv1
      · rw [put1_else n V' v j (by omega), put1_else n C X j (by omega)]; exact hT.row (by decide) (hW.each j (by omega))
    · by_cases e : i = n
      · subst e
        rw [put1_at, put1_else i V' v j (by omega)]
        rcases hvo j (by omega) with h1 | h1
        · cases hb : v.ownBlock with
          | none => exact .inl rfl
          | some g => right; rw [h1]; simp
        · right; exact fun e => h1 e.symm
      · by_cases e2 : j = n
        · subst e2
          rw [put1_at, put1_else j V' v i (by omega)]
          exact hvo i (by omega)
        · rw [put1_else n V' v i (by omega), put1_else n V' v j (by omega)]
          exact h.was.apart i j (by omega) (by omega) hij
  have hoff' : Off u1 u := off_new h.off' hL.row hat
  have hoff : Off u u1 := by
    refine off_same h.off ?_
    rcases hat with hh | hh
    · exact .inl hh
    · exact .inr ⟨_, hh, row_fresh hL.row⟩
  refine ⟨hbk, ⟨?_, hl1.turned hTb (by decide) (by decide), hwn.turned hTb (by decide) (by decide), hoff, hoff', h.low⟩, ?_, fun k cur t ht1 ht2 hk => hTb.cell ht2 (hT.cell ht1 ((hba.block k (Array.getElem?_eq_some_iff.1 hk).1).trans hk))⟩
  · have hbs := book_set hbk 1 u1
    rw [bookCellsI, cells2_set2] at hbs
    exact hbs
  · exact ((hba.mono hB).trans (hT.below (Nat.le_trans hB hba.size))).trans (hTb.below (Nat.le_trans hB (Nat.le_trans hba.size hg.size)))

set_option maxRecDepth 20000 in
set_option maxHeartbeats 2000000 in
theorem keepInts_any {cs : Array Value} {w : World} {B0 B p n : Nat} {V V' : Nat → Value} {C : Nat → List Int} {u u' v : Value} {X : List Int} (h : BookIn cs w B0 B p n V V' C u u') (hn : n < 250) (hv : w.ownsRow B0 3 1 v X.length (nats X)) (hX : X.length ≤ 50000) (hvo : ∀ j, j < n → Off v (V j)) (hB : B ≤ w.heap.size) :
    Calls Tryz.prog 14 #[.pointer (some ⟨p, 0, none⟩), v] w fun e w' => e = .returned (.tuple #[]) ∧
      (∃ u2 u3 V3, BookIn cs w' B0 B p (n + 1) (put1 n V v) V3 (put1 n C X) u2 u3) ∧ Below B w w' ∧ Rest 47 w w' := by
  obtain ⟨au, cu, rfl⟩ := ownsRow_slice h.lists.row
  obtain ⟨au', cu', rfl⟩ := ownsRow_slice h.was.row
  obtain ⟨av, cv, rfl⟩ := ownsRow_slice hv
  have H := hid h
  have HV := hid hv
  have c2 := h.book.cell 0
  have c3 := h.book.cell 1
  have hcz : 1 < cs.size := by have := h.book.2; rw [bookCellsI, cells2_size] at this; omega
  have e2 := cells2_first 0 cs (.slice au n cu) (.slice au' n cu') hcz
  have e3 := cells2_second 0 cs (.slice au n cu) (.slice au' n cu') hcz
  rw [bookCellsI] at c2 c3
  rw [e2] at c2
  rw [e3] at c3
  clear h hv e2 e3
  obtain ⟨i1, hi1, hy0, hy1, hy2⟩ := info_parts Tryz.infoInts
  go_enter Tryz.func14, Tryz.ntmps14
  go_wp2_with (at_builtin; refine wpList_append_reads _ rfl (.tmp 14) (.tmp 16) 35 rfl B 47 i1 (.slice none 0 0) 24 Tryz.underlying35 hi1 hy0 hy1 hy2 rfl (.slice au n cu) n ((List.range n).map V) rfl (H.out.lists.row.alloc _) _ [.slice av X.length cv] rfl (reads_built w #[.slice av X.length cv] _ 1 rfl) (by intro u hu; simp at hu; subst hu; rfl) (by unfold maxLen; simp; omega) (by simp; omega) (by simp; omega) ?_; intro u1 w1 hown1 hgrow1 hat1 hold1; obtain ⟨a1, k1, rfl⟩ := ownsRow_slice hown1; obtain ⟨hk1, hM, hv2, hb1, hu1⟩ := bookI_step1 H.out HV.out hvo hgrow1 hown1 hat1 hB; have d2 : w1.cell? ⟨p, 0, none⟩ = some (.slice au n cu) := (hk1.cell 0).trans (cells2_first 0 cs _ _ hcz); have f2 := book_free hk1 0; have m1 : True := trivial; have HM := hid hM; have HV2 := hid hv2; have HB1 := hid hb1; have HU1 := hid hu1; clear hu1 hM hv2 hb1 hold1 hgrow1 hat1 hown1)
  generalize w1.setCell ⟨p, 0, none⟩ (.slice a1 (n + 1) k1) = W2 at *
  have hMd := hid (HM.out.below (w' := W2.drew) (Below.drew (Below.refl _ _)))
  have hRd : Hid (Reads W2.drew (.slice av X.length cv) (nats X)) := ownsRow_reads HV2.out
  have hBd := hid (HB1.out.drew)
  have hBs := hid (Nat.le_trans hB hBd.out.size)
  have g3 : W2.drew.cell? ⟨p, 1, none⟩ = some (.slice au' n cu') := (hMd.out.book.cell 1).trans (cells2_second 0 cs _ _ hcz)
  clear d2 f2 hk1 c2 c3
  go_region_law (first
    | (have _h := later; refine step_append_keeps _ (by rfl) (.tmp 24) (.tmp 27) 35 (by rfl) B 47 i1 (.slice none 0 0) 1 24 Tryz.underlying35 hi1 hy0 hy1 hy2 (by rfl) (by decide) (.slice au' n cu') n ((List.range n).map V') (by simp [Act.eval]) (HM3.out.was.row.alloc _) ⟨w3.heap.size, 0, none⟩ 1 1 [.slice ac X.length cc] (by simp [Act.eval]) (by rfl) (World.news_of_block (heap_alloc_new w3 _)) (by intro u hu; simp at hu; subst hu; rfl) (by decide) (by unfold maxLen; omega) (by omega) (by have := hs3.out; simp; omega) ?_; intro g cap' w4 hown4 hgrow4 hat4 hlt4 hold4; have k4 := bookI_step2 HM3.out HC3.out hfr.out hgrow4 hown4 (hat4.imp (fun e => e.symm) (fun e => congrArg some e)) hs3.out; have d4 : w4.cell? ⟨p, 1, none⟩ = some (.slice au' n cu') := (k4.1.cell 1).trans (cells2_second 0 cs _ _ hcz); have f4 := book_free k4.1 1)
    | (go_simp; go_at_call 31; refine (copyInts_any hRd.out (by omega)).mono ?_; rintro e w3 ⟨vc, rfl, hoc, hb3⟩; obtain ⟨ac, cc, rfl⟩ := ownsRow_slice hoc; have later : True := trivial; have HM3 := hid (hMd.out.below hb3); have HC3 := hid (ownsRow_lower hoc hBs.out); have hs3 := hid (Nat.le_trans hBs.out hb3.size); have hfr := hid (freshI_off hoc hMd.out.was); have g4 := keeps hb3 _ _ g3; have g5 := fun o => keeps ((Below.refl w3.heap.size w3).alloc (Nat.le_refl _) o) _ _ g4; have hw3 := hid (hBd.out.trans (hb3.mono hBs.out)); have hu3 : Hid (Rest 47 W2 w3) := (fun k cur t _ _ hk => (hb3.block k (Array.getElem?_eq_some_iff.1 hk).1).trans hk); clear hoc hb3))
  all_goals refine bodyPost_end (v := .tuple #[]) (by simp [results, Tryz.results14, go_sem]) rfl ⟨rfl, ⟨_, _, _, k4.2.1⟩, hw3.out.trans k4.2.2.1, fun k cur t h1 h2 hk => k4.2.2.2 k cur t h1 h2 (hu3.out k cur t h1 h2 (HU1.out k cur t h1 h2 hk))⟩

/-- A book at block B of n lists of numbers, none of them one of F. -/
def LowSet (w : World) (B0 B n : Nat) (F : Value → Prop) : Prop := ∃ (u u' : Value) (V V' : Nat → Value) (C : Nat → List Int), BookAt w B #[u, u', .slice none 0 0, .slice none 0 0, .slice none 0 0, .slice none 0 0, .slice none 0 0, .slice none 0 0, .slice none 0 0, .slice none 0 0] ∧ L2 w B0 B u n V C ∧ ListsI w B u' n V' C ∧ Off u u' ∧ Off u' u ∧ (∀ j, j < n → (C j).length ≤ 50000) ∧ ∀ v, F v → ∀ j, j < n → Off v (V j)

theorem lowSet_new (w : World) (B0 : Nat) (F : Value → Prop) : LowSet (w.alloc (.cells #[.slice none 0 0, .slice none 0 0, .slice none 0 0, .slice none 0 0, .slice none 0 0, .slice none 0 0, .slice none 0 0, .slice none 0 0, .slice none 0 0, .slice none 0 0] 44)) B0 w.heap.size 0 F :=
  ⟨_, _, fun _ => .slice none 0 0, fun _ => .slice none 0 0, fun _ => [], ⟨heap_alloc_new w _, rfl⟩, ⟨World.ownsRow_nil _ _ _ _, fun j hj => by omega, fun i j hi => by omega⟩, ⟨World.ownsRow_nil _ _ _ _, fun j hj => by omega, fun i j hi => by omega⟩, .inl rfl, .inl rfl, fun j hj => by omega, fun v _ j hj => by omega⟩

theorem LowSet.below {w w' : World} {B0 B n : Nat} {F : Value → Prop} (h : LowSet w B0 B n F) (hb : Below w.heap.size w w') : LowSet w' B0 B n F := by
  obtain ⟨u, u', V, V', C, h1, h2, h3, h4⟩ := h
  exact ⟨u, u', V, V', C, ⟨(hb.block B (Array.getElem?_eq_some_iff.1 h1.1).1).trans h1.1, h1.2⟩, h2.below hb, h3.below hb, h4⟩

theorem LowSet.less {w : World} {B0 B n : Nat} {F G : Value → Prop} (h : LowSet w B0 B n F) (hG : ∀ v, G v → F v) : LowSet w B0 B n G := by
  obtain ⟨u, u', V, V', C, h1, h2, h3, h4, h5, h6, h7⟩ := h
  exact ⟨u, u', V, V', C, h1, h2, h3, h4, h5, h6, fun v hv => h7 v (hG v hv)⟩

set_option maxRecDepth 20000 in
theorem LowSet.full {w : World} {B0 B : Nat} {v : Value} {F : Value → Prop} (hS : LowSet w B0 B 250 F) :
    Calls Tryz.prog 14 #[.pointer (some ⟨B, 0, none⟩), v] w fun e w' => e = .returned (.tuple #[]) ∧ w' = w := by
  obtain ⟨u, u', V, V', C, h1, h2, h3, h4, h5, h6, h7⟩ := hS
  obtain ⟨au, cu, rfl⟩ := ownsRow_slice h2.row
  have c0 : w.cell? ⟨B, 0, none⟩ = some (.slice au 250 cu) := by simp [World.cell?, h1.1]
  clear h1 h2 h3 h4 h5 h6 h7
  go_enter Tryz.func14, Tryz.ntmps14
  go_wp2
  exact bodyPost_end (v := .tuple #[]) (by simp [results, Tryz.results14, go_sem]) rfl ⟨rfl, rfl⟩

/-- One list kept, or the book is full. -/
theorem LowSet.keep {w : World} {B0 B n k : Nat} {v : Value} {X : List Int} {F : Value → Prop} (hS : LowSet w B0 B n F) (hv0 : F v) (hn : n ≤ 250) (hv : w.ownsRow B0 3 1 v k (nats X)) (hX : X.length ≤ 50000) (hB : B ≤ w.heap.size) :
    Calls Tryz.prog 14 #[.pointer (some ⟨B, 0, none⟩), v] w fun e w' => e = .returned (.tuple #[]) ∧ (∃ n', n' ≤ 250 ∧ LowSet w' B0 B n' (fun v2 => F v2 ∧ Off v2 v)) ∧ Below B w w' := by
  by_cases hf : n = 250
  · subst hf
    refine hS.full.mono ?_
    rintro e w' ⟨rfl, rfl⟩
    exact ⟨rfl, ⟨250, Nat.le_refl _, hS.less (fun _ h => h.1)⟩, Below.refl _ _⟩
  · have hkx : k = X.length := by have := hv.1; rw [nats_length] at this; omega
    subst hkx
    obtain ⟨u, u', V, V', C, h1, h2, h3, h4, h5, h6, h7⟩ := hS
    have hbk : BookIn #[u, u', .slice none 0 0, .slice none 0 0, .slice none 0 0, .slice none 0 0, .slice none 0 0, .slice none 0 0, .slice none 0 0, .slice none 0 0] w B0 B B n V V' C u u' := ⟨h1, h2, h3, h4, h5, Nat.le_refl _⟩
    refine (keepInts_any hbk (by omega) hv hX (h7 v hv0) hB).mono ?_
    rintro e w' ⟨rfl, ⟨u2, u3, V3, hb⟩, hbel, hrest⟩
    refine ⟨rfl, ⟨n + 1, by omega, u2, u3, _, _, _, hb.book, hb.lists, hb.was, hb.off, hb.off', fun j hj => ?_, fun v2 hv2 j hj => ?_⟩, hbel⟩
    · by_cases e : j = n
      · subst e; rw [put1_at]; exact hX
      · rw [put1_else _ _ _ _ (by omega)]; exact h6 j (by omega)
    · by_cases e : j = n
      · subst e; rw [put1_at]; exact hv2.2
      · rw [put1_else _ _ _ _ (by omega)]; exact h7 v2 hv2.1 j (by omega)

theorem LowSet.alone {w : World} {B0 B n : Nat} {F : Value → Prop} (hS : LowSet w B0 B n F) (hn : n ≤ 250) (hB : B ≤ w.heap.size) (h0 : B0 ≤ B) :
    Calls Tryz.prog 19 #[.pointer (some ⟨B, 0, none⟩)] w fun e w' => e = .returned (.bool true) ∧ Below B0 w w' := by
  obtain ⟨u, u', V, V', C, h1, h2, h3, h4, h5, h6, h7⟩ := hS
  obtain ⟨_, _, _, b1, b2, _, _, b3⟩ := KindT.new w B0
  obtain ⟨_, _, _, c1, c2, _, _, c3⟩ := KindH.new w B0
  obtain ⟨_, _, _, d1, d2, _, _, d3⟩ := KindB.new w B0
  exact apartM_any h1 (h2.lists h0) ⟨ownsRow_lower h3.row h0, fun j hj => ownsRow_lower (h3.each j hj) h0, h3.apart⟩ b1 b2 c1 c2 d1 d2 hn (by omega) (by omega) (by omega) h6 b3 c3 d3 (Nat.le_trans h0 hB)
end Go.Proofs.YtfeibhdnmfiflaaGreat.Low
