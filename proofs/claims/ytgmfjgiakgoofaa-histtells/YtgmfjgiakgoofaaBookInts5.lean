/-
  Contract of package lexiphanebook: Apart of a book of lists of numbers.
-/
import Derived.Test.YtgmfjgiakgoofaaBookInts4
import Derived.Test.YtgmfjgiakgoofaaBookNone
import Derived.Test.YtgmfjgiakgoofaaNoTexts
namespace Go.Proofs.Ytgmfjgiakgoofaa
open Go.ChangeShapes Go.WideShapes Go.ChangeAt Go.RowKit

theorem bookI_turned {w w' : World} {B p : Nat} {cs : Array Value} (h : BookAt w p cs) (hT : Turns 3 B w w') : BookAt w' p cs := ⟨hT.cell (by decide) h.1, h.2⟩

theorem marksI_more (j m : Nat) : marksI j 0 m ++ marksI j (marksI j 0 m).length 72 = marksI j 0 (marksI j 0 m ++ marksI j (marksI j 0 m).length 72).length := by
  rw [List.length_append, marksI_length, marksI_length]
  have := marksI_append j 0 m 72
  rwa [Nat.zero_add] at this

set_option maxRecDepth 20000 in
set_option maxHeartbeats 4000000 in
theorem apartI_any {w : World} {B p n : Nat} {V V' : Nat → Value} {C : Nat → List Int} {u u' : Value} (h : BookIn w B p n V V' C u u') (hn : n ≤ 250) (hC : ∀ j, j < n → (C j).length ≤ 50000) (hB : B ≤ w.heap.size) :
    Calls Try.prog 15 #[.pointer (some ⟨p, 0, none⟩)] w fun e w' => e = .returned (.bool true) ∧ Below B w w' := by
  obtain ⟨au, cu, rfl⟩ := ownsRow_slice h.lists.row
  have H := hid h
  have HC := hid hC
  have hP := hid h.book
  clear h hC
  go_enter Try.func15, Try.ntmps15
  go_wp2_with (first
    | (have _h := m5; go_at_call 34; refine (markedInts_any L5.out (fun j _ => by rw [marksI_length]) hn (fun j hj => by rw [marksI_length]; have := HC.out j hj; omega)).mono ?_; rintro e w6 ⟨rfl, hb6⟩; have hw6 := hid (hw5.out.trans (hb6.mono hs5.out)); have P6 := hid (P5.out.below hb6); have z2 : w6.cell? ⟨p, 2, none⟩ = some (.slice none 0 0) := P6.out.cell 2; have z4 : w6.cell? ⟨p, 4, none⟩ = some (.slice none 0 0) := P6.out.cell 4; have z6 : w6.cell? ⟨p, 6, none⟩ = some (.slice none 0 0) := P6.out.cell 6; have z8 : w6.cell? ⟨p, 8, none⟩ = some (.slice none 0 0) := P6.out.cell 8)
    | (go_at_call 34; refine (markedInts_any L4.out (fun j _ => marksI_more j _) hn (fun j hj => by rw [List.length_append, marksI_length, marksI_length]; have := HC.out j hj; omega)).mono ?_; rintro e w5 ⟨rfl, hb5⟩; have hw5 := hid (hw4.out.trans (hb5.mono hs4.out)); have hs5 := hid (Nat.le_trans hs4.out hb5.size); have L5 := hid (G4.out.below hb5); have P5 := hid (P4.out.below hb5); have m5 : True := trivial; have x0 : w5.cell? ⟨p, 0, none⟩ = some (.slice au n cu) := P5.out.cell 0; have x2 : w5.cell? ⟨p, 2, none⟩ = some (.slice none 0 0) := P5.out.cell 2; have x4 : w5.cell? ⟨p, 4, none⟩ = some (.slice none 0 0) := P5.out.cell 4; have x6 : w5.cell? ⟨p, 6, none⟩ = some (.slice none 0 0) := P5.out.cell 6; have x8 : w5.cell? ⟨p, 8, none⟩ = some (.slice none 0 0) := P5.out.cell 8)
    | (go_at_call 38; refine (markedBytes_none _).mono ?_; rintro e _ ⟨rfl, rfl⟩)
    | (go_at_call 36; refine (markedHits_none _).mono ?_; rintro e _ ⟨rfl, rfl⟩)
    | (go_at_call 37; refine (markedCosts_none _).mono ?_; rintro e _ ⟨rfl, rfl⟩)
    | (go_at_call 35; refine (markedTexts_none _).mono ?_; rintro e _ ⟨rfl, rfl⟩)
    | (go_at_call 29; refine (growInts_any P3.out rfl L3.out hn (fun j hj => by rw [marksI_length]; exact HC.out j hj) hs3.out).mono ?_; rintro e w4 ⟨u2, rfl, ⟨V2, hl4⟩, hg4, hT4⟩; have L4 := hid hl4; have G4 := hid hg4; have P4 := hid (bookI_turned P3.out hT4); have hw4 := hid (hw3.out.trans (hT4.below hs3.out)); have hs4 := hid (Nat.le_trans hs3.out hT4.size); clear hl4 hg4 hT4; have y0 : w4.cell? ⟨p, 0, none⟩ = some (.slice au n cu) := P4.out.cell 0; have y2 : w4.cell? ⟨p, 2, none⟩ = some (.slice none 0 0) := P4.out.cell 2; have y4 : w4.cell? ⟨p, 4, none⟩ = some (.slice none 0 0) := P4.out.cell 4; have y6 : w4.cell? ⟨p, 6, none⟩ = some (.slice none 0 0) := P4.out.cell 6; have y8 : w4.cell? ⟨p, 8, none⟩ = some (.slice none 0 0) := P4.out.cell 8)
    | (go_at_call 33; refine (growBytes_none P4.out rfl).mono ?_; rintro e _ ⟨rfl, rfl⟩)
    | (go_at_call 31; refine (growHits_none P4.out rfl).mono ?_; rintro e _ ⟨rfl, rfl⟩)
    | (go_at_call 32; refine (growCosts_none P4.out rfl).mono ?_; rintro e _ ⟨rfl, rfl⟩)
    | (go_at_call 30; refine (growTexts_none P4.out rfl).mono ?_; rintro e _ ⟨rfl, rfl⟩)
    | (go_at_call 24; refine (putInts_any P2.out rfl L2.out hn HC.out).mono ?_; rintro e w3 ⟨rfl, hl3, hT3⟩; have L3 := hid hl3; have P3 := hid (bookI_turned P2.out hT3); have hw3 := hid (hw2.out.trans (hT3.below hs2.out)); have hs3 := hid (Nat.le_trans hs2.out hT3.size); clear hl3 hT3)
    | (go_at_call 28; refine (putBytes_none P3.out rfl).mono ?_; rintro e _ ⟨rfl, rfl⟩)
    | (go_at_call 26; refine (putHits_none P3.out rfl).mono ?_; rintro e _ ⟨rfl, rfl⟩)
    | (go_at_call 27; refine (putCosts_none P3.out rfl).mono ?_; rintro e _ ⟨rfl, rfl⟩)
    | (go_at_call 25; refine (putTexts_none P3.out rfl).mono ?_; rintro e _ ⟨rfl, rfl⟩)
    | (go_at_call 19; refine (stillInts_any hP.out rfl rfl H.out.lists H.out.was hn HC.out).mono ?_; rintro e w2 ⟨rfl, hb2⟩; have P2 := hid (hP.out.below hb2); have L2 := hid (H.out.lists.below hb2); have hw2 := hid (hb2.mono hB); have hs2 := hid (Nat.le_trans hB hb2.size))
    | (go_at_call 23; refine (stillBytes_none P2.out rfl).mono ?_; rintro e _ ⟨rfl, rfl⟩)
    | (go_at_call 21; refine (stillHits_none P2.out rfl).mono ?_; rintro e _ ⟨rfl, rfl⟩)
    | (go_at_call 22; refine (stillCosts_none P2.out rfl).mono ?_; rintro e _ ⟨rfl, rfl⟩)
    | (go_at_call 20; refine (stillTexts_none P2.out rfl).mono ?_; rintro e _ ⟨rfl, rfl⟩))
  go_ret
  exact ⟨rfl, hw6.out⟩
end Go.Proofs.Ytgmfjgiakgoofaa
