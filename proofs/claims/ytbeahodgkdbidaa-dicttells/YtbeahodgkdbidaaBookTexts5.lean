/-
  Contracts of package lexiphanebook: LentTexts, StaysTexts; Apart of a book of lists of texts.
-/
import Derived.Test.YtbeahodgkdbidaaBookTexts4
import Derived.Test.YtbeahodgkdbidaaBookNone
namespace Go.Proofs.Ytbeahodgkdbidaa
open Go.ChangeShapes Go.WideShapes Go.ChangeAt Go.RowKit

def markB : ByteArray := ⟨#[109, 97, 114, 107]⟩

theorem book_turned {w w' : World} {B p : Nat} {cs : Array Value} (h : BookAt w p cs) (hT : Turns 9 B w w') : BookAt w' p cs := ⟨hT.cell (by decide) h.1, h.2⟩

theorem own_cap {w : World} {B : Nat} {e : TypeId} {ad : Addr} {n cap : Nat} {xs : List Value} (h : w.ownsRow B e 1 (.slice (some ad) n cap) n xs) : n ≤ cap := by
  rcases h.2 with ⟨h, _⟩ | ⟨g, c, cur, h, _, _, hnc, _⟩
  · simp at h
  · simp only [Value.slice.injEq] at h
    obtain ⟨_, _, rfl⟩ := h
    exact hnc

set_option maxRecDepth 20000 in
set_option maxHeartbeats 2000000 in
theorem lent_any {w : World} {v : Value} {xs : List ByteArray} (hv : Reads w v (strs xs)) (hx : xs.length ≤ 1000000) :
    Calls Try.prog 11 #[v] w fun e w' => ∃ g cap, e = .returned (.slice (some ⟨g, 0, none⟩) xs.length cap) ∧ w'.ownsRow w.heap.size 9 1 (.slice (some ⟨g, 0, none⟩) (xs.length + 1) cap) (xs.length + 1) (strs (xs ++ [markB])) ∧ xs.length + 1 ≤ cap ∧ Below w.heap.size w w' := by
  obtain ⟨i0, hi0, hz0, hz1, hz2⟩ := info_parts Try.infoStr
  obtain ⟨a, ca, e, _⟩ := id hv
  rw [strs_length] at e
  have HV := hid hv
  subst e
  clear hv
  generalize hn : xs.length = n at HV hx
  have HN := hid hn
  clear hn
  go_enter Try.func11, Try.ntmps11
  go_wp2_with (first
    | (go_at_call 32; refine (copyTexts_any HV.out (by rw [HN.out]; omega)).mono ?_; rintro e w1 ⟨v', rfl, ho1, hb1⟩; rw [HN.out] at ho1; obtain ⟨a1, c1, rfl⟩ := ownsRow_slice ho1; have hs1 := hb1.size)
    | (at_builtin; refine wpList_append_keeps _ rfl (.tmp 4) (.tmp 5) 22 rfl w.heap.size 9 i0 (.string ⟨#[]⟩) 1 16 Try.underlying22 hi0 hz0 hz1 hz2 rfl (by decide) (.slice a1 n c1) n (strs xs) rfl (ho1.alloc _) ⟨w1.heap.size, 0, none⟩ 1 1 [.string markB] rfl rfl (World.news_of_block (heap_alloc_new w1 _)) (by intro u hu; simp at hu; subst hu; rfl) (by decide) (by unfold maxLen; omega) (by omega) (by simp; omega) ?_; intro g cap w2 hown2 hgrow hat hlt hold; have hcap := own_cap hown2; have HO := hid hown2; have HG := hid hgrow; clear hown2 hgrow hat hold))
  all_goals go_ret
  all_goals exact ⟨g, cap, rfl, by rw [← strs_append]; exact HO.out, hcap, (hb1.alloc hb1.size _).grown HG.out (by simp; omega) (fun k hk => (ho1.lt k hk).1)⟩

set_option maxRecDepth 20000 in
set_option maxHeartbeats 2000000 in
theorem stays_any {w : World} {B g n cap : Nat} {u : Value} {xs : List ByteArray} (hv : w.ownsRow B 9 1 (.slice (some ⟨g, 0, none⟩) (n + 1) cap) (n + 1) (strs (xs ++ [markB]))) (hc : n + 1 ≤ cap) (hu : Reads w u (strs xs)) (hn : xs.length = n) (hx : n ≤ 1000000) :
    Calls Try.prog 15 #[.slice (some ⟨g, 0, none⟩) n cap, u] w fun e w' => e = .returned (.bool true) ∧ Below w.heap.size w w' := by
  have hcell : w.cell? ⟨g, n, none⟩ = some (.string markB) := by
    rw [hv.cellAt n (by omega), strs_at _ n (by simp; omega)]
    simp [← hn]
  have hr : Reads w (.slice (some ⟨g, 0, none⟩) n cap) (strs xs) := by
    have h1 := ownsRow_reads hv
    obtain ⟨a, c, e, h2⟩ := h1
    simp only [Value.slice.injEq] at e
    obtain ⟨rfl, _, rfl⟩ := e
    refine ⟨_, cap, by rw [strs_length, hn], .inr ?_⟩
    rcases h2 with h0 | ⟨b, off, e, hb, hc2⟩
    · rw [strs_length] at h0; simp at h0
    · simp only [Option.some.injEq, Addr.mk.injEq, and_true] at e
      obtain ⟨rfl, rfl⟩ := e
      refine ⟨g, 0, rfl, hb, fun i hi => ?_⟩
      rw [strs_length] at hi
      rw [hc2 i (by rw [strs_length]; simp; omega), strs_at _ i (by simp; omega), strs_at _ i hi, List.getElem_append_left hi]
  have HR := hid hr
  have HU := hid hu
  have hl : Hid (xs.length ≤ 1000000) := by show _ ≤ _; omega
  have hmk : (markB.toList == [109, 97, 114, 107]) = true := by decide +kernel
  clear hv hr hu hn
  go_enter Try.func15, Try.ntmps15
  go_wp2_with (go_at_call 27; refine (sameTexts_any HR.out HU.out hl.out hl.out).mono ?_; rintro e w1 ⟨rfl, hb1⟩; have hc1 := keeps hb1 _ _ hcell)
  go_ret
  exact ⟨rfl, hb1⟩

theorem marks_more (j m : Nat) : marksT j 0 m ++ marksT j (marksT j 0 m).length 72 = marksT j 0 (marksT j 0 m ++ marksT j (marksT j 0 m).length 72).length := by
  rw [List.length_append, marksT_length, marksT_length]
  have := marksT_append j 0 m 72
  rwa [Nat.zero_add] at this

set_option maxRecDepth 20000 in
set_option maxHeartbeats 4000000 in
theorem apart_any {w : World} {B p n : Nat} {V V' : Nat → Value} {C : Nat → List ByteArray} {u u' : Value} (h : BookT w B p n V V' C u u') (hn : n ≤ 250) (hC : ∀ j, j < n → (C j).length ≤ 50000) (hB : B ≤ w.heap.size) :
    Calls Try.prog 28 #[.pointer (some ⟨p, 0, none⟩)] w fun e w' => e = .returned (.bool true) ∧ Below B w w' := by
  obtain ⟨au, cu, rfl⟩ := ownsRow_slice h.lists.row
  have H := hid h
  have HC := hid hC
  have hP := hid h.book
  clear h hC
  go_enter Try.func28, Try.ntmps28
  go_wp2_with (first
    | (have _h := m5; go_at_call 60; refine (markedTexts_any L5.out (fun j _ => by rw [marksT_length]) hn (fun j hj => by rw [marksT_length]; have := HC.out j hj; omega)).mono ?_; rintro e w6 ⟨rfl, hb6⟩; have hw6 := hid (hw5.out.trans (hb6.mono hs5.out)); have z4 := keeps hb6 _ _ x4; have z6 := keeps hb6 _ _ x6; have z8 := keeps hb6 _ _ x8)
    | (go_at_call 60; refine (markedTexts_any L4.out (fun j _ => marks_more j _) hn (fun j hj => by rw [List.length_append, marksT_length, marksT_length]; have := HC.out j hj; omega)).mono ?_; rintro e w5 ⟨rfl, hb5⟩; have hw5 := hid (hw4.out.trans (hb5.mono hs4.out)); have hs5 := hid (Nat.le_trans hs4.out hb5.size); have L5 := hid (G4.out.below hb5); have P5 := hid (P4.out.below hb5); have m5 : True := trivial; have x0 : w5.cell? ⟨p, 0, none⟩ = some (.slice none 0 0) := P5.out.cell 0; have x2 : w5.cell? ⟨p, 2, none⟩ = some (.slice au n cu) := P5.out.cell 2; have x4 : w5.cell? ⟨p, 4, none⟩ = some (.slice none 0 0) := P5.out.cell 4; have x6 : w5.cell? ⟨p, 6, none⟩ = some (.slice none 0 0) := P5.out.cell 6; have x8 : w5.cell? ⟨p, 8, none⟩ = some (.slice none 0 0) := P5.out.cell 8)
    | (go_at_call 59; refine (markedInts_none _).mono ?_; rintro e _ ⟨rfl, rfl⟩)
    | (go_at_call 61; refine (markedHits_none _).mono ?_; rintro e _ ⟨rfl, rfl⟩)
    | (go_at_call 62; refine (markedCosts_none _).mono ?_; rintro e _ ⟨rfl, rfl⟩)
    | (go_at_call 63; refine (markedBytes_none _).mono ?_; rintro e _ ⟨rfl, rfl⟩)
    | (go_at_call 55; refine (growTexts_any P3.out rfl L3.out hn (fun j hj => by rw [marksT_length]; exact HC.out j hj) hs3.out).mono ?_; rintro e w4 ⟨u2, rfl, ⟨V2, hl4⟩, hg4, hT4⟩; have L4 := hid hl4; have G4 := hid hg4; have P4 := hid (book_turned P3.out hT4); have hw4 := hid (hw3.out.trans (hT4.below hs3.out)); have hs4 := hid (Nat.le_trans hs3.out hT4.size); clear hl4 hg4 hT4; have y0 : w4.cell? ⟨p, 0, none⟩ = some (.slice none 0 0) := P4.out.cell 0)
    | (go_at_call 54; refine (growInts_none P3.out rfl).mono ?_; rintro e _ ⟨rfl, rfl⟩)
    | (go_at_call 56; refine (growHits_none P4.out rfl).mono ?_; rintro e _ ⟨rfl, rfl⟩)
    | (go_at_call 57; refine (growCosts_none P4.out rfl).mono ?_; rintro e _ ⟨rfl, rfl⟩)
    | (go_at_call 58; refine (growBytes_none P4.out rfl).mono ?_; rintro e _ ⟨rfl, rfl⟩)
    | (go_at_call 50; refine (putTexts_any P2.out rfl L2.out hn HC.out).mono ?_; rintro e w3 ⟨rfl, hl3, hT3⟩; have L3 := hid hl3; have P3 := hid (book_turned P2.out hT3); have hw3 := hid (hw2.out.trans (hT3.below hs2.out)); have hs3 := hid (Nat.le_trans hs2.out hT3.size); clear hl3 hT3)
    | (go_at_call 49; refine (putInts_none P2.out rfl).mono ?_; rintro e _ ⟨rfl, rfl⟩)
    | (go_at_call 51; refine (putHits_none P3.out rfl).mono ?_; rintro e _ ⟨rfl, rfl⟩)
    | (go_at_call 52; refine (putCosts_none P3.out rfl).mono ?_; rintro e _ ⟨rfl, rfl⟩)
    | (go_at_call 53; refine (putBytes_none P3.out rfl).mono ?_; rintro e _ ⟨rfl, rfl⟩)
    | (go_at_call 45; refine (stillTexts_any hP.out rfl rfl H.out.lists H.out.was hn HC.out).mono ?_; rintro e w2 ⟨rfl, hb2⟩; have P2 := hid (hP.out.below hb2); have L2 := hid (H.out.lists.below hb2); have hw2 := hid (hb2.mono hB); have hs2 := hid (Nat.le_trans hB hb2.size))
    | (go_at_call 44; refine (stillInts_none hP.out rfl).mono ?_; rintro e _ ⟨rfl, rfl⟩)
    | (go_at_call 46; refine (stillHits_none P2.out rfl).mono ?_; rintro e _ ⟨rfl, rfl⟩)
    | (go_at_call 47; refine (stillCosts_none P2.out rfl).mono ?_; rintro e _ ⟨rfl, rfl⟩)
    | (go_at_call 48; refine (stillBytes_none P2.out rfl).mono ?_; rintro e _ ⟨rfl, rfl⟩))
  go_ret
  exact ⟨rfl, hw6.out⟩
end Go.Proofs.Ytbeahodgkdbidaa
