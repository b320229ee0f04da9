/-
  A book of lists of numbers beside a row of numbers that is written on: one list more is kept, all are apart.
-/
import Derived.Test.YtgmfjgiakgoofaaBookInts5
import Derived.Test.YtgmfjgiakgoofaaShelfInts
namespace Go.Proofs.Ytgmfjgiakgoofaa
open Go.ChangeShapes Go.WideShapes Go.ChangeAt Go.RowKit

set_option maxRecDepth 20000 in
set_option maxHeartbeats 2000000 in
theorem keepIntsH_any {w : World} {B p n : Nat} {V V' : Nat → Value} {C : Nat → List Int} {u u' v : Value} {X : List Int} (h : BookIn w B p n V V' C u u') (hn : n < 250) (hv : w.ownsRow B 3 1 v X.length (nats X)) (hX : X.length ≤ 50000) (hvo : ∀ j, j < n → Off v (V j)) (hB : B ≤ w.heap.size) :
    Calls Try.prog 11 #[.pointer (some ⟨p, 0, none⟩), v] w fun e w' => e = .returned (.tuple #[]) ∧
      (∃ u2 u3 v3, BookIn w' B p (n + 1) (put1 n V v) (put1 n V' v3) (put1 n C X) u2 u3 ∧ ∀ g, v3.ownBlock = some g → w.heap.size ≤ g) ∧ Below B w w' ∧ IKeep w w' := by
  obtain ⟨au, cu, rfl⟩ := ownsRow_slice h.lists.row
  obtain ⟨au', cu', rfl⟩ := ownsRow_slice h.was.row
  obtain ⟨av, cv, rfl⟩ := ownsRow_slice hv
  have H := hid h
  have HV := hid hv
  have c2 := h.book.cell 0
  have c3 := h.book.cell 1
  have e2 : (bookCellsI (.slice au n cu) (.slice au' n cu'))[0]? = some (.slice au n cu) := rfl
  have e3 : (bookCellsI (.slice au n cu) (.slice au' n cu'))[1]? = some (.slice au' n cu') := rfl
  rw [e2] at c2
  rw [e3] at c3
  clear h hv e2 e3
  obtain ⟨i1, hi1, hy0, hy1, hy2⟩ := info_parts Try.infoInts
  go_enter Try.func11, Try.ntmps11
  go_wp2_with (at_builtin; refine wpList_append_reads _ rfl (.tmp 14) (.tmp 16) 31 rfl B 22 i1 (.slice none 0 0) 24 Try.underlying31 hi1 hy0 hy1 hy2 rfl (.slice au n cu) n ((List.range n).map V) rfl (H.out.lists.row.alloc _) _ [.slice av X.length cv] rfl (reads_built w #[.slice av X.length cv] _ 1 rfl) (by intro u hu; simp at hu; subst hu; rfl) (by unfold maxLen; simp; omega) (by simp; omega) (by simp; omega) ?_; intro u1 w1 hown1 hgrow1 hat1 hold1; obtain ⟨a1, k1, rfl⟩ := ownsRow_slice hown1; obtain ⟨hk1, hM, hv2, hb1, hu1⟩ := bookI_step1 H.out HV.out hvo hgrow1 hown1 hat1 hB; have d2 : w1.cell? ⟨p, 0, none⟩ = some (.slice au n cu) := hk1.cell 0; have f2 := book_free hk1 0; have m1 : True := trivial; have HM := hid hM; have HV2 := hid hv2; have HB1 := hid hb1; have hsz2 := hid hb1.size; have HU1 := hid hu1; clear hu1 hM hv2 hb1 hold1 hgrow1 hat1 hown1)
  generalize w1.setCell ⟨p, 0, none⟩ (.slice a1 (n + 1) k1) = W2 at *
  have hMd := hid (HM.out.below (w' := W2.drew) (Below.drew (Below.refl _ _)))
  have hRd : Hid (Reads W2.drew (.slice av X.length cv) (nats X)) := ownsRow_reads HV2.out
  have hBd := hid (HB1.out.drew)
  have HB1s : Hid (w.heap.size ≤ W2.drew.heap.size) := hsz2.out
  have hBs := hid (Nat.le_trans hB hBd.out.size)
  have g3 : W2.drew.cell? ⟨p, 1, none⟩ = some (.slice au' n cu') := hMd.out.book.cell 1
  clear d2 f2 hk1 c2 c3
  go_region_law (first
    | (have _h := later; refine step_append_keeps _ (by rfl) (.tmp 24) (.tmp 27) 31 (by rfl) B 22 i1 (.slice none 0 0) 1 24 Try.underlying31 hi1 hy0 hy1 hy2 (by rfl) (by decide) (.slice au' n cu') n ((List.range n).map V') (by simp [Act.eval]) (HM3.out.was.row.alloc _) ⟨w3.heap.size, 0, none⟩ 1 1 [.slice ac X.length cc] (by simp [Act.eval]) (by rfl) (World.news_of_block (heap_alloc_new w3 _)) (by intro u hu; simp at hu; subst hu; rfl) (by decide) (by unfold maxLen; omega) (by omega) (by have := hs3.out; simp; omega) ?_; intro g cap' w4 hown4 hgrow4 hat4 hlt4 hold4; have k4 := bookI_step2 HM3.out HC3.out hfr.out hgrow4 hown4 (hat4.imp (fun e => e.symm) (fun e => congrArg some e)) hs3.out; have d4 : w4.cell? ⟨p, 1, none⟩ = some (.slice au' n cu') := k4.1.cell 1; have f4 := book_free k4.1 1)
    | (go_simp; go_at_call 16; refine (copyInts_any hRd.out (by omega)).mono ?_; rintro e w3 ⟨vc, rfl, hoc, hb3⟩; obtain ⟨ac, cc, rfl⟩ := ownsRow_slice hoc; have hnw := hid (fun g hg => Nat.le_trans HB1s.out (hoc.lt g hg).1); have later : True := trivial; have HM3 := hid (hMd.out.below hb3); have HC3 := hid (ownsRow_lower hoc hBs.out); have hs3 := hid (Nat.le_trans hBs.out hb3.size); have hfr := hid (freshI_off hoc hMd.out.was); have g4 := keeps hb3 _ _ g3; have g5 := fun o => keeps ((Below.refl w3.heap.size w3).alloc (Nat.le_refl _) o) _ _ g4; have hw3 := hid (hBd.out.trans (hb3.mono hBs.out)); have hu3 : Hid (IKeep W2 w3) := (fun k cur hk => (hb3.block k (Array.getElem?_eq_some_iff.1 hk).1).trans hk); clear hoc hb3))
  all_goals refine bodyPost_end (v := .tuple #[]) (by simp [results, Try.results11, go_sem]) rfl ⟨rfl, ⟨_, _, _, k4.2.1, hnw.out⟩, hw3.out.trans k4.2.2.1, fun k cur hk => k4.2.2.2 k cur (hu3.out k cur (HU1.out k cur hk))⟩

theorem IKeep.row {w w' : World} (hk : IKeep w w') {B : Nat} {v : Value} {n : Nat} {xs : List Value} (h : w.ownsRow B 3 1 v n xs) : w'.ownsRow B 3 1 v n xs :=
  ownsRow_same h (fun g hg => by
    obtain ⟨_, cur, hc⟩ := ownsRow_block h g hg
    rw [hk g cur hc, hc])

/-- A book at block p of n lists from block B on; none lies in block G, nor their copies; the lists lie below M. -/
def ShelfG (w : World) (B p G M n : Nat) : Prop := ∃ V V' C u u', BookIn w B p n V V' C u u' ∧ (∀ j, j < n → (C j).length ≤ 50000) ∧ (∀ j, j < n → (V j).ownBlock ≠ some G) ∧ (∀ j, j < n → (V' j).ownBlock ≠ some G) ∧ (∀ j, j < n → ∀ k, (V j).ownBlock = some k → k < M)

theorem ShelfG.below {w w' : World} {B p G M n : Nat} (h : ShelfG w B p G M n) (hb : Below w.heap.size w w') : ShelfG w' B p G M n := by
  obtain ⟨V, V', C, u, u', h1, h2⟩ := h
  exact ⟨V, V', C, u, u', h1.below hb, h2⟩

theorem shelfG_new (w : World) (B G M : Nat) (hB : B ≤ w.heap.size) : ShelfG (w.alloc (.cells #[.slice none 0 0, .slice none 0 0, .slice none 0 0, .slice none 0 0, .slice none 0 0, .slice none 0 0, .slice none 0 0, .slice none 0 0, .slice none 0 0, .slice none 0 0] 37)) B w.heap.size G M 0 :=
  ⟨fun _ => .slice none 0 0, fun _ => .slice none 0 0, fun _ => [], .slice none 0 0, .slice none 0 0, ⟨⟨heap_alloc_new w _, rfl⟩, ⟨World.ownsRow_nil _ _ _ _, fun j hj => by omega, fun i j hi => by omega⟩, ⟨World.ownsRow_nil _ _ _ _, fun j hj => by omega, fun i j hi => by omega⟩, .inl rfl, .inl rfl, hB⟩, fun j hj => by omega, fun j hj => by omega, fun j hj => by omega, fun j hj => by omega⟩

theorem ShelfG.keep {w : World} {B p G M M' n : Nat} (hS : ShelfG w B p G M n) (hn : n < 250) {v : Value} {X : List Int} (hv : w.ownsRow B 3 1 v X.length (nats X)) (hX : X.length ≤ 50000) (hB : B ≤ w.heap.size)
    (hM : M ≤ M') (hvM : ∀ k, v.ownBlock = some k → M ≤ k ∧ k < M' ∧ k ≠ G) (hG : G < w.heap.size) :
    Calls Try.prog 11 #[.pointer (some ⟨p, 0, none⟩), v] w fun e w' => e = .returned (.tuple #[]) ∧ ShelfG w' B p G M' (n + 1) ∧ Below B w w' ∧ IKeep w w' := by
  obtain ⟨V, V', C, u, u', h1, h2, h3, h4, h5⟩ := hS
  refine (keepIntsH_any h1 hn hv hX (fun j hj => ?_) hB).mono ?_
  · cases hb : (V j).ownBlock with
    | none => exact .inl hb
    | some g =>
      right
      rw [hb]
      intro e
      have := h5 j hj g hb
      have := (hvM g e.symm).1
      omega
  · rintro e w' ⟨rfl, ⟨u2, u3, v3, hb, hv3⟩, hbel, huk⟩
    refine ⟨rfl, ⟨_, _, _, _, _, hb, fun j hj => ?_, fun j hj => ?_, fun j hj => ?_, fun j hj k hk => ?_⟩, hbel, huk⟩
    · by_cases e : j = n
      · subst e; rw [put1_at]; exact hX
      · rw [put1_else _ _ _ _ (by omega)]; exact h2 j (by omega)
    · by_cases e : j = n
      · subst e; rw [put1_at]; intro e2; exact (hvM G e2).2.2 rfl
      · rw [put1_else _ _ _ _ (by omega)]; exact h3 j (by omega)
    · by_cases e : j = n
      · subst e; rw [put1_at]; intro e2; have := hv3 G e2; omega
      · rw [put1_else _ _ _ _ (by omega)]; exact h4 j (by omega)
    · by_cases e : j = n
      · subst e; rw [put1_at] at hk; exact (hvM k hk).2.1
      · rw [put1_else _ _ _ _ (by omega)] at hk; have := h5 j (by omega) k hk; omega

/-- What is written in block G, a row of numbers, is nothing to the book. -/
theorem ShelfG.kept {w w' : World} {B p G M n : Nat} (h : ShelfG w B p G M n) {cur : Array Value} (hG : w.heap[G]? = some (.cells cur 3 (0, 0))) (hk : Kept (· = G) w w') : ShelfG w' B p G M n := by
  obtain ⟨V, V', C, u, u', h1, h2, h3, h4, h5⟩ := h
  have hother : ∀ (k : Nat) (cs : Array Value) (t : TypeId), w.heap[k]? = some (.cells cs t (0, 0)) → t ≠ 3 → k ≠ G := by
    rintro k cs t hk2 ht rfl
    rw [hG] at hk2
    injection hk2 with e
    injection e with _ e2 _
    exact ht e2.symm
  have hsame : ∀ k, k < w.heap.size → k ≠ G → w'.heap[k]? = w.heap[k]? := fun k h1 h2 => hk.block k h1 h2
  have hrow : ∀ {v : Value} {m : Nat} {xs : List Value}, w.ownsRow B 22 1 v m xs → w'.ownsRow B 22 1 v m xs := fun h => ownsRow_same h (fun g hg => by
    obtain ⟨_, cs, hc⟩ := ownsRow_block h g hg
    exact hsame g (h.lt g hg).2 (hother g cs _ hc (by decide)))
  have hint : ∀ {v : Value} {m : Nat} {xs : List Value}, w.ownsRow B 3 1 v m xs → v.ownBlock ≠ some G → w'.ownsRow B 3 1 v m xs := fun h hne => ownsRow_same h (fun g hg => hsame g (h.lt g hg).2 (by rintro rfl; exact hne hg))
  refine ⟨V, V', C, u, u', ⟨⟨?_, h1.book.2⟩, ⟨hrow h1.lists.row, fun j hj => hint (h1.lists.each j hj) (h3 j hj), h1.lists.apart⟩, ⟨hrow h1.was.row, fun j hj => hint (h1.was.each j hj) (h4 j hj), h1.was.apart⟩, h1.off, h1.off', h1.low⟩, h2, h3, h4, h5⟩
  rw [hsame p (Array.getElem?_eq_some_iff.1 h1.book.1).1 (hother p _ _ h1.book.1 (by decide))]
  exact h1.book.1

theorem ShelfG.apart {w : World} {B p G M n : Nat} (h : ShelfG w B p G M n) (hn : n ≤ 250) (hB : B ≤ w.heap.size) :
    Calls Try.prog 15 #[.pointer (some ⟨p, 0, none⟩)] w fun e w' => e = .returned (.bool true) ∧ Below B w w' := by
  obtain ⟨V, V', C, u, u', h1, h2, _⟩ := h
  exact apartI_any h1 hn h2 hB
end Go.Proofs.Ytgmfjgiakgoofaa
