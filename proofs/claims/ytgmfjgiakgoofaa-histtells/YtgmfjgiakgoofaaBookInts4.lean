/-
  Contract of package lexiphanebook: one more list of texts for the book.
-/
import Derived.Test.YtgmfjgiakgoofaaBookGen
import Derived.Test.YtgmfjgiakgoofaaBookInts3
import Derived.Test.YtgmfjgiakgoofaaCopyInts

namespace Go.Proofs.Ytgmfjgiakgoofaa
open Go.ChangeShapes Go.WideShapes Go.ChangeAt Go.RowKit

/-- The cells of a book of lists of numbers alone. -/
def bookCellsI (u u' : Value) : Array Value := #[u, u', .slice none 0 0, .slice none 0 0, .slice none 0 0, .slice none 0 0, .slice none 0 0, .slice none 0 0, .slice none 0 0, .slice none 0 0]

/-- A book at block p of n lists of numbers, with copies; all from block B on. -/
structure BookIn (w : World) (B p n : Nat) (V V' : Nat → Value) (C : Nat → List Int) (u u' : Value) : Prop where
  book : BookAt w p (bookCellsI u u')
  lists : ListsI w B u n V C
  was : ListsI w B u' n V' C
  off : Off u u'
  off' : Off u' u
  low : B ≤ p

/-- The book between the two appends. -/
structure BookIm (w : World) (B p n : Nat) (V V' : Nat → Value) (C C' : Nat → List Int) (u u' : Value) : Prop where
  book : BookAt w p (bookCellsI u u')
  lists : ListsI w B u (n + 1) V C'
  was : ListsI w B u' n V' C
  off : Off u u'
  off' : Off u' u
  low : B ≤ p

theorem BookIm.below {w w' : World} {B p n : Nat} {V V' : Nat → Value} {C C' : Nat → List Int} {u u' : Value} (h : BookIm w B p n V V' C C' u u') (hb : Below w.heap.size w w') : BookIm w' B p n V V' C C' u u' :=
  ⟨h.book.below hb, h.lists.below hb, h.was.below hb, h.off, h.off', h.low⟩

/-- Rows of numbers are as they were. -/
def IKeep (w w' : World) : Prop := ∀ (k : Nat) (cur : Array Value), w.heap[k]? = some (.cells cur 3 (0, 0)) → w'.heap[k]? = some (.cells cur 3 (0, 0))

theorem bookI_step1 {w w1 : World} {B p n : Nat} {V V' : Nat → Value} {C : Nat → List Int} {u u' u1 v : Value} {X : List Int} {o : Obj} (h : BookIn w B p n V V' C u u') (hv : w.ownsRow B 3 1 v X.length (nats X)) (hvo : ∀ j, j < n → Off v (V j))
    (hg : (w.alloc o).grownBy w1 u.ownBlock) (hu : w1.ownsRow B 22 1 u1 (n + 1) ((List.range n).map V ++ [v])) (hat : u1.ownBlock = u.ownBlock ∨ u1.ownBlock = some (w.alloc o).heap.size) (hB : B ≤ w.heap.size) :
    BookAt w1 p (bookCellsI u u') ∧ BookIm (w1.setCell ⟨p, 0, none⟩ u1) B p n (put1 n V v) V' C (put1 n C X) u1 u' ∧ (w1.setCell ⟨p, 0, none⟩ u1).ownsRow B 3 1 v X.length (nats X) ∧ Below B w (w1.setCell ⟨p, 0, none⟩ u1) ∧ IKeep w (w1.setCell ⟨p, 0, none⟩ u1) := by
  have hba : Below w.heap.size w (w.alloc o) := (Below.refl _ _).alloc (Nat.le_refl _) _
  have hL := h.lists.below hba
  have hW := h.was.below hba
  have hT := turns_grown hL.row hg
  have hbk : BookAt w1 p (bookCellsI u u') := ⟨hT.cell (by decide) (h.book.below hba).1, h.book.2⟩
  have hTb := turns_book hbk h.low 0 u1
  have hv1 := hT.row (by decide) (ownsRow_below hv hba)
  have hl1 : ListsI w1 B u1 (n + 1) (put1 n V v) (put1 n C X) := by
    have hl0 : ListsI w1 B u1 (n + 1) (put1 n V v) (put1 n C X) := by
      refine ⟨by rw [put1_range]; exact hu, fun j hj => ?_, fun i j hi hj hij => ?_⟩
      · by_cases e : j = n
        · subst e; rw [put1_at, put1_at]; exact hv1
        · rw [put1_else n V v j (by omega), put1_else n C X j (by omega)]; exact hT.row (by decide) (hL.each j (by omega))
      · by_cases e : i = n
        · subst e
          rw [put1_at, put1_else i V v j (by omega)]
          rcases hvo j (by omega) with h1 | h1
          · cases hb : v.ownBlock with
            | none => exact .inl rfl
            | some g => right; rw [h1]; simp
          · right; exact fun e => h1 e.symm
        · by_cases e2 : j = n
          · subst e2
            rw [put1_at, put1_else j V v i (by omega)]
            exact hvo i (by omega)
          · rw [put1_else n V v i (by omega), put1_else n V v j (by omega)]
            exact h.lists.apart i j (by omega) (by omega) hij
    exact hl0
  have hw1 : ListsI w1 B u' n V' C := ⟨hW.row.kept hg h.off, fun j hj => hT.row (by decide) (hW.each j hj), hW.apart⟩
  have hoff : Off u1 u' := off_new h.off hW.row hat
  have hoff' : Off u' u1 := by
    refine off_same h.off' ?_
    rcases hat with hh | hh
    · exact .inl hh
    · exact .inr ⟨_, hh, row_fresh hW.row⟩
  refine ⟨hbk, ⟨?_, hl1.turned hTb (by decide) (by decide), hw1.turned hTb (by decide) (by decide), hoff, hoff', h.low⟩, hTb.row (by decide) hv1, ?_, fun k cur hk => hTb.cell (by decide) (hT.cell (by decide) ((hba.block k (Array.getElem?_eq_some_iff.1 hk).1).trans hk))⟩
  · exact book_set hbk 0 u1
  · exact ((hba.mono hB).trans (hT.below (Nat.le_trans hB hba.size))).trans (hTb.below (Nat.le_trans hB (Nat.le_trans hba.size hg.size)))

theorem bookI_step2 {w w1 : World} {B p n : Nat} {V V' : Nat → Value} {C : Nat → List Int} {u u' u1 v : Value} {X : List Int} {o : Obj} (h : BookIm w B p n V V' C (put1 n C X) u u') (hv : w.ownsRow B 3 1 v X.length (nats X)) (hvo : ∀ j, j < n → Off v (V' j))
    (hg : (w.alloc o).grownBy w1 u'.ownBlock) (hu : w1.ownsRow B 22 1 u1 (n + 1) ((List.range n).map V' ++ [v])) (hat : u1.ownBlock = u'.ownBlock ∨ u1.ownBlock = some (w.alloc o).heap.size) (hB : B ≤ w.heap.size) :
    BookAt w1 p (bookCellsI u u') ∧ BookIn (w1.setCell ⟨p, 1, none⟩ u1) B p (n + 1) V (put1 n V' v) (put1 n C X) u u1 ∧ Below B w (w1.setCell ⟨p, 1, none⟩ u1) ∧ IKeep w (w1.setCell ⟨p, 1, none⟩ u1) := by
  have hba : Below w.heap.size w (w.alloc o) := (Below.refl _ _).alloc (Nat.le_refl _) _
  have hL := h.lists.below hba
  have hW := h.was.below hba
  have hT := turns_grown hW.row hg
  have hbk : BookAt w1 p (bookCellsI u u') := ⟨hT.cell (by decide) (h.book.below hba).1, h.book.2⟩
  have hTb := turns_book hbk h.low 1 u1
  have hv1 := hT.row (by decide) (ownsRow_below hv hba)
  have hl1 : ListsI w1 B u (n + 1) V (put1 n C X) := ⟨hL.row.kept hg h.off', fun j hj => hT.row (by decide) (hL.each j hj), hL.apart⟩
  have hwn : ListsI w1 B u1 (n + 1) (put1 n V' v) (put1 n C X) := by
    refine ⟨by rw [put1_range]; exact hu, fun j hj => ?_, fun i j hi hj hij => ?_⟩
    · by_cases e : j = n
      · subst e; rw [put1_at, put1_at]; exact hv1
      · rw [put1_else n V' v j (by omega), put1_else n C X j (by omega)]; exact hT.row (by decide) (hW.each j (by omega))
    · by_cases e : i = n
      · subst e
        rw [put1_at, put1_else i V' v j (by omega)]
        rcases hvo j (by omega) with h1 | h1
        · cases hb : v.ownBlock with
          | none => exact .inl rfl
          | some g => right; rw [h1]; simp
        · right; exact fun e => h1 e.symm
      · by_cases e2 : j = n
        · subst e2
          rw [put1_at, put1_else j V' v i (by omega)]
          exact hvo i (by omega)
        · rw [put1_else n V' v i (by omega), put1_else n V' v j (by omega)]
          exact h.was.apart i j (by omega) (by omega) hij
  have hoff' : Off u1 u := off_new h.off' hL.row hat
  have hoff : Off u u1 := by
    refine off_same h.off ?_
    rcases hat with hh | hh
    · exact .inl hh
    · exact .inr ⟨_, hh, row_fresh hL.row⟩
  refine ⟨hbk, ⟨?_, hl1.turned hTb (by decide) (by decide), hwn.turned hTb (by decide) (by decide), hoff, hoff', h.low⟩, ?_, fun k cur hk => hTb.cell (by decide) (hT.cell (by decide) ((hba.block k (Array.getElem?_eq_some_iff.1 hk).1).trans hk))⟩
  · exact book_set hbk 1 u1
  · exact ((hba.mono hB).trans (hT.below (Nat.le_trans hB hba.size))).trans (hTb.below (Nat.le_trans hB (Nat.le_trans hba.size hg.size)))

theorem freshI_off {w w3 : World} {B : Nat} {u v : Value} {m n : Nat} {xs : List Value} {V : Nat → Value} {C : Nat → List Int} (hv : w3.ownsRow w.heap.size 3 1 v m xs) (h : ListsI w B u n V C) : ∀ j, j < n → Off v (V j) := by
  intro j hj
  cases hb : (V j).ownBlock with
  | none => exact .inl hb
  | some g =>
    right
    rw [hb]
    intro e
    have h1 := (hv.lt g e.symm).1
    have h2 := ((h.each j hj).lt g hb).2
    omega

set_option maxRecDepth 20000 in
set_option maxHeartbeats 2000000 in
theorem keepInts_any {w : World} {B p n : Nat} {V V' : Nat → Value} {C : Nat → List Int} {u u' v : Value} {X : List Int} (h : BookIn w B p n V V' C u u') (hn : n < 250) (hv : w.ownsRow B 3 1 v X.length (nats X)) (hX : X.length ≤ 50000) (hvo : ∀ j, j < n → Off v (V j)) (hB : B ≤ w.heap.size) :
    Calls Try.prog 11 #[.pointer (some ⟨p, 0, none⟩), v] w fun e w' => e = .returned (.tuple #[]) ∧
      (∃ u2 u3 V3, BookIn w' B p (n + 1) (put1 n V v) V3 (put1 n C X) u2 u3) ∧ Below B w w' ∧ IKeep w w' := by
  obtain ⟨au, cu, rfl⟩ := ownsRow_slice h.lists.row
  obtain ⟨au', cu', rfl⟩ := ownsRow_slice h.was.row
  obtain ⟨av, cv, rfl⟩ := ownsRow_slice hv
  have H := hid h
  have HV := hid hv
  have c2 := h.book.cell 0
  have c3 := h.book.cell 1
  have e2 : (bookCellsI (.slice au n cu) (.slice au' n cu'))[0]? = some (.slice au n cu) := rfl
  have e3 : (bookCellsI (.slice au n cu) (.slice au' n cu'))[1]? = some (.slice au' n cu') := rfl
  rw [e2] at c2
  rw [e3] at c3
  clear h hv e2 e3
  obtain ⟨i1, hi1, hy0, hy1, hy2⟩ := info_parts Try.infoInts
  go_enter Try.func11, Try.ntmps11
  go_wp2_with (at_builtin; refine wpList_append_reads _ rfl (.tmp 14) (.tmp 16) 31 rfl B 22 i1 (.slice none 0 0) 24 Try.underlying31 hi1 hy0 hy1 hy2 rfl (.slice au n cu) n ((List.range n).map V) rfl (H.out.lists.row.alloc _) _ [.slice av X.length cv] rfl (reads_built w #[.slice av X.length cv] _ 1 rfl) (by intro u hu; simp at hu; subst hu; rfl) (by unfold maxLen; simp; omega) (by simp; omega) (by simp; omega) ?_; intro u1 w1 hown1 hgrow1 hat1 hold1; obtain ⟨a1, k1, rfl⟩ := ownsRow_slice hown1; obtain ⟨hk1, hM, hv2, hb1, hu1⟩ := bookI_step1 H.out HV.out hvo hgrow1 hown1 hat1 hB; have d2 : w1.cell? ⟨p, 0, none⟩ = some (.slice au n cu) := hk1.cell 0; have f2 := book_free hk1 0; have m1 : True := trivial; have HM := hid hM; have HV2 := hid hv2; have HB1 := hid hb1; have HU1 := hid hu1; clear hu1 hM hv2 hb1 hold1 hgrow1 hat1 hown1)
  generalize w1.setCell ⟨p, 0, none⟩ (.slice a1 (n + 1) k1) = W2 at *
  have hMd := hid (HM.out.below (w' := W2.drew) (Below.drew (Below.refl _ _)))
  have hRd : Hid (Reads W2.drew (.slice av X.length cv) (nats X)) := ownsRow_reads HV2.out
  have hBd := hid (HB1.out.drew)
  have hBs := hid (Nat.le_trans hB hBd.out.size)
  have g3 : W2.drew.cell? ⟨p, 1, none⟩ = some (.slice au' n cu') := hMd.out.book.cell 1
  clear d2 f2 hk1 c2 c3
  go_region_law (first
    | (have _h := later; refine step_append_keeps _ (by rfl) (.tmp 24) (.tmp 27) 31 (by rfl) B 22 i1 (.slice none 0 0) 1 24 Try.underlying31 hi1 hy0 hy1 hy2 (by rfl) (by decide) (.slice au' n cu') n ((List.range n).map V') (by simp [Act.eval]) (HM3.out.was.row.alloc _) ⟨w3.heap.size, 0, none⟩ 1 1 [.slice ac X.length cc] (by simp [Act.eval]) (by rfl) (World.news_of_block (heap_alloc_new w3 _)) (by intro u hu; simp at hu; subst hu; rfl) (by decide) (by unfold maxLen; omega) (by omega) (by have := hs3.out; simp; omega) ?_; intro g cap' w4 hown4 hgrow4 hat4 hlt4 hold4; have k4 := bookI_step2 HM3.out HC3.out hfr.out hgrow4 hown4 (hat4.imp (fun e => e.symm) (fun e => congrArg some e)) hs3.out; have d4 : w4.cell? ⟨p, 1, none⟩ = some (.slice au' n cu') := k4.1.cell 1; have f4 := book_free k4.1 1)
    | (go_simp; go_at_call 16; refine (copyInts_any hRd.out (by omega)).mono ?_; rintro e w3 ⟨vc, rfl, hoc, hb3⟩; obtain ⟨ac, cc, rfl⟩ := ownsRow_slice hoc; have later : True := trivial; have HM3 := hid (hMd.out.below hb3); have HC3 := hid (ownsRow_lower hoc hBs.out); have hs3 := hid (Nat.le_trans hBs.out hb3.size); have hfr := hid (freshI_off hoc hMd.out.was); have g4 := keeps hb3 _ _ g3; have g5 := fun o => keeps ((Below.refl w3.heap.size w3).alloc (Nat.le_refl _) o) _ _ g4; have hw3 := hid (hBd.out.trans (hb3.mono hBs.out)); have hu3 : Hid (IKeep W2 w3) := (fun k cur hk => (hb3.block k (Array.getElem?_eq_some_iff.1 hk).1).trans hk); clear hoc hb3))
  all_goals refine bodyPost_end (v := .tuple #[]) (by simp [results, Try.results11, go_sem]) rfl ⟨rfl, ⟨_, _, _, k4.2.1⟩, hw3.out.trans k4.2.2.1, fun k cur hk => k4.2.2.2 k cur (hu3.out k cur (HU1.out k cur hk))⟩
end Go.Proofs.Ytgmfjgiakgoofaa
