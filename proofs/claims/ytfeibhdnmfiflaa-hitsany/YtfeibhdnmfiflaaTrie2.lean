/-
  The rows of a tree of beginnings: what they are after a node more, a byte more, a son more.
-/
import Derived.Test.YtfeibhdnmfiflaaTrie1
namespace Go.Proofs.Ytfeibhdnmfiflaa
open Go.ChangeShapes Go.WideShapes Go.ChangeAt Go.RowKit

/-- Rows of two types lie in two blocks. -/
theorem kind_ne {w : World} {a b : Nat} {ca cb : Array Value} {ta tb : TypeId} {fa fb : Nat × Nat} (ha : w.heap[a]? = some (.cells ca ta fa)) (hb : w.heap[b]? = some (.cells cb tb fb)) (ht : ta ≠ tb) : a ≠ b := by
  rintro rfl
  rw [ha] at hb
  injection hb with hb
  injection hb with _ hb
  exact ht hb

/-- One place of a list of values is another. -/
def upd {α : Type} (f : Nat → α) (j : Nat) (v : α) : Nat → α := fun i => if i = j then v else f i
theorem upd_same {α : Type} (f : Nat → α) (j : Nat) (v : α) : upd f j v j = v := by simp [upd]
theorem upd_other {α : Type} (f : Nat → α) {j i : Nat} (v : α) (h : i ≠ j) : upd f j v i = f i := by simp [upd, h]

/-- Nothing below B has turned, and no row of texts. -/
structure Grew (B : Nat) (w w' : World) : Prop where
  below : Below B w w'
  strs : ∀ (k : Nat) (cur : Array Value), w.heap[k]? = some (.cells cur 9 (0, 0)) → w'.heap[k]? = some (.cells cur 9 (0, 0))

theorem Grew.trans {B : Nat} {a b c : World} (h : Grew B a b) (k : Grew B b c) : Grew B a c := ⟨h.below.trans k.below, fun i cur hi => k.strs i cur (h.strs i cur hi)⟩
theorem Grew.refl (B : Nat) (w : World) : Grew B w w := ⟨Below.refl _ _, fun _ _ h => h⟩
theorem grew_below {B : Nat} {w w' : World} (h : Below w.heap.size w w') (hB : B ≤ w.heap.size) : Grew B w w' :=
  ⟨h.mono hB, fun k _ hk => (h.block k (Array.getElem?_eq_some_iff.1 hk).1).trans hk⟩

theorem grew_grown {B : Nat} {w w' : World} {row : Option Nat} {t : TypeId} (hg : w.grownBy w' row) (hB : B ≤ w.heap.size) (hr : ∀ g, row = some g → B ≤ g ∧ ∃ cur, w.heap[g]? = some (.cells cur t (0, 0))) (ht : t ≠ 9) : Grew B w w' := by
  refine ⟨⟨hg.os, hg.tape, hg.output, hg.size, fun k hk => hg.block k (by omega) (fun e => by have := (hr k e.symm).1; omega)⟩, fun k cur hk => ?_⟩
  refine (hg.block k (Array.getElem?_eq_some_iff.1 hk).1 (fun e => ?_)).trans hk
  obtain ⟨_, cur2, h2⟩ := hr k e.symm
  exact kind_ne h2 hk ht rfl

theorem grew_set {B : Nat} {w : World} {p o : Nat} {v : Value} {cur : Array Value} {t : TypeId} (hp : w.heap[p]? = some (.cells cur t (0, 0))) (hB : B ≤ p) (ht : t ≠ 9) : Grew B w (w.setCell ⟨p, o, none⟩ v) := by
  refine ⟨⟨rfl, rfl, rfl, by simp [World.setCell], fun k hk => heap_setCell_other w _ k v (by show k ≠ p; omega)⟩, fun k cur2 hk => ?_⟩
  exact (heap_setCell_other w _ k v (by show k ≠ p; exact fun e => kind_ne hp hk ht e.symm)).trans hk

/-- The rows of n nodes: by which bytes each goes on, and to which. -/
structure Trows (w : World) (B p n : Nat) (vn : Value) (xs : List Value) (vb vs : Nat → Value) (bl sl : Nat → List Nat) : Prop where
  ptr : w.heap[p]? = some (.cells #[vn] 85 (0, 0))
  low : B ≤ p
  row : w.ownsRow B 82 4 vn n xs
  by_ : ∀ j, j < n → xs[j * 4 + 2]? = some (vb j)
  sons_ : ∀ j, j < n → xs[j * 4 + 3]? = some (vs j)
  bys : ∀ j, j < n → w.ownsRow B 5 1 (vb j) (bl j).length (octs (bl j))
  sns : ∀ j, j < n → w.ownsRow B 3 1 (vs j) (sl j).length (numsI (sl j))
  apartB : ∀ i j g, i < n → j < n → (vb i).ownBlock = some g → (vb j).ownBlock = some g → i = j
  apartS : ∀ i j g, i < n → j < n → (vs i).ownBlock = some g → (vs j).ownBlock = some g → i = j

theorem Trows.same {w w' : World} {B p n : Nat} {vn : Value} {xs : List Value} {vb vs : Nat → Value} {bl sl : Nat → List Nat} (h : Trows w B p n vn xs vb vs bl sl) (hs : ∀ k, k < w.heap.size → w'.heap[k]? = w.heap[k]?) : Trows w' B p n vn xs vb vs bl sl where
  ptr := (hs p (Array.getElem?_eq_some_iff.1 h.ptr).1).trans h.ptr
  low := h.low
  row := ownsRow_same h.row (fun g hg => hs g (h.row.lt g hg).2)
  by_ := h.by_
  sons_ := h.sons_
  bys := fun j x => ownsRow_same (h.bys j x) (fun g hg => hs g ((h.bys j x).lt g hg).2)
  sns := fun j x => ownsRow_same (h.sns j x) (fun g hg => hs g ((h.sns j x).lt g hg).2)
  apartB := h.apartB
  apartS := h.apartS

theorem Trows.below {w w' : World} {B p n : Nat} {vn : Value} {xs : List Value} {vb vs : Nat → Value} {bl sl : Nat → List Nat} (h : Trows w B p n vn xs vb vs bl sl) (hb : Below w.heap.size w w') : Trows w' B p n vn xs vb vs bl sl := h.same hb.block

theorem TrieIs.rows {w : World} {B p : Nat} {A : List (List Nat)} {wd : List Nat → Int} {vn : Value} {xs : List Value} {vb vs : Nat → Value} (h : TrieIs w B p A wd vn xs vb vs) : Trows w B p A.length vn xs vb vs (fun j => byOf A (A.getD j [])) (fun j => sonsOf A (A.getD j [])) where
  ptr := h.ptr
  low := h.low
  row := h.row
  by_ := h.by_
  sons_ := h.sons_
  bys := fun j hj => h.bys j _ (by rw [List.getD_eq_getElem?_getD, List.getElem?_eq_getElem hj]; rfl)
  sns := fun j hj => h.sns j _ (by rw [List.getD_eq_getElem?_getD, List.getElem?_eq_getElem hj]; rfl)
  apartB := h.apartB
  apartS := h.apartS

section
variable {w w1 : World} {B p n : Nat} {vn : Value} {xs : List Value} {vb vs : Nat → Value} {bl sl : Nat → List Nat}

theorem Trows.ptr_lt (h : Trows w B p n vn xs vb vs bl sl) : p < w.heap.size := (Array.getElem?_eq_some_iff.1 h.ptr).1
theorem Trows.told (h : Trows w B p n vn xs vb vs bl sl) : w.cell? ⟨p, 0, none⟩ = some vn := by simp [World.cell?, h.ptr]
theorem Trows.free (h : Trows w B p n vn xs vb vs bl sl) : w.frozen? ⟨p, 0, none⟩ = false := by simp [World.frozen?, h.ptr]

/-- A block of another kind than the nodes' is not theirs. -/
theorem Trows.row_ne (h : Trows w B p n vn xs vb vs bl sl) {k : Nat} {cur : Array Value} {t : TypeId} (hk : w.heap[k]? = some (.cells cur t (0, 0))) (ht : t ≠ 82) : some k ≠ vn.ownBlock := by
  intro e
  obtain ⟨_, cur2, h2⟩ := ownsRow_block h.row k e.symm
  exact kind_ne hk h2 ht rfl
theorem Trows.ptr_ne (h : Trows w B p n vn xs vb vs bl sl) {k : Nat} {cur : Array Value} {t : TypeId} (hk : w.heap[k]? = some (.cells cur t (0, 0))) (ht : t ≠ 85) : k ≠ p := kind_ne hk h.ptr ht

/-- A node more. -/
theorem Trows.grown (h : Trows w B p n vn xs vb vs bl sl) {g2 cap2 : Nat} {news : List Value} (hn2 : news[2]? = some (.slice none 0 0)) (hn3 : news[3]? = some (.slice none 0 0))
    (hown : w1.ownsRow B 82 4 (.slice (some ⟨g2, 0, none⟩) (n + 1) cap2) (n + 1) (xs ++ news)) (hgrow : w.grownBy w1 vn.ownBlock) (hat : vn.ownBlock = some g2 ∨ g2 = w.heap.size) (hB : B ≤ w.heap.size) :
    Trows (w1.setCell ⟨p, 0, none⟩ (.slice (some ⟨g2, 0, none⟩) (n + 1) cap2)) B p (n + 1) (.slice (some ⟨g2, 0, none⟩) (n + 1) cap2) (xs ++ news) (upd vb n (.slice none 0 0)) (upd vs n (.slice none 0 0)) (upd bl n []) (upd sl n []) ∧ w1.cell? ⟨p, 0, none⟩ = some vn ∧ w1.frozen? ⟨p, 0, none⟩ = false ∧ Grew B w (w1.setCell ⟨p, 0, none⟩ (.slice (some ⟨g2, 0, none⟩) (n + 1) cap2)) := by
  have hxl : xs.length = n * 4 := h.row.1
  have hp1 : w1.heap[p]? = some (.cells #[vn] 85 (0, 0)) := (hgrow.block p h.ptr_lt (h.row_ne h.ptr (by decide))).trans h.ptr
  have hg2p : g2 ≠ p := by
    rcases hat with e | e
    · exact fun e2 => h.row_ne h.ptr (by decide) (by rw [e, e2])
    · have := h.ptr_lt; omega
  have keepB : ∀ j, j < n → w1.ownsRow B 5 1 (vb j) (bl j).length (octs (bl j)) := fun j hj => ownsRow_same (h.bys j hj) (fun g hg => by
    obtain ⟨_, cur, hc⟩ := ownsRow_block (h.bys j hj) g hg
    exact hgrow.block g ((h.bys j hj).lt g hg).2 (h.row_ne hc (by decide)))
  have keepS : ∀ j, j < n → w1.ownsRow B 3 1 (vs j) (sl j).length (numsI (sl j)) := fun j hj => ownsRow_same (h.sns j hj) (fun g hg => by
    obtain ⟨_, cur, hc⟩ := ownsRow_block (h.sns j hj) g hg
    exact hgrow.block g ((h.sns j hj).lt g hg).2 (h.row_ne hc (by decide)))
  refine ⟨⟨?_, h.low, ?_, ?_, ?_, ?_, ?_, ?_, ?_⟩, by simp [World.cell?, hp1], by simp [World.frozen?, hp1], (grew_grown hgrow hB (ownsRow_block h.row) (by decide)).trans (grew_set hp1 h.low (by decide))⟩
  · simp only [World.setCell, Array.getElem?_modify, hp1]
    simp
  · exact ownsRow_same hown (fun g hg => heap_setCell_other w1 _ g _ (by simp [Value.ownBlock] at hg; show g ≠ p; omega))
  · intro j hj
    by_cases e : j = n
    · subst e
      rw [upd_same, List.getElem?_append_right (by omega), show j * 4 + 2 - xs.length = 2 by omega, hn2]
    · rw [upd_other _ _ e, List.getElem?_append_left (by omega)]
      exact h.by_ j (by omega)
  · intro j hj
    by_cases e : j = n
    · subst e
      rw [upd_same, List.getElem?_append_right (by omega), show j * 4 + 3 - xs.length = 3 by omega, hn3]
    · rw [upd_other _ _ e, List.getElem?_append_left (by omega)]
      exact h.sons_ j (by omega)
  · intro j hj
    by_cases e : j = n
    · subst e
      rw [upd_same, upd_same]
      exact World.ownsRow_nil _ _ _ _
    · rw [upd_other _ _ e, upd_other _ _ e]
      refine ownsRow_same (keepB j (by omega)) (fun g hg => heap_setCell_other w1 _ g _ ?_)
      obtain ⟨_, cur, hc⟩ := ownsRow_block (keepB j (by omega)) g hg
      exact kind_ne hc hp1 (by decide)
  · intro j hj
    by_cases e : j = n
    · subst e
      rw [upd_same, upd_same]
      exact World.ownsRow_nil _ _ _ _
    · rw [upd_other _ _ e, upd_other _ _ e]
      refine ownsRow_same (keepS j (by omega)) (fun g hg => heap_setCell_other w1 _ g _ ?_)
      obtain ⟨_, cur, hc⟩ := ownsRow_block (keepS j (by omega)) g hg
      exact kind_ne hc hp1 (by decide)
  · intro i j g hi hj h1 h2
    by_cases e1 : i = n
    · subst e1; rw [upd_same] at h1; cases h1
    · by_cases e2 : j = n
      · subst e2; rw [upd_same] at h2; cases h2
      · rw [upd_other _ _ e1] at h1
        rw [upd_other _ _ e2] at h2
        exact h.apartB i j g (by omega) (by omega) h1 h2
  · intro i j g hi hj h1 h2
    by_cases e1 : i = n
    · subst e1; rw [upd_same] at h1; cases h1
    · by_cases e2 : j = n
      · subst e2; rw [upd_same] at h2; cases h2
      · rw [upd_other _ _ e1] at h1
        rw [upd_other _ _ e2] at h2
        exact h.apartS i j g (by omega) (by omega) h1 h2
end

section
variable {w w1 : World} {B p n g cap : Nat} {xs : List Value} {vb vs : Nat → Value} {bl sl : Nat → List Nat}

/-- A byte more at a node. -/
theorem Trows.moreB (h : Trows w B p n (.slice (some ⟨g, 0, none⟩) n cap) xs vb vs bl sl) {j : Nat} (hj : j < n) {nv : Value} {l : List Nat} (hown : w1.ownsRow B 5 1 nv l.length (octs l)) (hgrow : w.grownBy w1 (vb j).ownBlock) (hat : nv.ownBlock = (vb j).ownBlock ∨ nv.ownBlock = some w.heap.size) (hB : B ≤ w.heap.size) :
    Trows (w1.setCell ⟨g, j * 4 + 2, none⟩ nv) B p n (.slice (some ⟨g, 0, none⟩) n cap) (xs.set (j * 4 + 2) nv) (upd vb j nv) vs (upd bl j l) sl ∧ w1.cell? ⟨g, j * 4 + 2, none⟩ = some (vb j) ∧ w1.frozen? ⟨g, j * 4 + 2, none⟩ = false ∧ Grew B w (w1.setCell ⟨g, j * 4 + 2, none⟩ nv) := by
  have hxl : xs.length = n * 4 := h.row.1
  obtain ⟨hBg, curg, hg⟩ := ownsRow_block h.row g rfl
  have hvj := ownsRow_block (h.bys j hj)
  have keep : ∀ (k : Nat) (cur : Array Value) (t : TypeId), w.heap[k]? = some (.cells cur t (0, 0)) → t ≠ 5 → w1.heap[k]? = some (.cells cur t (0, 0)) := fun k cur t hk ht => by
    refine (hgrow.block k (Array.getElem?_eq_some_iff.1 hk).1 (fun e => ?_)).trans hk
    obtain ⟨_, c2, h2⟩ := hvj k e.symm
    exact kind_ne hk h2 ht rfl
  have hg1 := keep g curg _ hg (by decide)
  have hp1 := keep p _ _ h.ptr (by decide)
  have row1 : w1.ownsRow B 82 4 (.slice (some ⟨g, 0, none⟩) n cap) n xs := ownsRow_same h.row (fun k hk => by
    simp [Value.ownBlock] at hk; subst hk; rw [hg1, hg])
  have keepB : ∀ i, i < n → i ≠ j → w1.ownsRow B 5 1 (vb i) (bl i).length (octs (bl i)) := fun i hi hij => ownsRow_same (h.bys i hi) (fun k hk =>
    hgrow.block k ((h.bys i hi).lt k hk).2 (fun e => hij (h.apartB i j k hi hj hk e.symm)))
  have keepS : ∀ i, i < n → w1.ownsRow B 3 1 (vs i) (sl i).length (numsI (sl i)) := fun i hi => ownsRow_same (h.sns i hi) (fun k hk => by
    obtain ⟨_, cur, hc⟩ := ownsRow_block (h.sns i hi) k hk
    rw [keep k cur _ hc (by decide), hc])
  have hnew : ∀ i k, i < n → i ≠ j → (vb i).ownBlock = some k → nv.ownBlock ≠ some k := fun i k hi hij hk e => by
    rcases hat with h1 | h1
    · exact hij (h.apartB i j k hi hj hk (by rw [← h1, e]))
    · rw [h1] at e
      injection e with e
      have := ((h.bys i hi).lt k hk).2
      omega
  have r1 : (w1.setCell ⟨g, j * 4 + 2, none⟩ nv).heap[p]? = some (.cells #[.slice (some ⟨g, 0, none⟩) n cap] 85 (0, 0)) := (heap_setCell_other w1 _ p _ (kind_ne hp1 hg1 (by decide))).trans hp1
  have r2 : ∀ i, i < n → (xs.set (j * 4 + 2) nv)[i * 4 + 2]? = some (upd vb j nv i) := by
    intro i hi
    by_cases e : i = j
    · subst e
      rw [upd_same, List.getElem?_set_self (by omega)]
    · rw [upd_other _ _ e, List.getElem?_set_ne (by omega)]
      exact h.by_ i hi
  have r3 : ∀ i, i < n → (xs.set (j * 4 + 2) nv)[i * 4 + 3]? = some (vs i) := by
    intro i hi
    rw [List.getElem?_set_ne (by omega)]
    exact h.sons_ i hi
  have r4 : ∀ i, i < n → (w1.setCell ⟨g, j * 4 + 2, none⟩ nv).ownsRow B 5 1 (upd vb j nv i) (upd bl j l i).length (octs (upd bl j l i)) := by
    intro i hi
    by_cases e : i = j
    · subst e
      rw [upd_same, upd_same]
      refine ownsRow_same hown (fun k hk => heap_setCell_other w1 _ k _ ?_)
      obtain ⟨_, cur, hc⟩ := ownsRow_block hown k hk
      exact kind_ne hc hg1 (by decide)
    · rw [upd_other _ _ e, upd_other _ _ e]
      refine ownsRow_same (keepB i hi e) (fun k hk => heap_setCell_other w1 _ k _ ?_)
      obtain ⟨_, cur, hc⟩ := ownsRow_block (keepB i hi e) k hk
      exact kind_ne hc hg1 (by decide)
  have r5 : ∀ i, i < n → (w1.setCell ⟨g, j * 4 + 2, none⟩ nv).ownsRow B 3 1 (vs i) (sl i).length (numsI (sl i)) := by
    intro i hi
    refine ownsRow_same (keepS i hi) (fun k hk => heap_setCell_other w1 _ k _ ?_)
    obtain ⟨_, cur, hc⟩ := ownsRow_block (keepS i hi) k hk
    exact kind_ne hc hg1 (by decide)
  have r6 : ∀ a b k, a < n → b < n → (upd vb j nv a).ownBlock = some k → (upd vb j nv b).ownBlock = some k → a = b := by
    intro a b k ha hb h1 h2
    by_cases e1 : a = j
    · by_cases e2 : b = j
      · rw [e1, e2]
      · rw [e1, upd_same] at h1
        rw [upd_other _ _ e2] at h2
        exact absurd h1 (hnew b k hb e2 h2)
    · by_cases e2 : b = j
      · rw [e2, upd_same] at h2
        rw [upd_other _ _ e1] at h1
        exact absurd h2 (hnew a k ha e1 h1)
      · rw [upd_other _ _ e1] at h1
        rw [upd_other _ _ e2] at h2
        exact h.apartB a b k ha hb h1 h2
  exact ⟨{ ptr := r1, low := h.low, row := (World.ownsRow.stored row1 _ _).1, by_ := r2, sons_ := r3, bys := r4, sns := r5, apartB := r6, apartS := h.apartS }, by rw [World.ownsRow.cellAt row1 _ (by omega)]; exact h.by_ j hj, World.ownsRow.frozenAt row1 _, (grew_grown hgrow hB hvj (by decide)).trans (grew_set hg1 hBg (by decide))⟩

/-- A son more at a node. -/
theorem Trows.moreS (h : Trows w B p n (.slice (some ⟨g, 0, none⟩) n cap) xs vb vs bl sl) {j : Nat} (hj : j < n) {nv : Value} {l : List Nat} (hown : w1.ownsRow B 3 1 nv l.length (numsI l)) (hgrow : w.grownBy w1 (vs j).ownBlock) (hat : nv.ownBlock = (vs j).ownBlock ∨ nv.ownBlock = some w.heap.size) (hB : B ≤ w.heap.size) :
    Trows (w1.setCell ⟨g, j * 4 + 3, none⟩ nv) B p n (.slice (some ⟨g, 0, none⟩) n cap) (xs.set (j * 4 + 3) nv) vb (upd vs j nv) bl (upd sl j l) ∧ w1.cell? ⟨g, j * 4 + 3, none⟩ = some (vs j) ∧ w1.frozen? ⟨g, j * 4 + 3, none⟩ = false ∧ Grew B w (w1.setCell ⟨g, j * 4 + 3, none⟩ nv) := by
  have hxl : xs.length = n * 4 := h.row.1
  obtain ⟨hBg, curg, hg⟩ := ownsRow_block h.row g rfl
  have hvj := ownsRow_block (h.sns j hj)
  have keep : ∀ (k : Nat) (cur : Array Value) (t : TypeId), w.heap[k]? = some (.cells cur t (0, 0)) → t ≠ 3 → w1.heap[k]? = some (.cells cur t (0, 0)) := fun k cur t hk ht => by
    refine (hgrow.block k (Array.getElem?_eq_some_iff.1 hk).1 (fun e => ?_)).trans hk
    obtain ⟨_, c2, h2⟩ := hvj k e.symm
    exact kind_ne hk h2 ht rfl
  have hg1 := keep g curg _ hg (by decide)
  have hp1 := keep p _ _ h.ptr (by decide)
  have row1 : w1.ownsRow B 82 4 (.slice (some ⟨g, 0, none⟩) n cap) n xs := ownsRow_same h.row (fun k hk => by
    simp [Value.ownBlock] at hk; subst hk; rw [hg1, hg])
  have keepS : ∀ i, i < n → i ≠ j → w1.ownsRow B 3 1 (vs i) (sl i).length (numsI (sl i)) := fun i hi hij => ownsRow_same (h.sns i hi) (fun k hk =>
    hgrow.block k ((h.sns i hi).lt k hk).2 (fun e => hij (h.apartS i j k hi hj hk e.symm)))
  have keepB : ∀ i, i < n → w1.ownsRow B 5 1 (vb i) (bl i).length (octs (bl i)) := fun i hi => ownsRow_same (h.bys i hi) (fun k hk => by
    obtain ⟨_, cur, hc⟩ := ownsRow_block (h.bys i hi) k hk
    rw [keep k cur _ hc (by decide), hc])
  have hnew : ∀ i k, i < n → i ≠ j → (vs i).ownBlock = some k → nv.ownBlock ≠ some k := fun i k hi hij hk e => by
    rcases hat with h1 | h1
    · exact hij (h.apartS i j k hi hj hk (by rw [← h1, e]))
    · rw [h1] at e
      injection e with e
      have := ((h.sns i hi).lt k hk).2
      omega
  have r1 : (w1.setCell ⟨g, j * 4 + 3, none⟩ nv).heap[p]? = some (.cells #[.slice (some ⟨g, 0, none⟩) n cap] 85 (0, 0)) := (heap_setCell_other w1 _ p _ (kind_ne hp1 hg1 (by decide))).trans hp1
  have r2 : ∀ i, i < n → (xs.set (j * 4 + 3) nv)[i * 4 + 3]? = some (upd vs j nv i) := by
    intro i hi
    by_cases e : i = j
    · subst e
      rw [upd_same, List.getElem?_set_self (by omega)]
    · rw [upd_other _ _ e, List.getElem?_set_ne (by omega)]
      exact h.sons_ i hi
  have r3 : ∀ i, i < n → (xs.set (j * 4 + 3) nv)[i * 4 + 2]? = some (vb i) := by
    intro i hi
    rw [List.getElem?_set_ne (by omega)]
    exact h.by_ i hi
  have r4 : ∀ i, i < n → (w1.setCell ⟨g, j * 4 + 3, none⟩ nv).ownsRow B 3 1 (upd vs j nv i) (upd sl j l i).length (numsI (upd sl j l i)) := by
    intro i hi
    by_cases e : i = j
    · subst e
      rw [upd_same, upd_same]
      refine ownsRow_same hown (fun k hk => heap_setCell_other w1 _ k _ ?_)
      obtain ⟨_, cur, hc⟩ := ownsRow_block hown k hk
      exact kind_ne hc hg1 (by decide)
    · rw [upd_other _ _ e, upd_other _ _ e]
      refine ownsRow_same (keepS i hi e) (fun k hk => heap_setCell_other w1 _ k _ ?_)
      obtain ⟨_, cur, hc⟩ := ownsRow_block (keepS i hi e) k hk
      exact kind_ne hc hg1 (by decide)
  have r5 : ∀ i, i < n → (w1.setCell ⟨g, j * 4 + 3, none⟩ nv).ownsRow B 5 1 (vb i) (bl i).length (octs (bl i)) := by
    intro i hi
    refine ownsRow_same (keepB i hi) (fun k hk => heap_setCell_other w1 _ k _ ?_)
    obtain ⟨_, cur, hc⟩ := ownsRow_block (keepB i hi) k hk
    exact kind_ne hc hg1 (by decide)
  have r6 : ∀ a b k, a < n → b < n → (upd vs j nv a).ownBlock = some k → (upd vs j nv b).ownBlock = some k → a = b := by
    intro a b k ha hb h1 h2
    by_cases e1 : a = j
    · by_cases e2 : b = j
      · rw [e1, e2]
      · rw [e1, upd_same] at h1
        rw [upd_other _ _ e2] at h2
        exact absurd h1 (hnew b k hb e2 h2)
    · by_cases e2 : b = j
      · rw [e2, upd_same] at h2
        rw [upd_other _ _ e1] at h1
        exact absurd h2 (hnew a k ha e1 h1)
      · rw [upd_other _ _ e1] at h1
        rw [upd_other _ _ e2] at h2
        exact h.apartS a b k ha hb h1 h2
  exact ⟨{ ptr := r1, low := h.low, row := (World.ownsRow.stored row1 _ _).1, sons_ := r2, by_ := r3, sns := r4, bys := r5, apartS := r6, apartB := h.apartB }, by rw [World.ownsRow.cellAt row1 _ (by omega)]; exact h.sons_ j hj, World.ownsRow.frozenAt row1 _, (grew_grown hgrow hB hvj (by decide)).trans (grew_set hg1 hBg (by decide))⟩
end
end Go.Proofs.Ytfeibhdnmfiflaa
