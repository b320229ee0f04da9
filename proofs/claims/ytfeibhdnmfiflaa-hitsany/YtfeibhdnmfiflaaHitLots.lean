/-
  Rows of numbers, one for each place, in a row of the call's own; what they are when hits are sorted into them. 
-/
import Derived.Test.YtfeibhdnmfiflaaHitPieces
namespace Go.Proofs.Ytfeibhdnmfiflaa
open Go.ChangeShapes Go.WideShapes Go.ChangeAt Go.RowKit

/-- A function with another answer at one place. -/
def put2 {α : Type} (f : Nat → α) (i : Nat) (x : α) : Nat → α := fun k => if k = i then x else f k
theorem put2_at {α : Type} (f : Nat → α) (i : Nat) (x : α) : put2 f i x i = x := by simp [put2]
theorem put2_else {α : Type} (f : Nat → α) (i : Nat) (x : α) {k : Nat} (h : k ≠ i) : put2 f i x k = f k := by simp [put2, h]

/-- Rows of numbers, one for each of n places, in a row at block g; the rows all from block B on. -/
structure Lots (w : World) (B g n : Nat) (V : Nat → Value) (C : Nat → List Nat) : Prop where
  row : w.rowIs g 36 n V
  each : ∀ k, k < n → w.ownsRow B 3 1 (V k) (C k).length (numsI (C k))
  apart : ∀ i j, i < n → j < n → i ≠ j → (V i).ownBlock = none ∨ (V i).ownBlock ≠ (V j).ownBlock

theorem Lots.lt {w : World} {B g n : Nat} {V : Nat → Value} {C : Nat → List Nat} (h : Lots w B g n V C) : g < w.heap.size := h.row.lt

theorem Lots.below {w w' : World} {B g n : Nat} {V : Nat → Value} {C : Nat → List Nat} (h : Lots w B g n V C) (hb : Below w.heap.size w w') : Lots w' B g n V C :=
  ⟨h.row.of_block (hb.block g h.lt), fun k hk => ownsRow_below (h.each k hk) hb, h.apart⟩

theorem Lots.lower {w : World} {B B' g n : Nat} {V : Nat → Value} {C : Nat → List Nat} (h : Lots w B g n V C) (hB : B' ≤ B) : Lots w B' g n V C :=
  ⟨h.row, fun k hk => ownsRow_lower (h.each k hk) hB, h.apart⟩

/-- What it is untouched by: a change of one block that lies below. -/
theorem Lots.kept {w w' : World} {B g n q : Nat} {V : Nat → Value} {C : Nat → List Nat} (h : Lots w B g n V C) (hk : Kept (· = q) w w') (hq : q < B) (hg : q ≠ g) : Lots w' B g n V C :=
  ⟨h.row.of_block (hk.block g h.lt (Ne.symm hg)), fun k hk2 => ownsRow_same (h.each k hk2) (fun b hb => hk.block b ((h.each k hk2).lt b hb).2 (by have := ((h.each k hk2).lt b hb).1; omega)), h.apart⟩

/-- A row of numbers is not the row of rows. -/
theorem Lots.ne {w : World} {B g n : Nat} {V : Nat → Value} {C : Nat → List Nat} (h : Lots w B g n V C) {B' m : Nat} {v : Value} {xs : List Value} (hv : w.ownsRow B' 3 1 v m xs) : v.ownBlock ≠ some g := by
  intro e
  obtain ⟨_, cur, hc⟩ := ownsRow_block hv g e
  obtain ⟨c, hg, _⟩ := h.row
  rw [hc] at hg
  injection hg with hg
  injection hg with _ h2
  exact absurd h2 (by decide)

theorem lots_new (w : World) (B n : Nat) : Lots (w.alloc (.cells (madeCells #[.slice none 0 0] n) 36)) B w.heap.size n (fun _ => .slice none 0 0) (fun _ => []) :=
  ⟨World.rowIs_made w (.slice none 0 0) n 36, fun _ _ => World.ownsRow_nil _ _ _ _, fun _ _ _ _ _ => .inl rfl⟩

/-- One number more at one place: the row of it has grown, and lies in its place. -/
theorem Lots.push {w w1 : World} {B g n i x g' c m : Nat} {V : Nat → Value} {C : Nat → List Nat} (h : Lots w B g n V C) (hi : i < n) (hm : m = (C i).length + 1) (hown : w1.ownsRow B 3 1 (.slice (some ⟨g', 0, none⟩) m c) m (numsI (C i) ++ [.int .i64 (x : Int)])) (hgrow : w.grownBy w1 (V i).ownBlock) (hat : (V i).ownBlock = some g' ∨ g' = w.heap.size) :
    Lots (w1.setCell ⟨g, i, none⟩ (.slice (some ⟨g', 0, none⟩) m c)) B g n (put2 V i (.slice (some ⟨g', 0, none⟩) m c)) (put2 C i (C i ++ [x])) := by
  have hgg : w1.heap[g]? = w.heap[g]? := hgrow.block g h.lt (fun e => h.ne (h.each i hi) e.symm)
  have hr1 : w1.rowIs g 36 n V := h.row.of_block hgg
  have hne : g' ≠ g := by
    rcases hat with e | e
    · intro e2
      exact h.ne (h.each i hi) (by rw [e, e2])
    · intro e2
      have := h.lt
      omega
  have hoff : ∀ k, k < n → k ≠ i → ∀ b, (V k).ownBlock = some b → b < w.heap.size ∧ some b ≠ (V i).ownBlock ∧ b ≠ g := by
    intro k hk hki b hb
    refine ⟨((h.each k hk).lt b hb).2, ?_, ?_⟩
    · intro e
      rcases h.apart k i hk hi hki with e2 | e2
      · rw [e2] at hb; cases hb
      · exact e2 (hb.trans e)
    · rintro rfl
      exact h.ne (h.each k hk) hb
  refine ⟨?_, fun k hk => ?_, fun p q hp hq hpq => ?_⟩
  · exact (hr1.set i _).congr (fun k _ => rfl)
  · by_cases e : k = i
    · subst e
      rw [put2_at, put2_at]
      refine ownsRow_same ?_ (fun b hb => Below.heap_setCell _ _ _ _ (by
        injection hb with hb
        intro e2
        exact hne (hb.trans e2)))
      rw [List.length_append]
      have e2 : numsI (C k ++ [x]) = numsI (C k) ++ [.int .i64 (x : Int)] := by simp [numsI]
      rw [e2]
      rw [hm] at hown ⊢
      exact hown
    · rw [put2_else _ _ _ e, put2_else _ _ _ e]
      refine ownsRow_same (h.each k hk) (fun b hb => ?_)
      obtain ⟨h1, h2, h3⟩ := hoff k hk e b hb
      exact (Below.heap_setCell _ _ _ _ h3).trans (hgrow.block b h1 h2)
  · by_cases e1 : p = i
    · by_cases e2 : q = i
      · omega
      · subst e1
        rw [put2_at, put2_else _ _ _ e2]
        right
        intro e
        obtain ⟨h1, h2, h3⟩ := hoff q hq e2 g' e.symm
        rcases hat with e4 | e4
        · exact h2 e4.symm
        · omega
    · by_cases e2 : q = i
      · subst e2
        rw [put2_at, put2_else _ _ _ e1]
        rcases hvb : (V p).ownBlock with _ | b
        · exact .inl rfl
        · right
          intro e
          injection e with e
          obtain ⟨h1, h2, h3⟩ := hoff p hp e1 b hvb
          rcases hat with e4 | e4
          · exact h2 (by rw [e4, e])
          · have e5 : b = g' := e
            omega
      · rw [put2_else _ _ _ e1, put2_else _ _ _ e2]
        exact h.apart p q hp hq hpq

/-- The numbers of one place in another order. -/
theorem Lots.turn {w w' : World} {B g n i : Nat} {V : Nat → Value} {C : Nat → List Nat} {ids : List Nat} (h : Lots w B g n V C) (hi : i < n) (hl : ids.length = (C i).length) (hown : w'.ownsRow B 3 1 (V i) (C i).length (numsI ids)) (hk : Kept (fun b => (V i).ownBlock = some b) w w') : Lots w' B g n V (put2 C i ids) := by
  refine ⟨h.row.of_block (hk.block g h.lt (h.ne (h.each i hi))), fun k hk2 => ?_, h.apart⟩
  by_cases e : k = i
  · subst e
    rw [put2_at, hl]
    exact hown
  · rw [put2_else _ _ _ e]
    refine ownsRow_same (h.each k hk2) (fun b hb => hk.block b ((h.each k hk2).lt b hb).2 (fun e2 => ?_))
    rcases h.apart k i hk2 hi e with e3 | e3
    · rw [e3] at hb; cases hb
    · exact e3 (hb.trans e2.symm)

/-! ### Which hits begin where -/

/-- The phrases of hits that begin at a place, each once. -/
def AtRaw (L : List ByteArray) (n : Nat) (X : List (Int × Int)) (k : Nat) (ids : List Nat) : Prop := ids.Nodup ∧ ∀ id : Nat, id ∈ ids ↔ id < L.length ∧ ((((k + lenL L id : Nat) : Int), (id : Int)) : Int × Int) ∈ X ∧ k + lenL L id ≤ n

theorem atRaw_nil (L : List ByteArray) (n k : Nat) : AtRaw L n [] k [] := ⟨List.nodup_nil, fun id => by simp⟩

theorem AtRaw.few {L : List ByteArray} {n k : Nat} {X : List (Int × Int)} {ids : List Nat} (h : AtRaw L n X k ids) : ids.length ≤ L.length := by
  have h1 : ids ⊆ List.range L.length := fun x hx => List.mem_range.2 ((h.2 x).1 hx).1
  have h2 := h.1.length_le_of_subset h1
  simpa using h2

/-- A hit that is no phrase's, or does not lie within. -/
theorem AtRaw.skip {L : List ByteArray} {n k : Nat} {X : List (Int × Int)} {ids : List Nat} (h : AtRaw L n X k ids) (E K : Int) (hs : ∀ at0 id : Nat, K = (id : Int) → id < L.length → E = ((at0 + lenL L id : Nat) : Int) → ¬ at0 + lenL L id ≤ n) : AtRaw L n (X ++ [(E, K)]) k ids := by
  refine ⟨h.1, fun id => ?_⟩
  rw [h.2 id]
  constructor
  · rintro ⟨h1, h2, h3⟩
    exact ⟨h1, List.mem_append.2 (.inl h2), h3⟩
  · rintro ⟨h1, h2, h3⟩
    refine ⟨h1, ?_, h3⟩
    rcases List.mem_append.1 h2 with h2 | h2
    · exact h2
    · simp only [List.mem_singleton, Prod.mk.injEq] at h2
      exact absurd h3 (hs k id h2.2.symm h1 h2.1.symm)

/-- A hit that begins elsewhere. -/
theorem AtRaw.other {L : List ByteArray} {n k at0 id0 : Nat} {X : List (Int × Int)} {ids : List Nat} (h : AtRaw L n X k ids) (hk : k ≠ at0) : AtRaw L n (X ++ [(((at0 + lenL L id0 : Nat) : Int), (id0 : Int))]) k ids := by
  refine ⟨h.1, fun id => ?_⟩
  rw [h.2 id]
  constructor
  · rintro ⟨h1, h2, h3⟩
    exact ⟨h1, List.mem_append.2 (.inl h2), h3⟩
  · rintro ⟨h1, h2, h3⟩
    refine ⟨h1, ?_, h3⟩
    rcases List.mem_append.1 h2 with h2 | h2
    · exact h2
    · simp only [List.mem_singleton, Prod.mk.injEq] at h2
      have e : id = id0 := by omega
      subst e
      omega

/-- One that was there. -/
theorem AtRaw.again {L : List ByteArray} {n at0 id0 : Nat} {X : List (Int × Int)} {ids : List Nat} (h : AtRaw L n X at0 ids) (hm : id0 ∈ ids) : AtRaw L n (X ++ [(((at0 + lenL L id0 : Nat) : Int), (id0 : Int))]) at0 ids := by
  refine ⟨h.1, fun id => ?_⟩
  rw [h.2 id]
  constructor
  · rintro ⟨h1, h2, h3⟩
    exact ⟨h1, List.mem_append.2 (.inl h2), h3⟩
  · rintro ⟨h1, h2, h3⟩
    refine ⟨h1, ?_, h3⟩
    rcases List.mem_append.1 h2 with h2 | h2
    · exact h2
    · simp only [List.mem_singleton, Prod.mk.injEq] at h2
      have e : id = id0 := by omega
      subst e
      exact ((h.2 id).1 hm).2.1

/-- A new one. -/
theorem AtRaw.snoc {L : List ByteArray} {n at0 id0 : Nat} {X : List (Int × Int)} {ids : List Nat} (h : AtRaw L n X at0 ids) (hm : id0 ∉ ids) (h1 : id0 < L.length) (h2 : at0 + lenL L id0 ≤ n) : AtRaw L n (X ++ [(((at0 + lenL L id0 : Nat) : Int), (id0 : Int))]) at0 (ids ++ [id0]) := by
  refine ⟨?_, fun id => ?_⟩
  · rw [List.nodup_append]
    refine ⟨h.1, by simp, fun a ha b hb => ?_⟩
    simp at hb
    subst hb
    rintro rfl
    exact hm ha
  · rw [List.mem_append, h.2 id]
    constructor
    · rintro (⟨k1, k2, k3⟩ | k1)
      · exact ⟨k1, List.mem_append.2 (.inl k2), k3⟩
      · simp at k1
        subst k1
        exact ⟨h1, List.mem_append.2 (.inr (by simp)), h2⟩
    · rintro ⟨k1, k2, k3⟩
      rcases List.mem_append.1 k2 with k2 | k2
      · exact .inl ⟨k1, k2, k3⟩
      · simp only [List.mem_singleton, Prod.mk.injEq] at k2
        right
        simp
        omega

/-- The same, the longest first. -/
def AtOf (L : List ByteArray) (n : Nat) (X : List (Int × Int)) (k : Nat) (ids : List Nat) : Prop := AtRaw L n X k ids ∧ ids.Pairwise (fun a b => lenL L b ≤ lenL L a)
end Go.Proofs.Ytfeibhdnmfiflaa
