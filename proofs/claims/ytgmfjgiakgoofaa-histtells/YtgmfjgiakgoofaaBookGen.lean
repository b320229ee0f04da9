/-
  Lists of lists of one's own, one more of them, and the book's own cells: what the books of all kinds share.
-/
import Derived.Test.YtgmfjgiakgoofaaBookTexts3
namespace Go.Proofs.Ytgmfjgiakgoofaa
open Go.ChangeShapes Go.WideShapes Go.ChangeAt Go.RowKit

theorem book_free {w : World} {p : Nat} {cs : Array Value} (h : BookAt w p cs) (j : Nat) : w.frozen? ⟨p, j, none⟩ = false := by simp [World.frozen?, h.1]
theorem BookAt.below {w w' : World} {p : Nat} {cs : Array Value} (h : BookAt w p cs) (hb : Below w.heap.size w w') : BookAt w' p cs := ⟨(hb.block p (Array.getElem?_eq_some_iff.1 h.1).1).trans h.1, h.2⟩

/-- One more list of its own for lists of their own. -/
def put1 (n : Nat) {α : Type} (V : Nat → α) (v : α) : Nat → α := fun j => if j = n then v else V j
theorem put1_at {α : Type} (n : Nat) (V : Nat → α) (v : α) : put1 n V v n = v := by simp [put1]
theorem put1_else {α : Type} (n : Nat) (V : Nat → α) (v : α) (j : Nat) (h : j < n) : put1 n V v j = V j := by unfold put1; rw [if_neg (by omega)]
theorem put1_range {α : Type} (n : Nat) (V : Nat → α) (v : α) : (List.range (n + 1)).map (put1 n V v) = (List.range n).map V ++ [v] := by
  rw [List.range_succ, List.map_append]
  congr 1
  · apply List.map_congr_left
    intro j hj
    exact put1_else n V v j (List.mem_range.1 hj)
  · simp [put1_at]

/-- Rows other than those of type e that lie off a block outlast an append there. -/
theorem turns_grown {w w' : World} {B : Nat} {e : TypeId} {v : Value} {n : Nat} {xs : List Value} (ho : w.ownsRow B e 1 v n xs) (hg : w.grownBy w' v.ownBlock) : Turns e B w w' :=
  ⟨hg.os, hg.tape, hg.output, hg.size, fun k hk hn => hg.block k hk (fun e => by
    obtain ⟨hb, cur, hh⟩ := ownsRow_block ho k e.symm
    rcases hn with hn | hn
    · omega
    · exact hn cur (0, 0) hh)⟩

theorem turns_book {w : World} {B p : Nat} {cs : Array Value} (h : BookAt w p cs) (hp : B ≤ p) (j : Nat) (v : Value) : Turns 37 B w (w.setCell ⟨p, j, none⟩ v) := by
  refine ⟨rfl, rfl, rfl, by simp, fun k hk hn => ?_⟩
  apply Below.heap_setCell
  rintro rfl
  rcases hn with hn | hn
  · exact absurd hn (Nat.not_lt.2 hp)
  · exact hn cs (0, 0) h.1

theorem book_set {w : World} {p : Nat} {cs : Array Value} (h : BookAt w p cs) (j : Nat) (v : Value) : BookAt (w.setCell ⟨p, j, none⟩ v) p (cs.setIfInBounds j v) := by
  refine ⟨?_, by rw [Array.size_setIfInBounds]; exact h.2⟩
  simp only [World.setCell, Array.getElem?_modify, h.1]
  simp

theorem off_same {l l' r : Value} (ho : Off r l) (hat : l'.ownBlock = l.ownBlock ∨ ∃ g, l'.ownBlock = some g ∧ r.ownBlock ≠ some g) : Off r l' := by
  rcases hat with h | ⟨g, h1, h2⟩
  · unfold Off; rw [h]; exact ho
  · right; rw [h1]; exact fun e => h2 e.symm

theorem row_fresh {w : World} {B : Nat} {e : TypeId} {v : Value} {n : Nat} {xs : List Value} (h : w.ownsRow B e 1 v n xs) : v.ownBlock ≠ some w.heap.size := by
  intro e
  have := (h.lt _ e).2
  omega
end Go.Proofs.Ytgmfjgiakgoofaa
