/-
  Books of lists of all kinds: one kind's two cells among the others; rows of other kinds are as they were.
-/
import Derived.Test.YtdplflcaanmmiaaGreatBookN
namespace Go.Proofs.YtdplflcaanmmiaaGreat
open Go.ChangeShapes Go.WideShapes Go.ChangeAt Go.RowKit

/-- Rows of other types than e, and no book, are as they were. -/
def Rest (e : TypeId) (w w' : World) : Prop := ∀ (k : Nat) (cur : Array Value) (t : TypeId), t ≠ e → t ≠ 38 → w.heap[k]? = some (.cells cur t (0, 0)) → w'.heap[k]? = some (.cells cur t (0, 0))

theorem ownsRow_rest {w w' : World} {e t : TypeId} {B size n : Nat} {v : Value} {xs : List Value} (h : w.ownsRow B t size v n xs) (hr : Rest e w w') (h1 : t ≠ e) (h2 : t ≠ 38) : w'.ownsRow B t size v n xs :=
  ownsRow_same h (fun g hg => by
    obtain ⟨_, cur, hc⟩ := ownsRow_block h g hg
    rw [hc, hr g cur t h1 h2 hc])

/-- Two cells of a book. -/
def cells2 (i : Nat) (cs : Array Value) (u u' : Value) : Array Value := (cs.setIfInBounds i u).setIfInBounds (i + 1) u'
theorem cells2_size (i : Nat) (cs : Array Value) (u u' : Value) : (cells2 i cs u u').size = cs.size := by simp [cells2]
theorem cells2_first (i : Nat) (cs : Array Value) (u u' : Value) (h : i + 1 < cs.size) : (cells2 i cs u u')[i]? = some u := by
  unfold cells2
  rw [Array.getElem?_setIfInBounds_ne (by omega), Array.getElem?_setIfInBounds_self_of_lt (by omega)]
theorem cells2_second (i : Nat) (cs : Array Value) (u u' : Value) (h : i + 1 < cs.size) : (cells2 i cs u u')[i + 1]? = some u' := by
  unfold cells2
  rw [Array.getElem?_setIfInBounds_self_of_lt (by rw [Array.size_setIfInBounds]; omega)]
theorem cells2_set1 (i : Nat) (cs : Array Value) (u u' u1 : Value) : (cells2 i cs u u').setIfInBounds i u1 = cells2 i cs u1 u' := by
  unfold cells2
  rw [Array.setIfInBounds_comm _ _ (by omega), Array.setIfInBounds_setIfInBounds]
theorem cells2_set2 (i : Nat) (cs : Array Value) (u u' u1 : Value) : (cells2 i cs u u').setIfInBounds (i + 1) u1 = cells2 i cs u u1 := by
  unfold cells2
  rw [Array.setIfInBounds_setIfInBounds]
end Go.Proofs.YtdplflcaanmmiaaGreat
