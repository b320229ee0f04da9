/-
  A book of lists of numbers that were told: one more is kept, all are apart.
-/
import Derived.Test.YtgmfjgiakgoofaaBookInts5
namespace Go.Proofs.Ytgmfjgiakgoofaa
open Go.ChangeShapes Go.WideShapes Go.ChangeAt Go.RowKit

theorem BookIn.below {w w' : World} {B p n : Nat} {V V' : Nat → Value} {C : Nat → List Int} {u u' : Value} (h : BookIn w B p n V V' C u u') (hb : Below w.heap.size w w') : BookIn w' B p n V V' C u u' :=
  ⟨h.book.below hb, h.lists.below hb, h.was.below hb, h.off, h.off', h.low⟩

theorem bookI_new (w : World) : BookIn (w.alloc (.cells #[.slice none 0 0, .slice none 0 0, .slice none 0 0, .slice none 0 0, .slice none 0 0, .slice none 0 0, .slice none 0 0, .slice none 0 0, .slice none 0 0, .slice none 0 0] 37)) w.heap.size w.heap.size 0 (fun _ => .slice none 0 0) (fun _ => .slice none 0 0) (fun _ => []) (.slice none 0 0) (.slice none 0 0) :=
  ⟨⟨heap_alloc_new w _, rfl⟩, ⟨World.ownsRow_nil _ _ _ _, fun j hj => by omega, fun i j hi => by omega⟩, ⟨World.ownsRow_nil _ _ _ _, fun j hj => by omega, fun i j hi => by omega⟩, .inl rfl, .inl rfl, Nat.le_refl _⟩

/-- A book of n lists that are short. -/
def ShelfI (w : World) (B n : Nat) : Prop := ∃ V V' C u u', BookIn w B B n V V' C u u' ∧ (∀ j, j < n → (C j).length ≤ 50000)

theorem ShelfI.below {w w' : World} {B n : Nat} (h : ShelfI w B n) (hb : Below w.heap.size w w') : ShelfI w' B n := by
  obtain ⟨V, V', C, u, u', h1, h2⟩ := h
  exact ⟨V, V', C, u, u', h1.below hb, h2⟩

theorem shelfI_new (w : World) : ShelfI (w.alloc (.cells #[.slice none 0 0, .slice none 0 0, .slice none 0 0, .slice none 0 0, .slice none 0 0, .slice none 0 0, .slice none 0 0, .slice none 0 0, .slice none 0 0, .slice none 0 0] 37)) w.heap.size 0 :=
  ⟨_, _, _, _, _, bookI_new w, fun j hj => by omega⟩

/-- One list more is kept: it reads as ever. -/
theorem ShelfI.keep {w : World} {B n : Nat} (hn : n < 250) {W : World} {v : Value} {X : List Int} (hW : Below W.heap.size W w) (hS : ShelfI W B n) (hv : w.ownsRow W.heap.size 3 1 v X.length (nats X)) (hX : X.length ≤ 50000) (hB : B ≤ W.heap.size) :
    Calls Try.prog 11 #[.pointer (some ⟨B, 0, none⟩), v] w fun e w' => e = .returned (.tuple #[]) ∧ ShelfI w' B (n + 1) ∧ Reads w' v (nats X) ∧ Below B w w' ∧ IKeep w w' := by
  obtain ⟨V, V', C, u, u', h1, h2⟩ := hS
  have h1' := h1.below hW
  refine (keepInts_any h1' hn (ownsRow_lower hv hB) hX (fun j hj => ?_) (Nat.le_trans hB hW.size)).mono ?_
  · exact freshI_off hv h1.lists j hj
  · rintro e w' ⟨rfl, ⟨u2, u3, V3, hb⟩, hbel, huk⟩
    refine ⟨rfl, ⟨_, _, _, _, _, hb, fun j hj => ?_⟩, ?_, hbel, huk⟩
    · by_cases e : j = n
      · subst e; rw [put1_at]; exact hX
      · rw [put1_else _ _ _ _ (by omega)]; exact h2 j (by omega)
    · have := hb.lists.each n (by omega)
      rw [put1_at, put1_at] at this
      exact ownsRow_reads this

theorem ShelfI.apart {w : World} {B n : Nat} (h : ShelfI w B n) (hn : n ≤ 250) (hB : B ≤ w.heap.size) :
    Calls Try.prog 15 #[.pointer (some ⟨B, 0, none⟩)] w fun e w' => e = .returned (.bool true) ∧ Below B w w' := by
  obtain ⟨V, V', C, u, u', h1, h2⟩ := h
  exact apartI_any h1 hn h2 hB
end Go.Proofs.Ytgmfjgiakgoofaa
