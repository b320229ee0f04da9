/-
  A book of lists of bytes that were told: one more is kept, all are apart; the sons of a beginning, byte by byte.
-/
import Derived.Test.YtmoanhlpldimcaaAlive7
import Derived.Test.YtmoanhlpldimcaaNodes
import Derived.Test.YtmoanhlpldimcaaBookBytes5
namespace Go.Proofs.Ytmoanhlpldimcaa
open Go.ChangeShapes Go.WideShapes Go.ChangeAt Go.RowKit

/-- The bytes below x by which a beginning goes on. -/
def byUpto (A : List (List Nat)) (y : List Nat) (x : Nat) : List Nat := (List.range x).filter (fun c => decide (y ++ [c] ∈ A))
theorem byUpto_all (A : List (List Nat)) (y : List Nat) : byUpto A y 256 = byOf A y := rfl
theorem byUpto_in (A : List (List Nat)) (y : List Nat) (x : Nat) (h : y ++ [x] ∈ A) : byUpto A y (x + 1) = byUpto A y x ++ [x] := by
  unfold byUpto
  rw [List.range_succ, List.filter_append]
  simp [h]
theorem byUpto_out (A : List (List Nat)) (y : List Nat) (x : Nat) (h : y ++ [x] ∉ A) : byUpto A y (x + 1) = byUpto A y x := by
  unfold byUpto
  rw [List.range_succ, List.filter_append]
  simp [h]
theorem byUpto_length (A : List (List Nat)) (y : List Nat) (x : Nat) : (byUpto A y x).length ≤ x := by
  have := List.length_filter_le (fun c => decide (y ++ [c] ∈ A)) (List.range x)
  simpa [byUpto] using this

theorem BookBt.below {w w' : World} {B p n : Nat} {V V' : Nat → Value} {C : Nat → List Nat} {u u' : Value} (h : BookBt w B p n V V' C u u') (hb : Below w.heap.size w w') : BookBt w' B p n V V' C u u' :=
  ⟨h.book.below hb, h.lists.below hb, h.was.below hb, h.off, h.off', h.low⟩

theorem bookB_new (w : World) : BookBt (w.alloc (.cells #[.slice none 0 0, .slice none 0 0, .slice none 0 0, .slice none 0 0, .slice none 0 0, .slice none 0 0, .slice none 0 0, .slice none 0 0, .slice none 0 0, .slice none 0 0] 37)) w.heap.size w.heap.size 0 (fun _ => .slice none 0 0) (fun _ => .slice none 0 0) (fun _ => []) (.slice none 0 0) (.slice none 0 0) :=
  ⟨⟨heap_alloc_new w _, rfl⟩, ⟨World.ownsRow_nil _ _ _ _, fun j hj => by omega, fun i j hi => by omega⟩, ⟨World.ownsRow_nil _ _ _ _, fun j hj => by omega, fun i j hi => by omega⟩, .inl rfl, .inl rfl, Nat.le_refl _⟩

/-- A book of n lists that are short. -/
def Shelf (w : World) (B n : Nat) : Prop := ∃ V V' C u u', BookBt w B B n V V' C u u' ∧ (∀ j, j < n → (C j).length ≤ 50000)

theorem Shelf.below {w w' : World} {B n : Nat} (h : Shelf w B n) (hb : Below w.heap.size w w') : Shelf w' B n := by
  obtain ⟨V, V', C, u, u', h1, h2⟩ := h
  exact ⟨V, V', C, u, u', h1.below hb, h2⟩

theorem shelf_new (w : World) : Shelf (w.alloc (.cells #[.slice none 0 0, .slice none 0 0, .slice none 0 0, .slice none 0 0, .slice none 0 0, .slice none 0 0, .slice none 0 0, .slice none 0 0, .slice none 0 0, .slice none 0 0] 37)) w.heap.size 0 :=
  ⟨_, _, _, _, _, bookB_new w, fun j hj => by omega⟩

/-- One list more is kept: it reads as ever. -/
theorem Shelf.keep {w : World} {B n : Nat} (hn : n < 250) {W : World} {v : Value} {X : List Nat} (hW : Below W.heap.size W w) (hS : Shelf W B n) (hv : w.ownsRow W.heap.size 5 1 v X.length (octs X)) (hX : X.length ≤ 50000) (hB : B ≤ W.heap.size) :
    Calls Try.prog 17 #[.pointer (some ⟨B, 0, none⟩), v] w fun e w' => e = .returned (.tuple #[]) ∧ Shelf w' B (n + 1) ∧ Reads w' v (octs X) ∧ Below B w w' ∧ UKeep w w' := by
  obtain ⟨V, V', C, u, u', h1, h2⟩ := hS
  have h1' := h1.below hW
  refine (keepBytes_any h1' hn (ownsRow_lower hv hB) hX (fun j hj => ?_) (Nat.le_trans hB hW.size)).mono ?_
  · exact freshB_off hv h1.lists j hj
  · rintro e w' ⟨rfl, ⟨u2, u3, V3, hb⟩, hbel, huk⟩
    refine ⟨rfl, ⟨_, _, _, _, _, hb, fun j hj => ?_⟩, ?_, hbel, huk⟩
    · by_cases e : j = n
      · subst e; rw [put1_at]; exact hX
      · rw [put1_else _ _ _ _ (by omega)]; exact h2 j (by omega)
    · have := hb.lists.each n (by omega)
      rw [put1_at, put1_at] at this
      exact ownsRow_reads this

theorem Shelf.apart {w : World} {B n : Nat} (h : Shelf w B n) (hn : n ≤ 250) (hB : B ≤ w.heap.size) :
    Calls Try.prog 23 #[.pointer (some ⟨B, 0, none⟩)] w fun e w' => e = .returned (.bool true) ∧ Below B w w' := by
  obtain ⟨V, V', C, u, u', h1, h2⟩ := h
  exact apartB_any h1 hn h2 hB
end Go.Proofs.Ytmoanhlpldimcaa
