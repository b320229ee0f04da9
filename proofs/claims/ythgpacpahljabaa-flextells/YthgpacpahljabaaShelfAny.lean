/-
  A book of lists of numbers that were told, some of them ahead of it: one more is kept, all are apart.
-/
import Derived.Test.YthgpacpahljabaaShelfInts
namespace Go.Proofs.Ythgpacpahljabaa
open Go.ChangeShapes Go.WideShapes Go.ChangeAt Go.RowKit

/-- A book at block p of n lists that are short; all from block B on. -/
def ShelfP (w : World) (B p n : Nat) : Prop := ∃ V V' C u u', BookIn w B p n V V' C u u' ∧ (∀ j, j < n → (C j).length ≤ 50000)

theorem ShelfP.below {w w' : World} {B p n : Nat} (h : ShelfP w B p n) (hb : Below w.heap.size w w') : ShelfP w' B p n := by
  obtain ⟨V, V', C, u, u', h1, h2⟩ := h
  exact ⟨V, V', C, u, u', h1.below hb, h2⟩

theorem shelfP_new (w : World) (B : Nat) (hB : B ≤ w.heap.size) : ShelfP (w.alloc (.cells #[.slice none 0 0, .slice none 0 0, .slice none 0 0, .slice none 0 0, .slice none 0 0, .slice none 0 0, .slice none 0 0, .slice none 0 0, .slice none 0 0, .slice none 0 0] 36)) B w.heap.size 0 :=
  ⟨fun _ => .slice none 0 0, fun _ => .slice none 0 0, fun _ => [], .slice none 0 0, .slice none 0 0, ⟨⟨heap_alloc_new w _, rfl⟩, ⟨World.ownsRow_nil _ _ _ _, fun j hj => by omega, fun i j hi => by omega⟩, ⟨World.ownsRow_nil _ _ _ _, fun j hj => by omega, fun i j hi => by omega⟩, .inl rfl, .inl rfl, hB⟩, fun j hj => by omega⟩

/-- A row of numbers stays as it was. -/
theorem IKeep.row {w w' : World} (hk : IKeep w w') {B : Nat} {v : Value} {n : Nat} {xs : List Value} (h : w.ownsRow B 3 1 v n xs) : w'.ownsRow B 3 1 v n xs :=
  ownsRow_same h (fun g hg => by
    obtain ⟨_, cur, hc⟩ := ownsRow_block h g hg
    rw [hk g cur hc, hc])

/-- One list is kept, whichever is apart from those that are kept already. -/
theorem ShelfP.keepOff {w : World} {B p n : Nat} (hS : ShelfP w B p n) (hn : n < 250) {v : Value} {X : List Int} (hv : w.ownsRow B 3 1 v X.length (nats X)) (hX : X.length ≤ 50000) (hB : B ≤ w.heap.size)
    (hoff : ∀ V V' C u u', BookIn w B p n V V' C u u' → ∀ j, j < n → Off v (V j)) :
    Calls Try.prog 11 #[.pointer (some ⟨p, 0, none⟩), v] w fun e w' => e = .returned (.tuple #[]) ∧ ShelfP w' B p (n + 1) ∧ w'.ownsRow B 3 1 v X.length (nats X) ∧ Below B w w' ∧ IKeep w w' := by
  obtain ⟨V, V', C, u, u', h1, h2⟩ := hS
  refine (keepInts_any h1 hn hv hX (hoff V V' C u u' h1) hB).mono ?_
  rintro e w' ⟨rfl, ⟨u2, u3, V3, hb⟩, hbel, huk⟩
  refine ⟨rfl, ⟨_, _, _, _, _, hb, fun j hj => ?_⟩, huk.row hv, hbel, huk⟩
  by_cases e : j = n
  · subst e; rw [put1_at]; exact hX
  · rw [put1_else _ _ _ _ (by omega)]; exact h2 j (by omega)

/-- The first list. -/
theorem ShelfP.keepFirst {w : World} {B p : Nat} (hS : ShelfP w B p 0) {v : Value} {X : List Int} (hv : w.ownsRow B 3 1 v X.length (nats X)) (hX : X.length ≤ 50000) (hB : B ≤ w.heap.size) :
    Calls Try.prog 11 #[.pointer (some ⟨p, 0, none⟩), v] w fun e w' => e = .returned (.tuple #[]) ∧ ShelfP w' B p 1 ∧ w'.ownsRow B 3 1 v X.length (nats X) ∧ Below B w w' ∧ IKeep w w' :=
  hS.keepOff (by omega) hv hX hB (fun _ _ _ _ _ _ j hj => by omega)

/-- One list more, that was made behind those that are kept. -/
theorem ShelfP.keepNew {W w : World} {B p n : Nat} (hS : ShelfP W B p n) (hn : n < 250) (hW : Below W.heap.size W w) {v : Value} {X : List Int} (hv : w.ownsRow W.heap.size 3 1 v X.length (nats X)) (hX : X.length ≤ 50000) (hB : B ≤ W.heap.size) :
    Calls Try.prog 11 #[.pointer (some ⟨p, 0, none⟩), v] w fun e w' => e = .returned (.tuple #[]) ∧ ShelfP w' B p (n + 1) ∧ w'.ownsRow B 3 1 v X.length (nats X) ∧ Below B w w' ∧ IKeep w w' := by
  obtain ⟨V, V', C, u, u', h1, h2⟩ := hS
  have h1' := h1.below hW
  refine (keepInts_any h1' hn (ownsRow_lower hv hB) hX (fun j hj => freshI_off hv h1.lists j hj) (Nat.le_trans hB hW.size)).mono ?_
  rintro e w' ⟨rfl, ⟨u2, u3, V3, hb⟩, hbel, huk⟩
  refine ⟨rfl, ⟨_, _, _, _, _, hb, fun j hj => ?_⟩, huk.row (ownsRow_lower hv hB), hbel, huk⟩
  by_cases e : j = n
  · subst e; rw [put1_at]; exact hX
  · rw [put1_else _ _ _ _ (by omega)]; exact h2 j (by omega)

theorem ShelfP.apart {w : World} {B p n : Nat} (h : ShelfP w B p n) (hn : n ≤ 250) (hB : B ≤ w.heap.size) :
    Calls Try.prog 20 #[.pointer (some ⟨p, 0, none⟩)] w fun e w' => e = .returned (.bool true) ∧ Below B w w' := by
  obtain ⟨V, V', C, u, u', h1, h2⟩ := h
  exact apartI_any h1 hn h2 hB
end Go.Proofs.Ythgpacpahljabaa
