/-
  A book of lists of numbers and of costs, some made ahead of it, as one fact: a new one, what outlasts what, all are apart. One more list of Ints for a book of lists of numbers and of costs. One more list of Costs for a book of lists of numbers and of costs.
-/
import Derived.Test.YtdplflcaanmmiaaGreatBookApartIC
import Derived.Test.YtdplflcaanmmiaaGreatIntsBook
import Derived.Test.YtdplflcaanmmiaaGreatCostsBook
namespace Go.Proofs.YtdplflcaanmmiaaGreat
open Go.ChangeShapes Go.WideShapes Go.ChangeAt Go.RowKit

def KindI (w : World) (B : Nat) (u u' : Value) (n : Nat) : Prop := ∃ (V V' : Nat → Value) (C : Nat → List Int), ListsI w B u n V C ∧ ListsI w B u' n V' C ∧ Off u u' ∧ Off u' u ∧ ∀ j, j < n → (C j).length ≤ 50000
theorem KindI.new (w : World) (B : Nat) : KindI w B (.slice none 0 0) (.slice none 0 0) 0 := ⟨fun _ => .slice none 0 0, fun _ => .slice none 0 0, fun _ => [], ⟨World.ownsRow_nil _ _ _ _, fun j hj => by omega, fun i j hi => by omega⟩, ⟨World.ownsRow_nil _ _ _ _, fun j hj => by omega, fun i j hi => by omega⟩, .inl rfl, .inl rfl, fun j hj => by omega⟩
theorem KindI.below {w w' : World} {B n : Nat} {u u' : Value} (h : KindI w B u u' n) (hb : Below w.heap.size w w') : KindI w' B u u' n := by
  obtain ⟨V, V', C, h1, h2, h3, h4, h5⟩ := h
  exact ⟨V, V', C, h1.below hb, h2.below hb, h3, h4, h5⟩
theorem KindI.rest {e : TypeId} {w w' : World} {B n : Nat} {u u' : Value} (h : KindI w B u u' n) (hr : Rest e w w') (h1 : 27 ≠ e) (h2 : 3 ≠ e) : KindI w' B u u' n := by
  obtain ⟨V, V', C, k1, k2, k3, k4, k5⟩ := h
  exact ⟨V, V', C, ⟨ownsRow_rest k1.row hr h1 (by decide), fun j hj => ownsRow_rest (k1.each j hj) hr h2 (by decide), k1.apart⟩, ⟨ownsRow_rest k2.row hr h1 (by decide), fun j hj => ownsRow_rest (k2.each j hj) hr h2 (by decide), k2.apart⟩, k3, k4, k5⟩

def KindC (w : World) (B : Nat) (u u' : Value) (n : Nat) : Prop := ∃ (V V' : Nat → Value) (C : Nat → List (Int × Int)), ListsC w B u n V C ∧ ListsC w B u' n V' C ∧ Off u u' ∧ Off u' u ∧ ∀ j, j < n → (C j).length ≤ 50000 ∧ SmallC (C j)
theorem KindC.new (w : World) (B : Nat) : KindC w B (.slice none 0 0) (.slice none 0 0) 0 := ⟨fun _ => .slice none 0 0, fun _ => .slice none 0 0, fun _ => [], ⟨World.ownsRow_nil _ _ _ _, fun j hj => by omega, fun i j hi => by omega⟩, ⟨World.ownsRow_nil _ _ _ _, fun j hj => by omega, fun i j hi => by omega⟩, .inl rfl, .inl rfl, fun j hj => by omega⟩
theorem KindC.below {w w' : World} {B n : Nat} {u u' : Value} (h : KindC w B u u' n) (hb : Below w.heap.size w w') : KindC w' B u u' n := by
  obtain ⟨V, V', C, h1, h2, h3, h4, h5⟩ := h
  exact ⟨V, V', C, h1.below hb, h2.below hb, h3, h4, h5⟩
theorem KindC.rest {e : TypeId} {w w' : World} {B n : Nat} {u u' : Value} (h : KindC w B u u' n) (hr : Rest e w w') (h1 : 29 ≠ e) (h2 : 43 ≠ e) : KindC w' B u u' n := by
  obtain ⟨V, V', C, k1, k2, k3, k4, k5⟩ := h
  exact ⟨V, V', C, ⟨ownsRow_rest k1.row hr h1 (by decide), fun j hj => ownsRow_rest (k1.each j hj) hr h2 (by decide), k1.apart⟩, ⟨ownsRow_rest k2.row hr h1 (by decide), fun j hj => ownsRow_rest (k2.each j hj) hr h2 (by decide), k2.apart⟩, k3, k4, k5⟩

/-- A book at block p of so many lists of each kind; all from block B on. -/
def ShelfQ (w : World) (B p nI nC : Nat) : Prop := ∃ uI uI' uC uC' : Value, BookAt w p #[uI, uI', .slice none 0 0, .slice none 0 0, .slice none 0 0, .slice none 0 0, uC, uC', .slice none 0 0, .slice none 0 0] ∧ KindI w B uI uI' nI ∧ KindC w B uC uC' nC ∧ B ≤ p

theorem shelfQ_new (w : World) (B : Nat) (hB : B ≤ w.heap.size) : ShelfQ (w.alloc (.cells #[.slice none 0 0, .slice none 0 0, .slice none 0 0, .slice none 0 0, .slice none 0 0, .slice none 0 0, .slice none 0 0, .slice none 0 0, .slice none 0 0, .slice none 0 0] 38)) B w.heap.size 0 0 :=
  ⟨_, _, _, _, ⟨heap_alloc_new w _, rfl⟩, KindI.new _ _, KindC.new _ _, hB⟩

theorem ShelfQ.below {w w' : World} {B p nI nC : Nat} (h : ShelfQ w B p nI nC) (hb : Below w.heap.size w w') : ShelfQ w' B p nI nC := by
  obtain ⟨uI, uI', uC, uC', h1, h2, h3, h4⟩ := h
  exact ⟨uI, uI', uC, uC', h1.below hb, h2.below hb, h3.below hb, h4⟩

theorem ShelfQ.apart {w : World} {B p nI nC : Nat} (h : ShelfQ w B p nI nC) (hI : nI ≤ 250) (hC : nC ≤ 250) (hB : B ≤ w.heap.size) :
    Calls Tryz.prog 12 #[.pointer (some ⟨p, 0, none⟩)] w fun e w' => e = .returned (.bool true) ∧ Below B w w' := by
  obtain ⟨uI, uI', uC, uC', h1, ⟨_, _, _, a1, a2, _, _, a3⟩, ⟨_, _, _, b1, b2, _, _, b3⟩, _⟩ := h
  exact apartIC_any h1 a1 a2 b1 b2 hI hC a3 (fun j hj => (b3 j hj).1) (fun j hj => (b3 j hj).2) hB
end Go.Proofs.YtdplflcaanmmiaaGreat

namespace Go.Proofs.YtdplflcaanmmiaaGreat
open Go.ChangeShapes Go.WideShapes Go.ChangeAt Go.RowKit

/-- One list is kept, whichever is apart from those that are kept already. -/
theorem ShelfQ.keepOffI {w : World} {B p nI nC : Nat} (hS : ShelfQ w B p nI nC) (hn : nI < 250) {v : Value} {X : List Int} (hv : w.ownsRow B 3 1 v X.length (nats X)) (hX : X.length ≤ 50000) (hB : B ≤ w.heap.size)
    (hoff : ∀ V C u, ListsI w B u nI V C → ∀ j, j < nI → Off v (V j)) :
    Calls Tryz.prog 9 #[.pointer (some ⟨p, 0, none⟩), v] w fun e w' => e = .returned (.tuple #[]) ∧ ShelfQ w' B p (nI + 1) nC ∧ Below B w w' ∧ Rest 27 w w' := by
  obtain ⟨uI, uI', uC, uC', h1, gI, gC, hp⟩ := hS
  have gg := gI
  obtain ⟨V, V', C, k1, k2, k3, k4, k5⟩ := gg
  have hbk : BookIn #[uI, uI', .slice none 0 0, .slice none 0 0, .slice none 0 0, .slice none 0 0, uC, uC', .slice none 0 0, .slice none 0 0] w B p nI V V' C uI uI' := ⟨h1, k1, k2, k3, k4, hp⟩
  refine (keepInts_any hbk hn hv hX (hoff V C _ k1) hB).mono ?_
  rintro e w' ⟨rfl, ⟨u2, u3, V3, hb⟩, hbel, hrest⟩
  refine ⟨rfl, ⟨u2, u3, uC, uC', hb.book, ⟨_, _, _, hb.lists, hb.was, hb.off, hb.off', fun j hj => ?_⟩, gC.rest hrest (by decide) (by decide), hp⟩, hbel, hrest⟩
  by_cases e : j = nI
  · subst e; rw [put1_at]; exact hX
  · rw [put1_else _ _ _ _ (by omega)]; exact k5 j (by omega)

theorem ShelfQ.firstI {w : World} {B p nC : Nat} (hS : ShelfQ w B p 0 nC) {v : Value} {X : List Int} (hv : w.ownsRow B 3 1 v X.length (nats X)) (hX : X.length ≤ 50000) (hB : B ≤ w.heap.size) :
    Calls Tryz.prog 9 #[.pointer (some ⟨p, 0, none⟩), v] w fun e w' => e = .returned (.tuple #[]) ∧ ShelfQ w' B p 1 nC ∧ Below B w w' ∧ Rest 27 w w' :=
  hS.keepOffI (by omega) hv hX hB (fun _ _ _ _ j hj => by omega)

/-- One list more, that was made behind those that are kept. -/
theorem ShelfQ.newI {W w : World} {B p nI nC : Nat} (hS : ShelfQ W B p nI nC) (hn : nI < 250) (hW : Below W.heap.size W w) {v : Value} {X : List Int} (hv : w.ownsRow W.heap.size 3 1 v X.length (nats X)) (hX : X.length ≤ 50000) (hB : B ≤ W.heap.size) :
    Calls Tryz.prog 9 #[.pointer (some ⟨p, 0, none⟩), v] w fun e w' => e = .returned (.tuple #[]) ∧ ShelfQ w' B p (nI + 1) nC ∧ Below B w w' ∧ Rest 27 w w' := by
  obtain ⟨uI, uI', uC, uC', h1, gI, gC, hp⟩ := hS
  have gg := gI
  obtain ⟨V, V', C, k1, k2, k3, k4, k5⟩ := gg
  have hbk : BookIn #[uI, uI', .slice none 0 0, .slice none 0 0, .slice none 0 0, .slice none 0 0, uC, uC', .slice none 0 0, .slice none 0 0] w B p nI V V' C uI uI' := ⟨h1.below hW, k1.below hW, k2.below hW, k3, k4, hp⟩
  have gC' := gC.below hW
  refine (keepInts_any hbk hn (ownsRow_lower hv hB) hX (freshI_off hv k1) (Nat.le_trans hB hW.size)).mono ?_
  rintro e w' ⟨rfl, ⟨u2, u3, V3, hb⟩, hbel, hrest⟩
  refine ⟨rfl, ⟨u2, u3, uC, uC', hb.book, ⟨_, _, _, hb.lists, hb.was, hb.off, hb.off', fun j hj => ?_⟩, gC'.rest hrest (by decide) (by decide), hp⟩, hbel, hrest⟩
  by_cases e : j = nI
  · subst e; rw [put1_at]; exact hX
  · rw [put1_else _ _ _ _ (by omega)]; exact k5 j (by omega)
end Go.Proofs.YtdplflcaanmmiaaGreat

namespace Go.Proofs.YtdplflcaanmmiaaGreat
open Go.ChangeShapes Go.WideShapes Go.ChangeAt Go.RowKit

/-- One list is kept, whichever is apart from those that are kept already. -/
theorem ShelfQ.keepOffC {w : World} {B p nI nC : Nat} (hS : ShelfQ w B p nI nC) (hn : nC < 250) {v : Value} {X : List (Int × Int)} (hv : w.ownsRow B 43 1 v X.length (ccells X)) (hX : X.length ≤ 50000) (hSm : SmallC X) (hB : B ≤ w.heap.size)
    (hoff : ∀ V C u, ListsC w B u nC V C → ∀ j, j < nC → Off v (V j)) :
    Calls Tryz.prog 10 #[.pointer (some ⟨p, 0, none⟩), v] w fun e w' => e = .returned (.tuple #[]) ∧ ShelfQ w' B p nI (nC + 1) ∧ Below B w w' ∧ Rest 29 w w' := by
  obtain ⟨uI, uI', uC, uC', h1, gI, gC, hp⟩ := hS
  have gg := gC
  obtain ⟨V, V', C, k1, k2, k3, k4, k5⟩ := gg
  have hbk : BookCo #[uI, uI', .slice none 0 0, .slice none 0 0, .slice none 0 0, .slice none 0 0, uC, uC', .slice none 0 0, .slice none 0 0] w B p nC V V' C uC uC' := ⟨h1, k1, k2, k3, k4, hp⟩
  refine (keepCosts_any hbk hn hv hX (hoff V C _ k1) hB).mono ?_
  rintro e w' ⟨rfl, ⟨u2, u3, V3, hb⟩, hbel, hrest⟩
  refine ⟨rfl, ⟨uI, uI', u2, u3, hb.book, gI.rest hrest (by decide) (by decide), ⟨_, _, _, hb.lists, hb.was, hb.off, hb.off', fun j hj => ?_⟩, hp⟩, hbel, hrest⟩
  by_cases e : j = nC
  · subst e; rw [put1_at]; exact ⟨hX, hSm⟩
  · rw [put1_else _ _ _ _ (by omega)]; exact k5 j (by omega)

theorem ShelfQ.firstC {w : World} {B p nI : Nat} (hS : ShelfQ w B p nI 0) {v : Value} {X : List (Int × Int)} (hv : w.ownsRow B 43 1 v X.length (ccells X)) (hX : X.length ≤ 50000) (hSm : SmallC X) (hB : B ≤ w.heap.size) :
    Calls Tryz.prog 10 #[.pointer (some ⟨p, 0, none⟩), v] w fun e w' => e = .returned (.tuple #[]) ∧ ShelfQ w' B p nI 1 ∧ Below B w w' ∧ Rest 29 w w' :=
  hS.keepOffC (by omega) hv hX hSm hB (fun _ _ _ _ j hj => by omega)

/-- One list more, that was made behind those that are kept. -/
theorem ShelfQ.newC {W w : World} {B p nI nC : Nat} (hS : ShelfQ W B p nI nC) (hn : nC < 250) (hW : Below W.heap.size W w) {v : Value} {X : List (Int × Int)} (hv : w.ownsRow W.heap.size 43 1 v X.length (ccells X)) (hX : X.length ≤ 50000) (hSm : SmallC X) (hB : B ≤ W.heap.size) :
    Calls Tryz.prog 10 #[.pointer (some ⟨p, 0, none⟩), v] w fun e w' => e = .returned (.tuple #[]) ∧ ShelfQ w' B p nI (nC + 1) ∧ Below B w w' ∧ Rest 29 w w' := by
  obtain ⟨uI, uI', uC, uC', h1, gI, gC, hp⟩ := hS
  have gg := gC
  obtain ⟨V, V', C, k1, k2, k3, k4, k5⟩ := gg
  have hbk : BookCo #[uI, uI', .slice none 0 0, .slice none 0 0, .slice none 0 0, .slice none 0 0, uC, uC', .slice none 0 0, .slice none 0 0] w B p nC V V' C uC uC' := ⟨h1.below hW, k1.below hW, k2.below hW, k3, k4, hp⟩
  have gI' := gI.below hW
  refine (keepCosts_any hbk hn (ownsRow_lower hv hB) hX (freshC_off hv k1) (Nat.le_trans hB hW.size)).mono ?_
  rintro e w' ⟨rfl, ⟨u2, u3, V3, hb⟩, hbel, hrest⟩
  refine ⟨rfl, ⟨uI, uI', u2, u3, hb.book, gI'.rest hrest (by decide) (by decide), ⟨_, _, _, hb.lists, hb.was, hb.off, hb.off', fun j hj => ?_⟩, hp⟩, hbel, hrest⟩
  by_cases e : j = nC
  · subst e; rw [put1_at]; exact ⟨hX, hSm⟩
  · rw [put1_else _ _ _ _ (by omega)]; exact k5 j (by omega)
end Go.Proofs.YtdplflcaanmmiaaGreat
