/-
  A set of numbers that the call makes, by a map of numbers to truths that are all true: is one there, one more, how many.
-/
import Derived.Test.YtbaebdnhipkonaaBase
import Derived.Maps.OwnSet
namespace Go.Proofs.Ytbaebdnhipkonaa
open Go.ChangeShapes Go.WideShapes Go.ChangeAt Go.RowKit Go.Maps

/-- How an element of such a set reads. -/
def trueElem (v : Value) : Option (DataW Unit × List MemPlace) :=
  match v with
  | .bool true => some (.agg [], [])
  | _ => none

theorem trueElem_is {v : Value} {z : DataW Unit × List MemPlace} (h : trueElem v = some z) : v = .bool true := by
  unfold trueElem at h
  split at h
  · rfl
  · cases h

theorem Try.keyedInt : Keyed Try.prog 3 := int_keyed Try.underlying3

theorem key_nat (n : Nat) (h : n < 4611686018427387904) : keyOf Try.prog 3 (.int .i64 (n : Int)) = some (.int .i64 (n : Int)) :=
  keyOf_int_mk Try.underlying3 (WalkArith.wf_i64 (by omega))

/-- Block b is the set of xs, which has none twice. -/
def SetAt (w : World) (b : Nat) (xs : List Nat) : Prop :=
  ∃ D : DataW Unit, w.ownsMap Try.prog 3 trueElem b xs.length D ∧ (∀ n : Nat, Maps.has D (.int .i64 (n : Int)) = decide (n ∈ xs)) ∧ Maps.size D = xs.length

theorem zeroBool (w : World) : (zeroValue 4).run Try.prog w = .ok (.bool false) w := by kernel_rfl

theorem SetAt.new (w : World) : SetAt (w.alloc (.map #[] 0)) w.heap.size [] :=
  ⟨.map [], World.ownsMap_made _ _ _ _, fun n => by simp [Maps.has], rfl⟩

theorem SetAt.same {w w' : World} {b : Nat} {xs : List Nat} (h : SetAt w b xs) (hb : w'.heap[b]? = w.heap[b]?) : SetAt w' b xs := by
  obtain ⟨D, ⟨es, clock, h1, h2⟩, h3⟩ := h
  exact ⟨D, ⟨es, clock, hb.trans h1, h2⟩, h3⟩

theorem SetAt.lt {w : World} {b : Nat} {xs : List Nat} (h : SetAt w b xs) : b < w.heap.size := by
  obtain ⟨D, h1, _⟩ := h
  exact h1.lt

theorem SetAt.drewN {w : World} {b : Nat} {xs : List Nat} (h : SetAt w b xs) (q : Nat) : SetAt (w.drewN q) b xs :=
  h.same ((Kept.drewN (fun _ => False) w q).block b h.lt (fun e => e))

/-- Is a number there? -/
theorem SetAt.look {w : World} {b : Nat} {xs : List Nat} (h : SetAt w b xs) (n : Nat) (hn : n < 4611686018427387904) :
    (Instr.lookup 51 (.map (some b)) (.int .i64 (n : Int)) false).run Try.prog w = .ok (.bool (decide (n ∈ xs))) w := by
  obtain ⟨D, ⟨es, clock, hb, F, _, hD⟩, hh, _⟩ := h
  rw [← hh n]
  rcases Maps.fit_look false Try.keyedInt Try.underlying51 (zeroBool w) hb F (key_nat n hn) with ⟨hrun, _, hat⟩ | ⟨e0, y, _, _, hrun, hRv, hat, _⟩
  · rw [hD, Maps.has_false_of_atKey hat]
    exact hrun
  · rw [hD, Maps.has_true_of_atKey hat, hrun]
    simp [trueElem_is hRv]

/-- One more. -/
theorem SetAt.add {w : World} {b : Nat} {xs : List Nat} (h : SetAt w b xs) (n : Nat) (hn : n < 4611686018427387904) (hx : n ∉ xs) (hl : xs.length < 1000000) :
    ∃ w', (Instr.mapUpdate 51 (.map (some b)) (.int .i64 (n : Int)) (.bool true)).run Try.prog w = .ok () w' ∧ SetAt w' b (xs ++ [n]) ∧ Kept (· = b) w w' := by
  obtain ⟨D, ho, hh, hs⟩ := h
  obtain ⟨w', hrun, ho', ht⟩ := ho.store Try.keyedInt Try.underlying51 (by unfold maxLen; omega) (key_nat n hn) (show trueElem (.bool true) = some (.agg [], []) from rfl)
  refine ⟨w', hrun, ⟨_, by rw [List.length_append]; exact ho', fun m => ?_, ?_⟩, ⟨ht.grown.os, ht.grown.tape, ht.grown.output, ht.grown.size, fun k hk hne => ht.grown.block k hk (fun e => hne (by injection e))⟩⟩
  · by_cases e : m = n
    · subst e
      rw [Maps.has_put_same ho.isMap (Try.keyedInt.key (key_nat m hn))]
      simp
    · have hne : Lit.int .i64 (m : Int) ≠ Lit.int .i64 (n : Int) := fun e2 => by
        injection e2 with _ e3
        exact e (by omega)
      rw [Maps.has_put_other hne, hh m]
      simp [e]
  · rw [Maps.size_put (ho.tidy Try.keyedInt), hh n, hs]
    simp [hx]

/-- How many. -/
theorem SetAt.len {w : World} {b : Nat} {xs : List Nat} (h : SetAt w b xs) (ty : TypeId) : (Builtin.len_ #[51] ty #[.map (some b)]).run Try.prog w = .ok (.int .i64 (xs.length : Int)) w := by
  obtain ⟨D, ho, hh, hs⟩ := h
  rw [ho.len Try.underlying51 ty, hs]
end Go.Proofs.Ytbaebdnhipkonaa
