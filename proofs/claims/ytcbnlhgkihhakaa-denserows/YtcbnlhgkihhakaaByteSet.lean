/-
  A set of bytes that the call makes, by a map of numbers to truths that are all true: is one there, one more, how many.
-/
import Derived.Test.YtcbnlhgkihhakaaBase
import Derived.Maps.OwnSet
namespace Go.Proofs.Ytcbnlhgkihhakaa
open Go.ChangeShapes Go.WideShapes Go.ChangeAt Go.RowKit Go.Maps

/-- How an element of such a set reads. -/
def trueElem (v : Value) : Option (DataW Unit × List MemPlace) :=
  match v with
  | .bool true => some (.agg [], [])
  | _ => none

theorem trueElem_is {v : Value} {z : DataW Unit × List MemPlace} (h : trueElem v = some z) : v = .bool true := by
  unfold trueElem at h
  split at h
  · rfl
  · cases h

theorem Try.keyedOct : Keyed Try.prog 5 := int_keyed Try.underlying5

theorem key_oct (n : Nat) (h : n < 256) : keyOf Try.prog 5 (.int .u8 (n : Int)) = some (.int .u8 (n : Int)) :=
  keyOf_int_mk Try.underlying5 (WalkArith.wf_u8 (by omega))

/-- Block b is the set of xs, which has none twice. -/
def SetB (w : World) (b : Nat) (xs : List Nat) : Prop :=
  ∃ D : DataW Unit, w.ownsMap Try.prog 5 trueElem b xs.length D ∧ (∀ n : Nat, Maps.has D (.int .u8 (n : Int)) = decide (n ∈ xs)) ∧ Maps.size D = xs.length

theorem zeroBoolB (w : World) : (zeroValue 4).run Try.prog w = .ok (.bool false) w := by kernel_rfl

theorem SetB.new (w : World) : SetB (w.alloc (.map #[] 0)) w.heap.size [] :=
  ⟨.map [], World.ownsMap_made _ _ _ _, fun n => by simp [Maps.has], rfl⟩

theorem SetB.same {w w' : World} {b : Nat} {xs : List Nat} (h : SetB w b xs) (hb : w'.heap[b]? = w.heap[b]?) : SetB w' b xs := by
  obtain ⟨D, ⟨es, clock, h1, h2⟩, h3⟩ := h
  exact ⟨D, ⟨es, clock, hb.trans h1, h2⟩, h3⟩

theorem SetB.lt {w : World} {b : Nat} {xs : List Nat} (h : SetB w b xs) : b < w.heap.size := by
  obtain ⟨D, h1, _⟩ := h
  exact h1.lt

theorem SetB.drewN {w : World} {b : Nat} {xs : List Nat} (h : SetB w b xs) (q : Nat) : SetB (w.drewN q) b xs :=
  h.same ((Kept.drewN (fun _ => False) w q).block b h.lt (fun e => e))

/-- Is a number there? -/
theorem SetB.look {w : World} {b : Nat} {xs : List Nat} (h : SetB w b xs) (n : Nat) (hn : n < 256) :
    (Instr.lookup 46 (.map (some b)) (.int .u8 (n : Int)) false).run Try.prog w = .ok (.bool (decide (n ∈ xs))) w := by
  obtain ⟨D, ⟨es, clock, hb, F, _, hD⟩, hh, _⟩ := h
  rw [← hh n]
  rcases Maps.fit_look false Try.keyedOct Try.underlying46 (zeroBoolB w) hb F (key_oct n hn) with ⟨hrun, _, hat⟩ | ⟨e0, y, _, _, hrun, hRv, hat, _⟩
  · rw [hD, Maps.has_false_of_atKey hat]
    exact hrun
  · rw [hD, Maps.has_true_of_atKey hat, hrun]
    simp [trueElem_is hRv]

/-- One more. -/
theorem SetB.add {w : World} {b : Nat} {xs : List Nat} (h : SetB w b xs) (n : Nat) (hn : n < 256) (hx : n ∉ xs) (hl : xs.length < 1000000) :
    ∃ w', (Instr.mapUpdate 46 (.map (some b)) (.int .u8 (n : Int)) (.bool true)).run Try.prog w = .ok () w' ∧ SetB w' b (xs ++ [n]) ∧ Kept (· = b) w w' := by
  obtain ⟨D, ho, hh, hs⟩ := h
  obtain ⟨w', hrun, ho', ht⟩ := ho.store Try.keyedOct Try.underlying46 (by unfold maxLen; omega) (key_oct n hn) (show trueElem (.bool true) = some (.agg [], []) from rfl)
  refine ⟨w', hrun, ⟨_, by rw [List.length_append]; exact ho', fun m => ?_, ?_⟩, ⟨ht.grown.os, ht.grown.tape, ht.grown.output, ht.grown.size, fun k hk hne => ht.grown.block k hk (fun e => hne (by injection e))⟩⟩
  · by_cases e : m = n
    · subst e
      rw [Maps.has_put_same ho.isMap (Try.keyedOct.key (key_oct m hn))]
      simp
    · have hne : Lit.int .u8 (m : Int) ≠ Lit.int .u8 (n : Int) := fun e2 => by
        injection e2 with _ e3
        exact e (by omega)
      rw [Maps.has_put_other hne, hh m]
      simp [e]
  · rw [Maps.size_put (ho.tidy Try.keyedOct), hh n, hs]
    simp [hx]

/-- How many. -/
theorem SetB.len {w : World} {b : Nat} {xs : List Nat} (h : SetB w b xs) (ty : TypeId) : (Builtin.len_ #[46] ty #[.map (some b)]).run Try.prog w = .ok (.int .i64 (xs.length : Int)) w := by
  obtain ⟨D, ho, hh, hs⟩ := h
  rw [ho.len Try.underlying46 ty, hs]
end Go.Proofs.Ytcbnlhgkihhakaa
