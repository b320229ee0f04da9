/-
  What all statements of chapter 17 call: alive. Lists of numbers that came in, their beginnings and ends.
-/
import Derived.Test.YtgmfjgiakgoofaaHistCode
import Derived.Test.YtgmfjgiakgoofaaInts
namespace Go.Proofs.Ytgmfjgiakgoofaa
open Go.ChangeShapes Go.WideShapes Go.ChangeAt Go.RowKit

/-- A list of numbers that came in, and its room. -/
theorem open_numbersC {H : Type} {enc : TypeId × Value → H} {W : World} {base fuel : Nat} {spare : Nat → Bool} {held : Bool} {a : Option Addr} {len cap : Nat} {x : DataW H × List MemPlace}
    (h : DataW.trod enc Try.prog W base spare held fuel 22 [.slice a len cap] = some x) : ∃ z, IsInts W a len z ∧ len ≤ cap := by
  obtain ⟨z, hz⟩ := open_numbers h
  refine ⟨z, hz, ?_⟩
  rcases open_ints Try.underlying22 Try.underlying3 Try.cellsInt h with ⟨hcs, _⟩ | ⟨ad, l, c, zs, hcs, _, hl, _⟩
  · simp only [List.cons.injEq, Value.slice.injEq, and_true] at hcs
    obtain ⟨_, rfl, rfl⟩ := hcs
    exact Nat.le_refl _
  · simp only [List.cons.injEq, Value.slice.injEq, and_true] at hcs
    obtain ⟨_, rfl, rfl⟩ := hcs
    exact hl

/-- A beginning of a list of numbers, by its slice. -/
theorem reads_begin {w : World} {a : Option Addr} {len cap c2 : Nat} {xs : List Int} {i : Nat} (h : Reads w (.slice a len cap) (nats xs)) (hi : i ≤ xs.length) : Reads w (.slice a i c2) (nats (xs.take i)) := by
  obtain ⟨a', c', e, ha⟩ := h
  simp only [Value.slice.injEq] at e
  obtain ⟨rfl, _, _⟩ := e
  have hl : (xs.take i).length = i := by rw [List.length_take]; omega
  refine ⟨a, c2, by rw [nats_length, hl], ?_⟩
  rcases ha with h0 | ⟨g, o, rfl, hg, hc⟩
  · rw [nats_length] at h0
    exact .inl (by rw [nats_length, hl]; omega)
  · refine .inr ⟨g, o, rfl, hg, fun j hj => ?_⟩
    rw [nats_length, hl] at hj
    rw [hc j (by rw [nats_length]; omega), nats_at _ j (by omega), nats_at _ j (by omega), List.getElem_take]

/-- An end of a list of numbers, by its slice. -/
theorem reads_end {w : World} {g o len cap c2 : Nat} {xs : List Int} {i : Nat} (h : Reads w (.slice (some ⟨g, o, none⟩) len cap) (nats xs)) (hi : i ≤ xs.length) : Reads w (.slice (some ⟨g, o + i, none⟩) (xs.length - i) c2) (nats (xs.drop i)) := by
  obtain ⟨a', c', e, ha⟩ := h
  simp only [Value.slice.injEq] at e
  obtain ⟨rfl, _, _⟩ := e
  have hl : (xs.drop i).length = xs.length - i := List.length_drop
  refine ⟨_, c2, by rw [nats_length, hl], ?_⟩
  rcases ha with h0 | ⟨g', o', e, hg, hc⟩
  · rw [nats_length] at h0
    exact .inl (by rw [nats_length, hl]; omega)
  · injection e with e
    injection e with e1 e2
    subst e1 e2
    refine .inr ⟨g, o + i, rfl, hg, fun j hj => ?_⟩
    rw [nats_length, hl] at hj
    rw [Nat.add_assoc, hc (i + j) (by rw [nats_length]; omega), nats_at _ (i + j) (by omega), nats_at _ j (by omega), List.getElem_drop]

theorem of17 : ofL 3 [1, 1, 2] = [0, 2, 1] := by decide
theorem of17e : ofE 3 [1, 1, 2] = 0 := by decide
theorem sum17 : ([0, 2, 1] : List Nat).sum = 3 := by decide
theorem use17 : useH [0, 2, 1] = 2 := by decide

set_option maxRecDepth 20000 in
set_option maxHeartbeats 2000000 in
theorem alive_17 (w : World) : Calls Try.prog 6 #[] w fun e w' => e = .returned (.bool true) ∧ Below w.heap.size w w' := by
  have hal : Below w.heap.size w (w.alloc (.cells #[.int .i64 1, .int .i64 1, .int .i64 2] 3)) := (Below.refl _ _).alloc (Nat.le_refl _) _
  have HA := hid hal
  clear hal
  go_enter Try.func6, Try.ntmps6
  go_wp2_with (first
    | (go_at_call 8; refine (of_any (ys := [1, 1, 2]) 3 (reads_built w #[.int .i64 1, .int .i64 1, .int .i64 2] _ 3 rfl) (by decide)).mono ?_; rintro e w1 ⟨v1, rfl, ho1, hb1⟩; rw [of17] at ho1; rw [of17e]; have HR1 := hid (ownsRow_reads ho1); have HB1 := hid (below_more HA.out hb1); clear ho1 hb1)
    | (go_at_call 12; have hal2 : Below w1.heap.size w1 (w1.alloc (.cells #[.int .i64 0, .int .i64 2, .int .i64 1] 3)) := (Below.refl _ _).alloc (Nat.le_refl _) _; refine (sameInts_any (xs := [0, 2, 1]) (ys := [0, 2, 1]) (HR1.out.below hal2) (reads_built w1 #[.int .i64 0, .int .i64 2, .int .i64 1] _ 3 rfl) (by decide) (by decide)).mono ?_; rintro e w2 ⟨rfl, hb2⟩; rw [decide_eq_true rfl]; have HR2 := hid ((HR1.out.below hal2).below hb2); have HB2 := hid (below_more (below_more HB1.out hal2) hb2); clear hb2 hal2)
    | (go_at_call 13; refine (total_any (l := [0, 2, 1]) HR2.out (by decide) (by decide)).mono ?_; rintro e w2 ⟨rfl, rfl⟩; rw [sum17])
    | (go_at_call 14; refine (used_any (l := [0, 2, 1]) HR2.out (by decide)).mono ?_; rintro e w2 ⟨rfl, rfl⟩; rw [use17]))
  all_goals go_ret
  all_goals exact ⟨by simp, HB2.out⟩
end Go.Proofs.Ytgmfjgiakgoofaa
