/-
  Greedy's way through a text, token by token.
-/
import Derived.Test.YtcpflcoimphdcaaAlive13
namespace Go.Proofs.Ytcpflcoimphdcaa
open Go.ChangeShapes Go.WideShapes Go.ChangeAt Go.RowKit

theorem ints_at (xs : List Nat) (i : Nat) (h : i < xs.length) : (nats (ints xs))[i]? = some (.int .i64 ((xs[i]'h : Nat) : Int)) := by simp [nats, ints, h]

/-- Where greedy stands behind i tokens: what is left is parsed by the rest of them. -/
theorem drop_next {L : List ByteArray} (hL : Fine L) {y ts : List Nat} {i a : Nat} (h : ts.drop i = gA L (y.drop a)) (hi : i < ts.length) (_ha : a ≤ y.length) : a < y.length ∧ ts[i]'hi = gT L (y.drop a) ∧ ts.drop (i + 1) = gA L (y.drop (a + gN L (y.drop a))) := by
  have hne : y.drop a ≠ [] := by
    intro e
    rw [e, gA_nil] at h
    have := congrArg List.length h
    rw [List.length_drop] at this
    simp at this
    omega
  have hlt : a < y.length := by
    refine Nat.lt_of_not_le (fun h2 => hne (List.drop_eq_nil_of_le h2))
  rw [gA_cons hL hne, List.drop_eq_getElem_cons hi] at h
  injection h with h1 h2
  refine ⟨hlt, h1, ?_⟩
  rw [h2, List.drop_drop]

theorem drop_end {L : List ByteArray} (hL : Fine L) {y ts : List Nat} {i a : Nat} (h : ts.drop i = gA L (y.drop a)) (hi : ts.length ≤ i) (ha : a ≤ y.length) : a = y.length := by
  rw [List.drop_eq_nil_of_le hi] at h
  rcases Nat.lt_or_ge a y.length with h1 | h1
  · have hne : y.drop a ≠ [] := by
      intro e
      have := congrArg List.length e
      rw [List.length_drop] at this
      simp at this
      omega
    rw [gA_cons hL hne] at h
    cases h
  · omega

theorem gT_says {L : List ByteArray} (hL : Fine L) {b : ByteArray} {a : Nat} (ha : a < b.size) : sayT (L.map nums) (gT L ((nums b).drop a)) = ((nums b).drop a).take (gN L ((nums b).drop a)) := by
  have h := gN_takes hL _ (drop_some ha)
  exact tokT_says _ _ _ (fun c hc => nums_byte b c (List.mem_of_mem_drop hc)) h.1 h.2.1 h.2.2
theorem gT_is {L : List ByteArray} (b : ByteArray) (a : Nat) : isT (L.map nums) (gT L ((nums b).drop a)) := tokT_is _ _ _ (fun c hc => nums_byte b c (List.mem_of_mem_drop hc))

/-- What comes later than forty bytes does not matter. -/
theorem stands_ahead (P : List (List Nat)) (x z : List Nat) (h : 40 ≤ x.length) : standsT P 40 (x ++ z) = standsT P 40 x := by
  unfold standsT
  rw [show min 40 (x ++ z).length = 40 by rw [List.length_append]; omega, show min 40 x.length = 40 by omega]
  refine List.filter_congr (fun n hn => ?_)
  rw [List.mem_reverse, List.mem_range'_1] at hn
  rw [List.take_append_of_le_length (by omega)]

theorem g_ahead {L : List ByteArray} (hL : Fine L) (x z : List Nat) (h : 40 ≤ x.length) : gN L (x ++ z) = gN L x ∧ gT L (x ++ z) = gT L x := by
  have hne : x ≠ [] := by intro e; rw [e] at h; simp at h
  have h1 : gN L (x ++ z) = gN L x := by unfold gN firstT; rw [stands_ahead _ _ _ h]
  have h2 := gN_pos hL hne
  refine ⟨h1, ?_⟩
  unfold gT tokT
  rw [h1, List.take_append_of_le_length h2.2]
  cases x with
  | nil => exact absurd rfl hne
  | cons c t => rfl
end Go.Proofs.Ytcpflcoimphdcaa
