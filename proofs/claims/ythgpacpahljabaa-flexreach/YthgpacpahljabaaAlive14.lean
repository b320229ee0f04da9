/-
  What all statements of chapter 14 call: alive; flex's way through a text, token by token.
-/
import Derived.Test.YthgpacpahljabaaAlive13
import Derived.Test.YthgpacpahljabaaRefFlex
namespace Go.Proofs.Ythgpacpahljabaa
open Go.ChangeShapes Go.WideShapes Go.ChangeAt Go.RowKit

def L14 : List ByteArray := [⟨#[97, 98]⟩, ⟨#[98, 99, 100]⟩]
theorem L14_fine : Fine L14 := by
  rw [fine_iff]
  refine ⟨by decide, ?_, by decide, by decide⟩
  intro s hs
  simp [L14] at hs
  rcases hs with rfl | rfl <;> decide
theorem L14_xA : xA L14 (nums ⟨#[97, 98, 99, 100]⟩) = [97, 257] := by decide
theorem L14_rN : rN L14 ((nums ⟨#[97, 98, 99, 100]⟩).drop 0) 1 = 4 := by decide

set_option maxRecDepth 20000 in
set_option maxHeartbeats 2000000 in
theorem alive_14 (w : World) : Calls Try.prog 9 #[] w fun e w' => e = .returned (.bool true) ∧ Below w.heap.size w w' := by
  have HF := hid L14_fine
  go_enter Try.func9, Try.ntmps9
  go_wp2_with (first
    | (go_at_call 22; refine (make_fine (L := L14) (reads_built w #[.string ⟨#[97, 98]⟩, .string ⟨#[98, 99, 100]⟩] _ 2 rfl) HF.out).mono ?_; rintro e w1 ⟨p, rfl, hd, hb1⟩; have HD := hid (dict_v hd); have HW1 := hid (below_more ((Below.refl w.heap.size w).alloc (Nat.le_refl _) _) hb1); clear hd hb1)
    | (go_at_call 10; refine (parseX_any HD.out HF.out ⟨#[97, 98, 99, 100]⟩ (by decide)).mono ?_; rintro e w2 ⟨v2, rfl, ho2, hb2⟩; rw [L14_xA] at ho2; have HR2 := hid (ownsRow_reads ho2); have HW2 := hid (below_more HW1.out hb2); have HD2 := hid (HD.out.below hb2); clear ho2 hb2)
    | (go_at_call 17; have hal : Below w2.heap.size w2 (w2.alloc (.cells #[.int .i64 97, .int .i64 257] 3)) := (Below.refl _ _).alloc (Nat.le_refl _) _; refine (sameInts_any (xs := [97, 257]) (ys := [97, 257]) (HR2.out.below hal) (reads_built w2 #[.int .i64 97, .int .i64 257] _ 2 rfl) (by decide) (by decide)).mono ?_; rintro e w3 ⟨rfl, hb3⟩; rw [decide_eq_true rfl]; have HW3 := hid (below_more (HW2.out.alloc HW2.out.size _) hb3); have HD3 := hid ((HD2.out.below hal).below hb3); clear hb3 hal)
    | (go_at_call 15; refine (reach_any HD3.out HF.out ⟨#[97, 98, 99, 100]⟩ (by decide) 0 1 (by decide)).mono ?_; rintro e w4 ⟨rfl, rfl⟩; rw [L14_rN]))
  go_ret
  exact ⟨by simp, HW3.out⟩

theorem xA_means {L : List ByteArray} (hL : Fine L) (b : ByteArray) : meanT (L.map nums) (xA L (nums b)) = nums b := parsT_means _ _ (xN_takes hL) _ (nums_byte b)
theorem xA_tokens {L : List ByteArray} (hL : Fine L) (b : ByteArray) : ∀ t ∈ xA L (nums b), isT (L.map nums) t := parsT_tokens _ _ (xN_takes hL) _ (nums_byte b)
theorem xA_few {L : List ByteArray} (hL : Fine L) (b : ByteArray) : (xA L (nums b)).length ≤ b.size := by have := parsT_few _ _ (xN_takes hL) (nums b); rwa [nums_length] at this

/-- Where flex stands behind i tokens: what is left is parsed by the rest of them. -/
theorem dropX_next {L : List ByteArray} (hL : Fine L) {y ts : List Nat} {i a : Nat} (h : ts.drop i = xA L (y.drop a)) (hi : i < ts.length) (_ha : a ≤ y.length) : a < y.length ∧ ts[i]'hi = xT L (y.drop a) ∧ ts.drop (i + 1) = xA L (y.drop (a + xN L (y.drop a))) := by
  have hne : y.drop a ≠ [] := by
    intro e
    rw [e, xA_nil] at h
    have := congrArg List.length h
    rw [List.length_drop] at this
    simp at this
    omega
  have hlt : a < y.length := by
    refine Nat.lt_of_not_le (fun h2 => hne (List.drop_eq_nil_of_le h2))
  rw [xA_cons hL hne, List.drop_eq_getElem_cons hi] at h
  injection h with h1 h2
  refine ⟨hlt, h1, ?_⟩
  rw [h2, List.drop_drop]

theorem dropX_end {L : List ByteArray} (hL : Fine L) {y ts : List Nat} {i a : Nat} (h : ts.drop i = xA L (y.drop a)) (hi : ts.length ≤ i) (ha : a ≤ y.length) : a = y.length := by
  rw [List.drop_eq_nil_of_le hi] at h
  rcases Nat.lt_or_ge a y.length with h1 | h1
  · have hne : y.drop a ≠ [] := by
      intro e
      have := congrArg List.length e
      rw [List.length_drop] at this
      simp at this
      omega
    rw [xA_cons hL hne] at h
    cases h
  · omega

theorem xT_is {L : List ByteArray} (b : ByteArray) (a : Nat) : isT (L.map nums) (xT L ((nums b).drop a)) := tokT_is _ _ _ (fun c hc => nums_byte b c (List.mem_of_mem_drop hc))

/-- One comes no less far by what flex takes. -/
theorem xN_best {L : List ByteArray} (hL : Fine L) (y : List Nat) (n : Nat) (hn : n ∈ lensT (L.map nums) 40 y) : rN L y n ≤ rN L y (xN L y) ∧ (rN L y n = rN L y (xN L y) → n ≤ xN L y) := secondT_best _ 40 (phrases_short hL) y n hn
end Go.Proofs.Ythgpacpahljabaa
