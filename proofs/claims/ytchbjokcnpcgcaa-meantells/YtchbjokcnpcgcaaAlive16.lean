/-
  What all statements of chapter 16 call: alive. Words' bounds.
-/
import Derived.Test.YtchbjokcnpcgcaaMeanCode
import Derived.Test.YtchbjokcnpcgcaaMeanMath
import Derived.Test.YtchbjokcnpcgcaaBookInts1
namespace Go.Proofs.Ytchbjokcnpcgcaa
open Go.ChangeShapes Go.WideShapes Go.ChangeAt Go.RowKit

theorem word_of {n : Int} (h : (Lit.int .i64 n).wf = true) : n ≤ 9223372036854775807 := by
  simp only [Lit.wf, Bool.and_eq_true, IntKind.min, IntKind.max, IntKind.signed, IntKind.bits] at h
  simp at h
  omega
theorem word_low {n : Int} (h : (Lit.int .i64 n).wf = true) : -9223372036854775808 ≤ n := by
  simp only [Lit.wf, Bool.and_eq_true, IntKind.min, IntKind.max, IntKind.signed, IntKind.bits] at h
  simp at h
  omega

theorem fine_no {L : List ByteArray} (h : Fine L) : [] ∉ L.map nums := by
  intro hm
  obtain ⟨s, hs, he⟩ := List.mem_map.1 hm
  have := (((fine_iff L).1 h).2.1 s hs).1
  rw [← nums_length, he] at this
  simp at this

/-- A bound below 0 is one of 0. -/
theorem ofR_low {L : List ByteArray} {n : Int} (h : n ≤ 0) (zs : List Int) : ofR L n zs = meanR (L.map nums) 0 [] zs := by
  unfold ofR
  rw [show (max n 0).toNat = 0 by omega]

def L16 : List ByteArray := [⟨#[97, 98]⟩]
theorem L16_of : ofR L16 9 [97, 256] = ([97, 97, 98], 0) := by decide
theorem L16_txt : bytesOf (([97, 97, 98], 0) : List Nat × Nat).1 = ⟨#[97, 97, 98]⟩ := by decide
theorem L16_len : (sayT (L16.map nums) 256).length = 2 := by decide
theorem len16 {w : World} {d : Value} (h : DictV w d L16) : Calls Try.prog 14 #[d, .int .i64 256] w fun e w' => e = .returned (.int .i64 2) ∧ w' = w := len_in h (by decide) 256 (by unfold isT; decide)
theorem L16_in : isT (L16.map nums) 256 := by unfold isT; decide
theorem L16_right : decide (isI (L16.map nums) 256) = true := by decide
theorem L16_wrong : decide (isI (L16.map nums) 257) = false := by decide

set_option maxRecDepth 20000 in
set_option maxHeartbeats 2000000 in
theorem alive_16 (w : World) : Calls Try.prog 9 #[] w fun e w' => e = .returned (.bool true) ∧ Below w.heap.size w w' := by
  have HF : Hid (Fine L16) := alx_fine
  have HL : Hid (L16.length ≤ 1000) := by show _ ≤ _; decide
  go_enter Try.func9, Try.ntmps9
  go_wp2_with (first
    | (go_at_call 19; refine (make_fine (L := L16) (reads_built w #[.string ⟨#[97, 98]⟩] _ 1 rfl) HF.out).mono ?_; rintro e w1 ⟨p, rfl, hd, hb1⟩; have HD := hid (dict_v hd); have HW1 := hid (below_more ((Below.refl w.heap.size w).alloc (Nat.le_refl _) _) hb1); clear hd hb1)
    | (go_at_call 11; have hal : Below w1.heap.size w1 (w1.alloc (.cells #[.int .i64 97, .int .i64 256] 3)) := (Below.refl _ _).alloc (Nat.le_refl _) _; refine (of_any (zs := [97, 256]) (HD.out.below hal) HF.out (reads_built w1 #[.int .i64 97, .int .i64 256] _ 2 rfl) (by decide) 9 (by decide) (by decide)).mono ?_; rintro e w2 ⟨rfl, hb2⟩; rw [L16_of, L16_txt]; have HW2 := hid (below_more (HW1.out.alloc HW1.out.size _) hb2); have HD2 := hid ((HD.out.below hal).below hb2); clear hb2 hal)
    | (go_at_call 14; refine (len16 HD2.out).mono ?_; rintro e w3 ⟨rfl, rfl⟩; have later := hid True.intro)
    | (have _h := later2; go_at_call 15; refine (right_any HD2.out HL.out 257).mono ?_; rintro e w5 ⟨rfl, rfl⟩; rw [L16_wrong])
    | (go_at_call 15; refine (right_any HD2.out HL.out 256).mono ?_; rintro e w4 ⟨rfl, rfl⟩; rw [L16_right]; have later2 := hid True.intro))
  go_ret
  exact ⟨by simp, HW2.out⟩
end Go.Proofs.Ytchbjokcnpcgcaa
