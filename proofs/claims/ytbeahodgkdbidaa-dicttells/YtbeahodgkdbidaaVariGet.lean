/-
  Contract of package vari's Get, for every text.
-/
import Derived.Test.YtbeahodgkdbidaaVari
namespace Go.Proofs.Ytbeahodgkdbidaa
open Go.ChangeShapes Go.WideShapes Go.ChangeAt Go.RowKit

/-- The machine's 'or' of seven bits more. -/
theorem or_more (a c i : Nat) (hi : i ≤ 4) (ha : a < 128 ^ i) : bits .or .i64 (a : Int) (wrap64 ((c : Int) % 128 * 2 ^ (7 * i))) = ((a + c % 128 * 128 ^ i : Nat) : Int) := by
  have hp : 128 ^ i = 2 ^ (7 * i) := by rw [Nat.pow_mul]
  have h1 : (128 : Nat) ^ i ≤ 128 ^ 4 := Nat.pow_le_pow_right (by decide) hi
  have h2 : c % 128 * 2 ^ (7 * i) ≤ 127 * 128 ^ 4 := Nat.mul_le_mul (by omega) (by rw [← hp]; exact h1)
  have e : (c : Int) % 128 * 2 ^ (7 * i) = ((c % 128 * 2 ^ (7 * i) : Nat) : Int) := by simp
  have hw : ∀ n : Int, 0 ≤ n → n < 2 ^ 63 → IntKind.i64.wrap n = n := fun n h₀ h₁ => by rw [IntKind.wrap_i64]; omega
  rw [e, IntWalk.wrap64_in _ ⟨by omega, by omega⟩, (bits_nat .i64 63 (by decide) hw a (c % 128 * 2 ^ (7 * i)) (by omega) (by omega)).2, hp]
  rw [hp] at ha
  rw [Nat.or_comm, Nat.mul_comm (c % 128), ← Nat.two_pow_add_eq_or_of_lt ha, Nat.add_comm]


set_option maxRecDepth 20000 in
set_option maxHeartbeats 1000000 in
theorem get_any (b : ByteArray) (hb : b.size ≤ 140737488351232) (w : World) :
    Calls Try.prog 70 #[.string b] w fun e w' => e = .returned (.tuple #[.int .i64 ((vget b).1 : Nat), .int .i64 ((vget b).2.1 : Nat), .int .i64 ((vget b).2.2 : Nat)]) ∧ w' = w := by
  go_enter Try.func70, Try.ntmps70
  go_wp2
  go_loopw [5, 6] (fun va vi wr => ∃ a i : Nat, va = .int .i64 a ∧ vi = .int .i64 i ∧ i ≤ b.size ∧ i ≤ 4 ∧ Hid (a < 128 ^ i) ∧ Hid (vgo ((nums b).drop i) i a = vget b) ∧ wr = w) (fun _ vi _ => b.size - (intOf vi).toNat)
  case atStart => exact ⟨0, 0, rfl, rfl, by omega, by omega, by show 0 < 1; decide, rfl, rfl⟩
  case round =>
    obtain ⟨a, i, rfl, rfl, hi, hi4, ha, he, rfl⟩ := hrel
    by_cases hlt : i < b.size
    · have hix := index_at b i hlt
      have hdr := drop_nums b i hlt
      obtain ⟨c, hcc⟩ : ∃ c, c = (b[i]'hlt).toNat := ⟨_, rfl⟩
      have hc : c < 256 := by rw [hcc]; exact UInt8.toNat_lt _
      rw [← hcc] at hix hdr
      have hv := he.out
      rw [hdr, vgo] at hv
      clear hdr hcc he
      have hw := wrap_byte c hc
      have hor := or_more a c i hi4 ha.out
      have hor2 : Hid (bits .or .i64 (a : Int) (wrap64 ((c : Int) % 128 * 2 ^ (7 * i))) = ((a + c % 128 * 128 ^ i : Nat) : Int)) := hor
      clear hor
      by_cases h4 : 4 ≤ i
      · have hn4 : ((i : Int) == 4) = true := beq_iff_eq.2 (by omega)
        by_cases h15 : 15 < c
        · rw [if_pos ⟨by omega, h15⟩] at hv
          have hb15 : decide ((15 : Int) < (c : Int)) = true := decide_eq_true (by omega)
          go_wp2
          refine bodyPost_ret (v := .tuple #[.int .i64 0, .int .i64 0, .int .i64 4]) (by simp [results, Try.results70, go_sem]) rfl ⟨?_, rfl⟩
          rw [← hv]; rfl
        · rw [if_neg (by omega), if_neg (by omega)] at hv
          have hb15 : decide ((15 : Int) < (c : Int)) = false := decide_eq_false (by omega)
          have hbi : decide ((0 : Int) < (i : Int)) = true := decide_eq_true (by omega)
          by_cases h0 : c ≤ 0
          · rw [if_pos ⟨by omega, by omega⟩] at hv
            have hb0 : ((c : Int) == 0) = true := beq_iff_eq.2 (by omega)
            go_wp2
            refine bodyPost_ret (v := .tuple #[.int .i64 0, .int .i64 0, .int .i64 3]) (by simp [results, Try.results70, go_sem]) rfl ⟨?_, rfl⟩
            rw [← hv]; rfl
          · rw [if_neg (by omega)] at hv
            have hb0 : ((c : Int) == 0) = false := beq_false_of_ne (by omega)
            go_wp2
            refine bodyPost_ret (v := .tuple #[.int .i64 (bits .or .i64 (a : Int) (wrap64 ((c : Int) % 128 * 2 ^ (7 * i)))), .int .i64 ((i : Int) + 1), .int .i64 0]) (by simp [results, Try.results70, go_sem]) rfl ⟨?_, rfl⟩
            rw [hor2.out, ← hv]; rfl
      · rw [if_neg (by omega)] at hv
        have hn4 : ((i : Int) == 4) = false := beq_false_of_ne (by omega)
        by_cases h128 : 128 ≤ c
        · rw [if_pos h128] at hv
          have HV : Hid (vgo ((nums b).drop (i + 1)) (i + 1) (a + c % 128 * 128 ^ i) = vget b) := hv
          clear hv
          go_wp2
          go_roundw
          case rel =>
            refine ⟨a + c % 128 * 128 ^ i, i + 1, by rw [hor2.out], by go_num, by omega, by omega, ?_, HV.out, trivial⟩
            show a + c % 128 * 128 ^ i < 128 ^ (i + 1)
            have h1 := ha.out
            have h2 : (c % 128 + 1) * 128 ^ i ≤ 128 * 128 ^ i := Nat.mul_le_mul_right _ (by omega)
            rw [Nat.pow_succ, Nat.mul_comm (128 ^ i) 128]
            rw [Nat.add_mul] at h2
            omega
          case measure => simp [intOf]; omega
        · rw [if_neg h128] at hv
          by_cases h0 : c ≤ 0
          · have hb0 : ((c : Int) == 0) = true := beq_iff_eq.2 (by omega)
            by_cases hi0 : 0 < i
            · rw [if_pos ⟨by omega, hi0⟩] at hv
              have hbi : decide ((0 : Int) < (i : Int)) = true := decide_eq_true (by omega)
              go_wp2
              refine bodyPost_ret (v := .tuple #[.int .i64 0, .int .i64 0, .int .i64 3]) (by simp [results, Try.results70, go_sem]) rfl ⟨?_, rfl⟩
              rw [← hv]; rfl
            · rw [if_neg (by omega)] at hv
              have hbi : decide ((0 : Int) < (i : Int)) = false := decide_eq_false (by omega)
              go_wp2
              refine bodyPost_ret (v := .tuple #[.int .i64 (bits .or .i64 (a : Int) (wrap64 ((c : Int) % 128 * 2 ^ (7 * i)))), .int .i64 ((i : Int) + 1), .int .i64 0]) (by simp [results, Try.results70, go_sem]) rfl ⟨?_, rfl⟩
              rw [hor2.out, ← hv]; rfl
          · rw [if_neg (by omega)] at hv
            have hb0 : ((c : Int) == 0) = false := beq_false_of_ne (by omega)
            go_wp2
            refine bodyPost_ret (v := .tuple #[.int .i64 (bits .or .i64 (a : Int) (wrap64 ((c : Int) % 128 * 2 ^ (7 * i)))), .int .i64 ((i : Int) + 1), .int .i64 0]) (by simp [results, Try.results70, go_sem]) rfl ⟨?_, rfl⟩
            rw [hor2.out, ← hv]; rfl
    · have hd : (nums b).drop i = [] := List.drop_eq_nil_of_le (by rw [nums_length]; omega)
      have hv := he.out
      rw [hd, vgo] at hv
      have hsz : ((i : Int) == (b.size : Int)) = true := beq_iff_eq.2 (by omega)
      go_wp2
      refine bodyPost_ret (v := .tuple #[.int .i64 0, .int .i64 0, .int .i64 2]) (by simp [results, Try.results70, go_sem]) rfl ⟨?_, rfl⟩
      rw [← hv]; rfl
end Go.Proofs.Ytbeahodgkdbidaa
