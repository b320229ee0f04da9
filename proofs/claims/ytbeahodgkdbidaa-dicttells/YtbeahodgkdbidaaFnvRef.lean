/-
  Contract of the document's own name of bytes.
-/
import Derived.Test.YtbeahodgkdbidaaFnv
namespace Go.Proofs.Ytbeahodgkdbidaa
open Go.ChangeShapes Go.WideShapes Go.ChangeAt Go.RowKit

set_option maxRecDepth 20000 in
set_option maxHeartbeats 2000000 in
theorem fnvRef_any (b : ByteArray) (hb : b.size ≤ 140737488351232) (w : World) :
    Calls Try.prog 26 #[.string b] w fun e w' => e = .returned (.int .u64 (fnv b : Nat)) ∧ w' = w := by
  go_enter Try.func26, Try.ntmps26
  go_wp2
  go_loopw [3, 4] (fun vs vi wr => ∃ t i : Nat, vs = .int .u64 t ∧ vi = .int .i64 i ∧ i ≤ b.size ∧ t < 18446744073709551616 ∧ Hid (fsum t ((nums b).drop i) = fnv b) ∧ wr = w) (fun _ vi _ => b.size - (intOf vi).toNat)
  case atStart => exact ⟨14695981039346656037, 0, rfl, rfl, by omega, by decide, rfl, rfl⟩
  case round =>
    obtain ⟨t, i, rfl, rfl, hi, htl, he, rfl⟩ := hrel
    by_cases hlt : i < b.size
    · have hix := index_at b i hlt
      have hdr := drop_nums b i hlt
      obtain ⟨c, hcc⟩ : ∃ c, c = (b[i]'hlt).toNat := ⟨_, rfl⟩
      have hc : c < 256 := by rw [hcc]; exact UInt8.toNat_lt _
      rw [← hcc] at hix hdr
      have hv := he.out
      rw [hdr, fsum_cons] at hv
      have HV : Hid (fsum (fstep t c) ((nums b).drop (i + 1)) = fnv b) := hv
      clear hdr hcc he hv
      have hxo := u64_xor_nat t c htl (by omega)
      have hst := step_u64 t c
      go_wp2
      go_roundw
      case rel => exact ⟨fstep t c, i + 1, by rw [← hst], by go_num, by omega, fstep_lt t c, HV.out, trivial⟩
      case measure => simp [intOf]; omega
    · have hd : (nums b).drop i = [] := List.drop_eq_nil_of_le (by rw [nums_length]; omega)
      have hv := he.out
      rw [hd, fsum_nil] at hv
      have hm : Hid (t = fnv b) := hv
      clear hv hd he
      go_wp2
      go_ret
      rw [hm.out]
      exact ⟨rfl, rfl⟩
end Go.Proofs.Ytbeahodgkdbidaa
