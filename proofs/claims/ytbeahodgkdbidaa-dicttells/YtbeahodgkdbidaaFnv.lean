/-
  Contracts of package fnv: what Add, Now and Of answer and what they leave in memory, for every text; and the document's own name.
-/
import Derived.Test.YtbeahodgkdbidaaRows
import Derived.Test.YtbeahodgkdbidaaFnvMath
import Derived.Test.YtbeahodgkdbidaaKeeps
import Derived.Test.YtbeahodgkdbidaaVari
import Derived.WalkKit
import Derived.ProofKit
import Derived.OpenShut
import Derived.Below
import Derived.Deep.QuietTactic
import Derived.BigQuiet
import Derived.WalkSmall
import Derived.Handy
import Derived.RegionTactic
import Derived.Deep.OwnRows
import Derived.Laws.Concat
import Derived.Laws.BytesArg
namespace Go.Proofs.Ytbeahodgkdbidaa
open Go.ChangeShapes Go.WideShapes Go.ChangeAt Go.RowKit

theorem step_u64 (t c : Nat) : IntKind.u64.wrap (((t ^^^ c : Nat) : Int) * 1099511628211) = (fstep t c : Int) := by
  unfold fstep
  simp [IntKind.wrap, IntKind.bits, IntKind.signed]


/-- The Hash at block p, as the name that it tells. -/
def HashAt (w : World) (p n : Nat) : Prop := w.heap[p]? = some (.cells #[.int .u64 ((n ^^^ 14695981039346656037 : Nat) : Int)] 98 (0, 0)) ∧ n < 18446744073709551616

theorem HashAt.told {w : World} {p x : Nat} (h : HashAt w p x) : w.cell? ⟨p, 0, none⟩ = some (.int .u64 ((x ^^^ 14695981039346656037 : Nat) : Int)) := by simp [World.cell?, h.1]
theorem HashAt.free {w : World} {p x : Nat} (h : HashAt w p x) : w.frozen? ⟨p, 0, none⟩ = false := by simp [World.frozen?, h.1]
theorem HashAt.lt {w : World} {p x : Nat} (h : HashAt w p x) : p < w.heap.size := (Array.getElem?_eq_some_iff.1 h.1).1
theorem HashAt.kept {S : Nat → Prop} {w w' : World} {p x : Nat} (h : HashAt w p x) (hk : Kept S w w') (hp : ¬ S p) : HashAt w' p x := ⟨(hk.block p h.lt hp).trans h.1, h.2⟩
theorem HashAt.below {B : Nat} {w w' : World} {p x : Nat} (h : HashAt w p x) (hb : Below B w w') (hp : p < B) : HashAt w' p x := ⟨(hb.block p hp).trans h.1, h.2⟩
theorem HashAt.alloc {w : World} {p x : Nat} (h : HashAt w p x) (o : Obj) : HashAt (w.alloc o) p x := ⟨(Below.heap_alloc w o p h.lt).trans h.1, h.2⟩
theorem HashAt.new (w : World) : HashAt (w.alloc (.cells #[.int .u64 0] 98)) w.heap.size (fnv ⟨#[]⟩) := by
  rw [fnv_nil]
  refine ⟨?_, by decide⟩
  rw [Nat.xor_self]
  exact heap_alloc_new w _
theorem HashAt.set {w : World} {p x : Nat} (h : HashAt w p x) (y : Nat) (hy : y < 18446744073709551616) : HashAt (w.setCell ⟨p, 0, none⟩ (.int .u64 ((y ^^^ 14695981039346656037 : Nat) : Int))) p y := by
  refine ⟨?_, hy⟩
  simp only [World.setCell, Array.getElem?_modify, h.1]
  simp

theorem to_start (x : Nat) (h : x < 18446744073709551616) : bits .xor .u64 (x : Int) 14695981039346656037 = ((x ^^^ 14695981039346656037 : Nat) : Int) :=
  u64_xor_nat x 14695981039346656037 h (by decide)

theorem from_start (x : Nat) (h : x < 18446744073709551616) : bits .xor .u64 ((x ^^^ 14695981039346656037 : Nat) : Int) 14695981039346656037 = (x : Int) := by
  have := u64_xor_nat (x ^^^ 14695981039346656037) 14695981039346656037 (Nat.xor_lt_two_pow (n := 64) h (by decide)) (by decide)
  rw [Nat.xor_assoc, Nat.xor_self, Nat.xor_zero] at this
  exact this

theorem now_any {w : World} {p x : Nat} (h : HashAt w p x) :
    Calls Try.prog 69 #[.pointer (some ⟨p, 0, none⟩)] w fun e w' => e = .returned (.int .u64 x) ∧ w' = w := by
  have c0 := h.told
  have hs := from_start x h.2
  generalize ((x ^^^ 14695981039346656037 : Nat) : Int) = y at c0 hs
  go_enter Try.func69, Try.ntmps69
  go_wp2
  go_ret
  exact ⟨rfl, rfl⟩

theorem now_nil (w : World) :
    Calls Try.prog 69 #[.pointer none] w fun e w' => e = .returned (.int .u64 0) ∧ w' = w := by
  go_enter Try.func69, Try.ntmps69
  go_wp2
  go_ret
  exact ⟨rfl, rfl⟩

theorem add_nil (b : ByteArray) (w : World) :
    Calls Try.prog 68 #[.pointer none, .string b] w fun e w' => e = .returned (.tuple #[]) ∧ w' = w := by
  go_enter Try.func68, Try.ntmps68
  go_wp2
  exact bodyPost_ret (v := .tuple #[]) (by simp [results, Try.results68, go_sem]) rfl ⟨rfl, rfl⟩

set_option maxRecDepth 20000 in
set_option maxHeartbeats 1000000 in
theorem add_any {w : World} {p x : Nat} (h : HashAt w p x) (b : ByteArray) (hb : b.size ≤ 140737488351232) :
    Calls Try.prog 68 #[.pointer (some ⟨p, 0, none⟩), .string b] w fun e w' => e = .returned (.tuple #[]) ∧ HashAt w' p (fsum x (nums b)) ∧ Kept (· = p) w w' := by
  have f0 := h.free
  have hx := h.2
  go_enter Try.func68, Try.ntmps68
  go_wp2_with (go_at_call 69; refine (now_any h).mono ?_; rintro e w1 ⟨rfl, rfl⟩)
  go_loopw [4, 12] (fun vs vi wr => ∃ t i : Nat, vs = .int .u64 t ∧ vi = .int .i64 i ∧ i ≤ b.size ∧ t < 18446744073709551616 ∧ Hid (fsum t ((nums b).drop i) = fsum x (nums b)) ∧ wr = w1) (fun _ vi _ => b.size - (intOf vi).toNat)
  case atStart => exact ⟨x, 0, rfl, rfl, by omega, hx, rfl, rfl⟩
  case round =>
    obtain ⟨t, i, rfl, rfl, hi, htl, he, rfl⟩ := hrel
    by_cases hlt : i < b.size
    · have hix := index_at b i hlt
      have hdr := drop_nums b i hlt
      obtain ⟨c, hcc⟩ : ∃ c, c = (b[i]'hlt).toNat := ⟨_, rfl⟩
      have hc : c < 256 := by rw [hcc]; exact UInt8.toNat_lt _
      rw [← hcc] at hix hdr
      have hv := he.out
      rw [hdr, fsum_cons] at hv
      have HV : Hid (fsum (fstep t c) ((nums b).drop (i + 1)) = fsum x (nums b)) := hv
      clear hdr hcc he hv
      have hxo := u64_xor_nat t c htl (by omega)
      have hst := step_u64 t c
      go_wp2
      go_roundw
      case rel => exact ⟨fstep t c, i + 1, by rw [← hst], by go_num, by omega, fstep_lt t c, HV.out, trivial⟩
      case measure => simp [intOf]; omega
    · have hd : (nums b).drop i = [] := List.drop_eq_nil_of_le (by rw [nums_length]; omega)
      have hv := he.out
      rw [hd, fsum_nil] at hv
      have hm : Hid (t = fsum x (nums b)) := hv
      clear hv hd he
      have hts := to_start t htl
      have c0 := h.told
      go_wp2
      rw [← hm.out]
      exact bodyPost_end (v := .tuple #[]) (by simp [results, Try.results68, go_sem]) rfl ⟨rfl, h.set _ htl, (Kept.refl _ _).setCell _ _ _ rfl⟩

theorem add_more {w : World} {p : Nat} {a : ByteArray} (h : HashAt w p (fnv a)) (b : ByteArray) (hb : b.size ≤ 140737488351232) :
    Calls Try.prog 68 #[.pointer (some ⟨p, 0, none⟩), .string b] w fun e w' => e = .returned (.tuple #[]) ∧ HashAt w' p (fnv (a ++ b)) ∧ Kept (· = p) w w' := by
  rw [fnv_append]
  exact add_any h b hb

theorem empty_more (b : ByteArray) : fnv (⟨#[]⟩ ++ b) = fnv b := by rw [fnv, nums_append]; rfl

set_option maxRecDepth 20000 in
theorem fnvOf_any (b : ByteArray) (hb : b.size ≤ 140737488351232) (w : World) :
    Calls Try.prog 40 #[.string b] w fun e w' => e = .returned (.int .u64 (fnv b : Nat)) ∧ Below w.heap.size w w' := by
  go_enter Try.func40, Try.ntmps40
  go_wp2_with (first
    | (go_at_call 69; refine (now_any hs).mono ?_; rintro e w2 ⟨rfl, rfl⟩)
    | (go_at_call 68; refine (add_more (HashAt.new w) b hb).mono ?_; rintro e w1 ⟨rfl, hs, hk⟩))
  go_ret
  rw [empty_more]
  exact ⟨rfl, (Below.refl _ _).alloc (Nat.le_refl _) _ |>.trans (hk.below (by simp) (by rintro k rfl; exact Nat.le_refl _))⟩
end Go.Proofs.Ytbeahodgkdbidaa
