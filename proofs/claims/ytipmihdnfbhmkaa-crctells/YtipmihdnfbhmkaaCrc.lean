/-
  Contracts of package crc: what step, Add, Now, Reset and Of answer and what they leave in memory, for every text; and the document's own sum.
-/
import Derived.Test.YtipmihdnfbhmkaaRows
import Derived.Test.YtipmihdnfbhmkaaCrcMath
import Derived.Test.YtipmihdnfbhmkaaKeeps
import Derived.WalkKit
import Derived.ProofKit
import Derived.OpenShut
import Derived.Below
import Derived.Deep.QuietTactic
import Derived.BigQuiet
import Derived.WalkSmall
import Derived.Handy
import Derived.RegionTactic
import Derived.Deep.OwnRows
import Derived.Laws.Concat
import Derived.Laws.BytesArg
namespace Go.Proofs.Ytipmihdnfbhmkaa
open Go.ChangeShapes Go.WideShapes Go.ChangeAt Go.RowKit

theorem wrap_u32 (n : Nat) (h : n < 4294967296) : IntKind.u32.wrap (n : Int) = (n : Int) := by
  rw [IntKind.wrap_u32]; omega

theorem and_one (t : Nat) (h : t < 4294967296) : bits .and .u32 (t : Int) 1 = ((t % 2 : Nat) : Int) := by
  have := u32_and_nat t 1 h (by decide)
  rw [Nat.and_one_is_mod] at this
  exact this

theorem xor_poly (t : Nat) (h : t < 4294967296) : bits .xor .u32 ((t : Int) / 2) 3988292384 = ((t / 2 ^^^ 3988292384 : Nat) : Int) := by
  have := u32_xor_nat (t / 2) 3988292384 (by omega) (by decide)
  simpa using this

theorem half_odd (t : Nat) (h : t % 2 = 1) : half t = t / 2 ^^^ 3988292384 := by rw [half, if_pos h]
theorem half_even (t : Nat) (h : t % 2 = 0) : half t = t / 2 := by rw [half, if_neg (by omega)]

theorem halves_less (k t : Nat) (h : k < 8) : halves (8 - k) t = halves (8 - (k + 1)) (half t) := by
  rw [show 8 - k = (8 - (k + 1)) + 1 by omega, halves]

set_option maxRecDepth 20000 in
set_option maxHeartbeats 1000000 in
theorem step_any (s x : Nat) (hs : s < 4294967296) (hx : x < 256) (w : World) :
    Calls Try.prog 16 #[.int .u32 s, .int .u8 x] w fun e w' => e = .returned (.int .u32 (halves 8 (s ^^^ x) : Nat)) ∧ w' = w := by
  have hx1 := u32_xor_nat s x hs (by omega)
  have hlt : s ^^^ x < 4294967296 := Nat.xor_lt_two_pow (n := 32) hs (by omega)
  go_enter Try.func16, Try.ntmps16
  go_wp2
  go_loopw [0, 10] (fun vs vk wr => ∃ t k : Nat, vs = .int .u32 t ∧ vk = .int .i64 k ∧ k ≤ 8 ∧ t < 4294967296 ∧ Hid (halves (8 - k) t = halves 8 (s ^^^ x)) ∧ wr = w) (fun _ vk _ => 8 - (intOf vk).toNat)
  case atStart => exact ⟨s ^^^ x, 0, rfl, rfl, by omega, hlt, rfl, rfl⟩
  case round =>
    obtain ⟨t, k, rfl, rfl, hk, ht, he, rfl⟩ := hrel
    have hand := and_one t ht
    have hxor : Hid (bits .xor .u32 ((t : Int) / 2) 3988292384 = ((t / 2 ^^^ 3988292384 : Nat) : Int)) := xor_poly t ht
    have hhl := half_lt t ht
    by_cases hlt : k < 8
    · have he1 : Hid (halves (8 - (k + 1)) (half t) = halves 8 (s ^^^ x)) := by show _ = _; rw [← he.out, halves_less k t hlt]
      rcases Nat.mod_two_eq_zero_or_one t with h2 | h2
      · have hb : (bits .and .u32 (t : Int) 1 == 1) = false := by rw [hand, h2]; rfl
        clear hand
        go_wp2
        go_roundw
        case rel => exact ⟨half t, k + 1, by rw [half_even t h2]; simp, by go_num, by omega, hhl, he1.out, trivial⟩
        case measure => simp [intOf]; omega
      · have hb : (bits .and .u32 (t : Int) 1 == 1) = true := by rw [hand, h2]; rfl
        clear hand
        go_wp2
        go_roundw
        case rel => exact ⟨half t, k + 1, by rw [half_odd t h2, hxor.out], by go_num, by omega, hhl, he1.out, trivial⟩
        case measure => simp [intOf]; omega
    · have h8 := he.out
      rw [show 8 - k = 0 by omega, halves] at h8
      have H8 : Hid (t = halves 8 (s ^^^ x)) := h8
      clear h8
      go_wp2
      go_ret
      rw [← H8.out]
      exact ⟨rfl, rfl⟩

theorem index_at (b : ByteArray) (i : Nat) (h : i < b.size) (w : World) : (Instr.index 9 (.string b) (.int .i64 (i : Int))).run Try.prog w = .ok (.int .u8 ((b[i]'h).toNat : Int)) w := by
  rw [run_index_string w 9 b .i64 _ Try.underlying9, dif_pos ⟨by omega, by omega⟩]
  rfl

/-- The Sum at block p, as it tells itself. -/
def SumAt (w : World) (p x : Nat) : Prop := w.heap[p]? = some (.cells #[.int .u32 x] 27 (0, 0)) ∧ x < 4294967296

theorem SumAt.told {w : World} {p x : Nat} (h : SumAt w p x) : w.cell? ⟨p, 0, none⟩ = some (.int .u32 x) := by simp [World.cell?, h.1]
theorem SumAt.free {w : World} {p x : Nat} (h : SumAt w p x) : w.frozen? ⟨p, 0, none⟩ = false := by simp [World.frozen?, h.1]
theorem SumAt.lt {w : World} {p x : Nat} (h : SumAt w p x) : p < w.heap.size := (Array.getElem?_eq_some_iff.1 h.1).1
theorem SumAt.kept {S : Nat → Prop} {w w' : World} {p x : Nat} (h : SumAt w p x) (hk : Kept S w w') (hp : ¬ S p) : SumAt w' p x := ⟨(hk.block p h.lt hp).trans h.1, h.2⟩
theorem SumAt.below {B : Nat} {w w' : World} {p x : Nat} (h : SumAt w p x) (hb : Below B w w') (hp : p < B) : SumAt w' p x := ⟨(hb.block p hp).trans h.1, h.2⟩
theorem SumAt.alloc {w : World} {p x : Nat} (h : SumAt w p x) (o : Obj) : SumAt (w.alloc o) p x := ⟨(Below.heap_alloc w o p h.lt).trans h.1, h.2⟩
theorem SumAt.new (w : World) : SumAt (w.alloc (.cells #[.int .u32 0] 27)) w.heap.size 0 := ⟨heap_alloc_new w _, by decide⟩
theorem SumAt.set {w : World} {p x : Nat} (h : SumAt w p x) (y : Nat) (hy : y < 4294967296) : SumAt (w.setCell ⟨p, 0, none⟩ (.int .u32 y)) p y := by
  refine ⟨?_, hy⟩
  simp only [World.setCell, Array.getElem?_modify, h.1]
  simp

/-- What a sum becomes by a text. -/
def more (x : Nat) (b : ByteArray) : Nat := csum (x ^^^ 4294967295) (nums b) ^^^ 4294967295

theorem turn_u32 (x : Nat) (h : x < 4294967296) : bits .xor .u32 IntKind.u32.max (x : Int) = ((x ^^^ 4294967295 : Nat) : Int) := by
  have := u32_xor_nat 4294967295 x (by decide) h
  rw [Nat.xor_comm] at this
  exact this

theorem more_lt (x : Nat) (h : x < 4294967296) (b : ByteArray) : more x b < 4294967296 :=
  Nat.xor_lt_two_pow (n := 32) (csum_lt _ (nums_byte b) _ (Nat.xor_lt_two_pow (n := 32) h (by decide))) (by decide)

set_option maxRecDepth 20000 in
set_option maxHeartbeats 1000000 in
theorem add_any {w : World} {p x : Nat} (h : SumAt w p x) (b : ByteArray) (hb : b.size ≤ 140737488351232) :
    Calls Try.prog 10 #[.pointer (some ⟨p, 0, none⟩), .string b] w fun e w' => e = .returned (.tuple #[]) ∧ SumAt w' p (more x b) ∧ Kept (· = p) w w' := by
  have c0 := h.told
  have f0 := h.free
  have ht := turn_u32 x h.2
  have hx := Nat.xor_lt_two_pow (n := 32) h.2 (show 4294967295 < 2 ^ 32 by decide)
  go_enter Try.func10, Try.ntmps10
  go_wp2
  go_loopw [4, 15] (fun vs vi wr => ∃ t i : Nat, vs = .int .u32 t ∧ vi = .int .i64 i ∧ i ≤ b.size ∧ t < 4294967296 ∧ Hid (csum t ((nums b).drop i) = csum (x ^^^ 4294967295) (nums b)) ∧ wr = w) (fun _ vi _ => b.size - (intOf vi).toNat)
  case atStart => exact ⟨x ^^^ 4294967295, 0, rfl, rfl, by omega, hx, rfl, rfl⟩
  case round =>
    obtain ⟨t, i, rfl, rfl, hi, htl, he, rfl⟩ := hrel
    by_cases hlt : i < b.size
    · have hix := index_at b i hlt
      have hdr := drop_nums b i hlt
      obtain ⟨c, hcc⟩ : ∃ c, c = (b[i]'hlt).toNat := ⟨_, rfl⟩
      have hc : c < 256 := by rw [hcc]; exact UInt8.toNat_lt _
      rw [← hcc] at hix hdr
      have hv := he.out
      rw [hdr, csum_cons] at hv
      have HV : Hid (csum (halves 8 (t ^^^ c)) ((nums b).drop (i + 1)) = csum (x ^^^ 4294967295) (nums b)) := hv
      clear hdr hcc he hv
      go_wp2_with (go_at_call 16; refine (step_any t c htl hc _).mono ?_; rintro e w1 ⟨rfl, rfl⟩)
      go_roundw
      case rel => exact ⟨halves 8 (t ^^^ c), i + 1, rfl, by go_num, by omega, halves_lt 8 _ (Nat.xor_lt_two_pow (n := 32) htl (by omega)), HV.out, trivial⟩
      case measure => simp [intOf]; omega
    · have ht2 := turn_u32 t htl
      have hd : (nums b).drop i = [] := List.drop_eq_nil_of_le (by rw [nums_length]; omega)
      have hv := he.out
      rw [hd, csum_nil] at hv
      have hm : Hid (t ^^^ 4294967295 = more x b) := by show _ = _; rw [hv]; rfl
      clear hv hd he
      have hml := more_lt x h.2 b
      go_wp2
      rw [hm.out]
      exact bodyPost_end (v := .tuple #[]) (by simp [results, Try.results10, go_sem]) rfl ⟨rfl, h.set _ hml, (Kept.refl _ _).setCell _ _ _ rfl⟩

theorem add_nil (b : ByteArray) (w : World) :
    Calls Try.prog 10 #[.pointer none, .string b] w fun e w' => e = .returned (.tuple #[]) ∧ w' = w := by
  go_enter Try.func10, Try.ntmps10
  go_wp2
  exact bodyPost_ret (v := .tuple #[]) (by simp [results, Try.results10, go_sem]) rfl ⟨rfl, rfl⟩

theorem now_any {w : World} {p x : Nat} (h : SumAt w p x) :
    Calls Try.prog 11 #[.pointer (some ⟨p, 0, none⟩)] w fun e w' => e = .returned (.int .u32 x) ∧ w' = w := by
  have c0 := h.told
  go_enter Try.func11, Try.ntmps11
  go_wp2
  go_ret
  exact ⟨rfl, rfl⟩

theorem now_nil (w : World) :
    Calls Try.prog 11 #[.pointer none] w fun e w' => e = .returned (.int .u32 0) ∧ w' = w := by
  go_enter Try.func11, Try.ntmps11
  go_wp2
  go_ret
  exact ⟨rfl, rfl⟩

theorem reset_any {w : World} {p x : Nat} (h : SumAt w p x) :
    Calls Try.prog 14 #[.pointer (some ⟨p, 0, none⟩)] w fun e w' => e = .returned (.tuple #[]) ∧ SumAt w' p 0 ∧ Kept (· = p) w w' := by
  have c0 := h.told
  have f0 := h.free
  go_enter Try.func14, Try.ntmps14
  go_wp2
  exact bodyPost_end (v := .tuple #[]) (by simp [results, Try.results14, go_sem]) rfl ⟨rfl, h.set _ (by decide), (Kept.refl _ _).setCell _ _ _ rfl⟩

theorem reset_nil (w : World) :
    Calls Try.prog 14 #[.pointer none] w fun e w' => e = .returned (.tuple #[]) ∧ w' = w := by
  go_enter Try.func14, Try.ntmps14
  go_wp2
  exact bodyPost_ret (v := .tuple #[]) (by simp [results, Try.results14, go_sem]) rfl ⟨rfl, rfl⟩

theorem more_zero (b : ByteArray) : more 0 b = crc b := by unfold more crc; rw [Nat.zero_xor]

theorem more_more (x : Nat) (a b : ByteArray) : more (more x a) b = more x (a ++ b) := by
  unfold more
  rw [Nat.xor_assoc, Nat.xor_self, Nat.xor_zero, nums_append, csum_append]

theorem more_crc (a b : ByteArray) : more (crc a) b = crc (a ++ b) := by rw [← more_zero, ← more_zero, more_more]

set_option maxRecDepth 20000 in
theorem of_any (b : ByteArray) (hb : b.size ≤ 140737488351232) (w : World) :
    Calls Try.prog 13 #[.string b] w fun e w' => e = .returned (.int .u32 (crc b : Nat)) ∧ Below w.heap.size w w' := by
  go_enter Try.func13, Try.ntmps13
  go_wp2_with (first
    | (go_at_call 11; refine (now_any hs).mono ?_; rintro e w2 ⟨rfl, rfl⟩)
    | (go_at_call 10; refine (add_any (SumAt.new w) b hb).mono ?_; rintro e w1 ⟨rfl, hs, hk⟩))
  go_ret
  rw [more_zero]
  exact ⟨rfl, (Below.refl _ _).alloc (Nat.le_refl _) _ |>.trans (hk.below (by simp) (by rintro k rfl; exact Nat.le_refl _))⟩

set_option maxRecDepth 20000 in
set_option maxHeartbeats 2000000 in
theorem ref_any (b : ByteArray) (hb : b.size ≤ 140737488351232) (w : World) :
    Calls Try.prog 12 #[.string b] w fun e w' => e = .returned (.int .u32 (crc b : Nat)) ∧ w' = w := by
  go_enter Try.func12, Try.ntmps12
  go_wp2
  go_loopw [3, 4] (fun vs vi wr => ∃ t i : Nat, vs = .int .u32 t ∧ vi = .int .i64 i ∧ i ≤ b.size ∧ t < 4294967296 ∧ Hid (csum t ((nums b).drop i) = csum 4294967295 (nums b)) ∧ wr = w) (fun _ vi _ => b.size - (intOf vi).toNat)
  case atStart => exact ⟨4294967295, 0, rfl, rfl, by omega, by decide, rfl, rfl⟩
  case round =>
    obtain ⟨t, i, rfl, rfl, hi, htl, he, rfl⟩ := hrel
    by_cases hlt : i < b.size
    · have hix := index_at b i hlt
      have hdr := drop_nums b i hlt
      obtain ⟨c, hcc⟩ : ∃ c, c = (b[i]'hlt).toNat := ⟨_, rfl⟩
      have hc : c < 256 := by rw [hcc]; exact UInt8.toNat_lt _
      rw [← hcc] at hix hdr
      have hv := he.out
      rw [hdr, csum_cons] at hv
      have HV : Hid (csum (halves 8 (t ^^^ c)) ((nums b).drop (i + 1)) = csum 4294967295 (nums b)) := hv
      clear hdr hcc he hv
      have hx1 := u32_xor_nat t c htl (by omega)
      have hltx : t ^^^ c < 4294967296 := Nat.xor_lt_two_pow (n := 32) htl (by omega)
      go_wp2
      go_loopw [3, 5] (fun vs vk wr2 => ∃ r k : Nat, vs = .int .u32 r ∧ vk = .int .i64 k ∧ k ≤ 8 ∧ r < 4294967296 ∧ Hid (halves (8 - k) r = halves 8 (t ^^^ c)) ∧ wr2 = wr) (fun _ vk _ => 8 - (intOf vk).toNat)
      case atStart => exact ⟨t ^^^ c, 0, rfl, rfl, by omega, hltx, rfl, rfl⟩
      case round =>
        obtain ⟨r, k, rfl, rfl, hk, hr, he, rfl⟩ := hrel
        have hand := and_one r hr
        have hxor : Hid (bits .xor .u32 ((r : Int) / 2) 3988292384 = ((r / 2 ^^^ 3988292384 : Nat) : Int)) := xor_poly r hr
        have hhl := half_lt r hr
        by_cases hlt : k < 8
        · have he1 : Hid (halves (8 - (k + 1)) (half r) = halves 8 (t ^^^ c)) := by show _ = _; rw [← he.out, halves_less k r hlt]
          rcases Nat.mod_two_eq_zero_or_one r with h2 | h2
          · have hb : (bits .and .u32 (r : Int) 1 == 1) = false := by rw [hand, h2]; rfl
            clear hand
            go_wp2
            go_roundw
            case rel => exact ⟨half r, k + 1, by rw [half_even r h2]; simp, by go_num, by omega, hhl, he1.out, trivial⟩
            case measure => simp [intOf]; omega
          · have hb : (bits .and .u32 (r : Int) 1 == 1) = true := by rw [hand, h2]; rfl
            clear hand
            go_wp2
            go_roundw
            case rel => exact ⟨half r, k + 1, by rw [half_odd r h2, hxor.out], by go_num, by omega, hhl, he1.out, trivial⟩
            case measure => simp [intOf]; omega
        · have h8 := he.out
          rw [show 8 - k = 0 by omega, halves] at h8
          have H8 : Hid (r = halves 8 (t ^^^ c)) := h8
          clear h8
          go_wp2
          go_roundw
          case rel => exact ⟨r, i + 1, rfl, by go_num, by omega, hr, by show _ = _; rw [H8.out]; exact HV.out, trivial⟩
          case measure => simp [intOf]; omega
    · have ht2 := turn_u32 t htl
      have hd : (nums b).drop i = [] := List.drop_eq_nil_of_le (by rw [nums_length]; omega)
      have hv := he.out
      rw [hd, csum_nil] at hv
      have hm : Hid (t ^^^ 4294967295 = crc b) := by show _ = _; rw [hv]; rfl
      clear hv hd he
      go_wp2
      go_ret
      rw [hm.out]
      exact ⟨rfl, rfl⟩

/-- A new row of bytes as a text. -/
theorem conv_new (w : World) (xs : List Nat) (c : Array Value) (hc : c = (xs.map fun x : Nat => Value.int .u8 (x : Int)).toArray) (n : Nat) (hn : xs.length = n) :
    (convert 32 9 (.slice (some ⟨w.heap.size, 0, none⟩) n n)).run Try.prog (w.alloc (.cells c 5)) = .ok (.string (bytesOf xs)) (w.alloc (.cells c 5)) := by
  rw [run_convert_bytes_arg (P := Try.prog) (w.alloc (.cells c 5)) 32 5 Try.underlying32 Try.underlying5 w.heap.size 0 n n (xs.map fun x : Nat => (x : Int)) (by rw [List.length_map, hn]) (fun i hi => by
    have hh : (w.alloc (.cells c 5)).heap[w.heap.size]? = some (.cells c 5 (0, 0)) := heap_alloc_new w _
    rw [Nat.zero_add, cell_of_row _ _ _ _ _ _ hh, hc]
    simp [List.getElem?_eq_getElem (show i < xs.length by omega)]) 9 Try.underlying9, bytesOf_strs]

theorem alive_any (w : World) : Calls Try.prog 9 #[] w fun e w' => e = .returned (.bool true) ∧ Below w.heap.size w w' := by
  have h1 := crc_123
  have h2 := crc_nil
  go_enter Try.func9, Try.ntmps9
  go_wp2_with (first
    | (have _h := later; go_at_call 13; refine (of_any ⟨#[]⟩ (by decide) _).mono ?_; rintro e w2 ⟨rfl, hb2⟩)
    | (go_at_call 13; refine (of_any ⟨#[49, 50, 51, 52, 53, 54, 55, 56, 57]⟩ (by decide) _).mono ?_; rintro e w1 ⟨rfl, hb⟩; have later : True := trivial))
  go_ret
  exact ⟨rfl, hb.trans (hb2.mono hb.size)⟩
end Go.Proofs.Ytipmihdnfbhmkaa
