/-
  Contracts of package bits' Writer, the second part: Put, Len and Bytes by what the bits are.
-/
import Derived.Test.YtlnhfdcmnlinkaaBitPut
namespace Go.Proofs.Ytlnhfdcmnlinkaa
open Go.ChangeShapes Go.WideShapes Go.ChangeAt Go.RowKit

theorem put_any {B : Nat} {w : World} {p : Nat} {v : Value} {N L : Nat} (h : WrAt B w p v N L) (x n : Nat) (hn : n ≤ 32) (hx : x < 2 ^ n) (hL : L + n ≤ 562949953421312) :
    Calls Try.prog 11 #[.pointer (some ⟨p, 0, none⟩), .int .i64 x, .int .i64 n] w fun e w' => e = .returned (.bool true) ∧ ∃ v', WrAt B w' p v' (N * 2 ^ n + x) (L + n) ∧ Kept (Foot p v) w w' ∧ (v'.ownBlock = v.ownBlock ∨ ∃ g, v'.ownBlock = some g ∧ w.heap.size ≤ g) := by
  refine (put_core h.cells h.row h.base h.apart (Nat.mod_lt _ (Nat.two_pow_pos _)) (by omega) (by have := h.small; omega) x n hn hx).mono ?_
  rintro e w' ⟨rfl, v', h1, h2, h3, h4, h5⟩
  have hm : (L % 8 + n) % 8 = (L + n) % 8 := by omega
  have hk : L / 8 + (L % 8 + n) / 8 = (L + n) / 8 := by omega
  have hN : N * 2 ^ n + x = (N / 2 ^ (L % 8)) * 2 ^ (L % 8 + n) + (N % 2 ^ (L % 8) * 2 ^ n + x) := by
    conv => lhs; rw [← Nat.div_add_mod N (2 ^ (L % 8))]
    rw [Nat.pow_add, Nat.add_mul, Nat.mul_comm (2 ^ (L % 8)), Nat.mul_assoc]; omega
  have hP : N % 2 ^ (L % 8) * 2 ^ n + x < 2 ^ (L % 8 + n) := by
    have h1 : N % 2 ^ (L % 8) + 1 ≤ 2 ^ (L % 8) := Nat.mod_lt _ (Nat.two_pow_pos _)
    have h2 := Nat.mul_le_mul_right (2 ^ n) h1
    rw [Nat.pow_add]; rw [Nat.add_mul] at h2; omega
  have e1 : (N * 2 ^ n + x) % 2 ^ ((L + n) % 8) = (N % 2 ^ (L % 8) * 2 ^ n + x) % 2 ^ ((L + n) % 8) := by
    rw [hN, show L % 8 + n = (L % 8 + n) / 8 * 8 + (L + n) % 8 by omega, Nat.pow_add, ← Nat.mul_assoc, Nat.mul_comm _ (2 ^ ((L + n) % 8)), Nat.mul_add_mod]
  have e2 : (N * 2 ^ n + x) / 2 ^ ((L + n) % 8) = (N / 2 ^ (L % 8)) * 256 ^ ((L % 8 + n) / 8) + (N % 2 ^ (L % 8) * 2 ^ n + x) / 2 ^ ((L + n) % 8) := by
    conv => lhs; rw [hN, show L % 8 + n = (L % 8 + n) / 8 * 8 + (L + n) % 8 by omega, Nat.pow_add, ← Nat.mul_assoc, Nat.mul_comm _ (2 ^ ((L + n) % 8)), Nat.mul_add_div (Nat.two_pow_pos _)]
    rw [pow256, Nat.mul_comm 8]
  have e3 : (N % 2 ^ (L % 8) * 2 ^ n + x) / 2 ^ ((L + n) % 8) < 256 ^ ((L % 8 + n) / 8) := by
    rw [Nat.div_lt_iff_lt_mul (Nat.two_pow_pos _), pow256, ← Nat.pow_add, show 8 * ((L % 8 + n) / 8) + (L + n) % 8 = L % 8 + n by omega]
    exact hP
  rw [hm] at h1 h2
  refine ⟨rfl, v', ⟨?_, ?_, h.base, h3, ?_, hL⟩, h4, h5⟩
  · rw [e1]; exact h1
  · rw [e2, ← hk, be_cat _ _ _ _ e3]; exact h2
  · rw [Nat.pow_add]
    have h1 : N + 1 ≤ 2 ^ L := h.fits
    have h2 := Nat.mul_le_mul_right (2 ^ n) h1
    rw [Nat.add_mul] at h2; omega

theorem put_no {w : World} {p : Nat} (x n : Int) (hno : n < 0 ∨ 32 < n ∨ x < 0 ∨ (2 : Int) ^ n.toNat ≤ x) :
    Calls Try.prog 11 #[.pointer (some ⟨p, 0, none⟩), .int .i64 x, .int .i64 n] w fun e w' => e = .returned (.bool false) ∧ w' = w := by
  by_cases h1 : n < 0
  · go_enter Try.func11, Try.ntmps11
    go_wp2
    go_ret
    exact ⟨rfl, rfl⟩
  · by_cases h2 : 32 < n
    · go_enter Try.func11, Try.ntmps11
      go_wp2
      go_ret
      exact ⟨rfl, rfl⟩
    · by_cases h3 : x < 0
      · go_enter Try.func11, Try.ntmps11
        go_wp2
        go_ret
        exact ⟨rfl, rfl⟩
      · obtain ⟨m, rfl⟩ := Int.eq_ofNat_of_zero_le (Int.not_lt.1 h1)
        have hq : (x / 2 ^ m != 0) = true := by
          have h4 : (2 : Int) ^ m ≤ x := by
            rcases hno with h | h | h | h
            · omega
            · omega
            · omega
            · simpa using h
          have h5 : 0 < x / 2 ^ m := Int.le_ediv_of_mul_le (Int.pow_pos (by decide)) (by omega)
          simp only [bne_iff_ne, ne_eq]; omega
        go_enter Try.func11, Try.ntmps11
        go_wp2
        go_ret
        exact ⟨rfl, rfl⟩

theorem put_nil {w : World} (x n : Int) :
    Calls Try.prog 11 #[.pointer none, .int .i64 x, .int .i64 n] w fun e w' => e = .returned (.bool false) ∧ w' = w := by
  go_enter Try.func11, Try.ntmps11
  go_wp2
  go_ret
  exact ⟨rfl, rfl⟩

theorem len_any {B : Nat} {w : World} {p : Nat} {v : Value} {N L : Nat} (h : WrAt B w p v N L) :
    Calls Try.prog 15 #[.pointer (some ⟨p, 0, none⟩)] w fun e w' => e = .returned (.int .i64 (L : Int)) ∧ ∃ k, w' = w.drewN k := by
  obtain ⟨hc, hr, _, _, _, hs⟩ := id h
  obtain ⟨ao, cap, rfl⟩ := ownsRow_slice hr
  have c0 : w.cell? ⟨p, 0, none⟩ = some (.slice ao (L / 8) cap) := by simp [World.cell?, hc]
  have c2 : w.cell? ⟨p, 2, none⟩ = some (.int .i64 (L % 8 : Nat)) := by simp [World.cell?, hc]
  go_enter Try.func15, Try.ntmps15
  go_wp2
  go_quiet (fail)
  go_wp2
  go_ret
  refine ⟨?_, _, rfl⟩
  have e : 8 * ((L : Int) / 8) + (L : Int) % 8 = L := by omega
  show Ending.returned (.int .i64 (8 * ((L : Int) / 8) + (L : Int) % 8)) = _
  rw [e]

theorem len_nil {w : World} :
    Calls Try.prog 15 #[.pointer none] w fun e w' => e = .returned (.int .i64 0) ∧ w' = w := by
  go_enter Try.func15, Try.ntmps15
  go_wp2
  go_ret
  exact ⟨rfl, rfl⟩

/-- Numbers as bytes. -/
def bytesOf (xs : List Nat) : ByteArray := ⟨(xs.map UInt8.ofNat).toArray⟩

theorem bytesOf_nums (xs : List Nat) : strOfNums (xs.map fun x : Nat => (x : Int)) = bytesOf xs := by
  simp [strOfNums, bytesOf, List.map_map, Function.comp_def]

theorem conv_own {w : World} {B : Nat} {v : Value} {n : Nat} {xs : List Nat} (h : w.ownsRow B 5 1 v n (octs xs)) :
    (convert 25 9 v).run Try.prog w = .ok (.string (bytesOf xs)) w := by
  have hl : xs.length = n := by have := h.1; rw [octs_length] at this; omega
  rcases h.2 with ⟨rfl, rfl⟩ | ⟨g, cap, cur, rfl, hb, hh, hn, _, hcs, hcur⟩
  · obtain rfl : xs = [] := List.eq_nil_of_length_eq_zero hl
    exact run_convert_bytes_nil w 25 5 Try.underlying25 Try.underlying5 0 0 9 Try.underlying9
  · have := run_convert_bytes_arg (P := Try.prog) w 25 5 Try.underlying25 Try.underlying5 g 0 n cap (xs.map fun x : Nat => (x : Int)) (by simpa using hl) (fun i hi => by
      have hc : (octs xs)[i]? = some (.int .u8 (((xs.map fun x : Nat => (x : Int))).getD i 0)) := by
        simp only [octs, List.getElem?_map, List.getD]
        rw [List.getElem?_eq_getElem (by omega)]
        rfl
      rw [← hcur, List.getElem?_take, if_pos (by omega), Array.getElem?_toList] at hc
      rw [Nat.zero_add, cell_of_row w g i cur _ _ hh]
      exact hc) 9 Try.underlying9
    rw [this, bytesOf_nums]

theorem conv_one (w : World) (y : Int) : (convert 25 9 (.slice (some ⟨w.heap.size, 0, none⟩) 1 1)).run Try.prog (w.alloc (.cells #[.int .u8 y] 5)).drew = .ok (.string (strOfNums [y])) (w.alloc (.cells #[.int .u8 y] 5)).drew :=
  run_convert_bytes_arg (P := Try.prog) (w.alloc (.cells #[.int .u8 y] 5)).drew 25 5 Try.underlying25 Try.underlying5 w.heap.size 0 1 1 [y] rfl (fun i hi => by
    obtain rfl : i = 0 := by omega
    have hh : (w.alloc (.cells #[.int .u8 y] 5)).drew.heap[w.heap.size]? = some (.cells #[.int .u8 y] 5 (0, 0)) := heap_alloc_new w _
    rw [Nat.zero_add, cell_of_row _ _ _ _ _ _ hh]
    rfl) 9 Try.underlying9

theorem bytesOf_size (xs : List Nat) : (bytesOf xs).size = xs.length := by simp [bytesOf, ByteArray.size]

theorem pack_whole (N L : Nat) (hz : L % 8 = 0) : bytesOf (be N (L / 8)) = packB N L := by
  have hp : pad L = 0 := by unfold pad; omega
  have hm : (L + 7) / 8 = L / 8 := by omega
  unfold packB bytesOf
  rw [hp, hm, Nat.pow_zero, Nat.mul_one]

theorem bytesOf_snoc (xs : List Nat) (y : Nat) : bytesOf xs ++ strOfNums [(y : Int)] = bytesOf (xs ++ [y]) := by
  apply ByteArray.ext
  simp [bytesOf, strOfNums]

theorem pack_part (N L P c : Nat) (hc : c = L % 8) (hP : P = N % 2 ^ (L % 8)) (hz : c ≠ 0) : bytesOf (be (N / 2 ^ (L % 8)) (L / 8)) ++ strOfNums [wrap64 ((P : Int) * 2 ^ (8 - c)) % 256] = packB N L := by
  rw [← hc] at hP ⊢
  have hc8 : c < 8 := by omega
  have hp : pad L = 8 - c := by unfold pad; omega
  have hm : (L + 7) / 8 = L / 8 + 1 := by omega
  have h256 : (256 : Nat) = 2 ^ c * 2 ^ (8 - c) := by rw [← Nat.pow_add, show c + (8 - c) = 8 by omega]
  have e1 : N * 2 ^ (8 - c) / 256 = N / 2 ^ c := by rw [h256, Nat.mul_div_mul_right _ _ (Nat.two_pow_pos _)]
  have e2 : N * 2 ^ (8 - c) % 256 = P * 2 ^ (8 - c) := by rw [h256, Nat.mul_mod_mul_right, hP]
  have hlt : P * 2 ^ (8 - c) < 256 := by rw [← e2]; omega
  have e3 : (P : Int) * 2 ^ (8 - c) = ((P * 2 ^ (8 - c) : Nat) : Int) := by simp
  have e4 : wrap64 ((P * 2 ^ (8 - c) : Nat) : Int) % 256 = ((P * 2 ^ (8 - c) : Nat) : Int) := by rw [IntWalk.wrap64_in _ ⟨by omega, by omega⟩]; omega
  unfold packB
  rw [hp, hm, be, e1, e2, e3, e4]
  exact bytesOf_snoc _ _

theorem bytes_any {B : Nat} {w : World} {p : Nat} {v : Value} {N L : Nat} (h : WrAt B w p v N L) :
    Calls Try.prog 16 #[.pointer (some ⟨p, 0, none⟩)] w fun e w' => e = .returned (.string (packB N L)) ∧ Below w.heap.size w w' := by
  obtain ⟨hc, hr, hB, hap, _, hs⟩ := id h
  have cv := conv_own hr
  obtain ⟨P, hP⟩ : ∃ P, P = N % 2 ^ (L % 8) := ⟨_, rfl⟩
  have c0 : w.cell? ⟨p, 0, none⟩ = some v := by simp [World.cell?, hc]
  have c1 : w.cell? ⟨p, 1, none⟩ = some (.int .i64 (P : Int)) := by simp [World.cell?, hc, hP]
  have hpl : p < w.heap.size := (Array.getElem?_eq_some_iff.1 hc).1
  have HP : Hid (P = N % 2 ^ (L % 8)) := hP
  clear hP
  obtain ⟨ao, cap, rfl⟩ := ownsRow_slice hr
  by_cases hz : L % 8 = 0
  · have c2 : w.cell? ⟨p, 2, none⟩ = some (.int .i64 0) := by simp [World.cell?, hc, hz]
    go_enter Try.func16, Try.ntmps16
    go_wp2
    go_ret
    refine ⟨?_, Below.refl _ _⟩
    rw [← pack_whole N L hz]
    rfl
  · obtain ⟨c, hcc⟩ : ∃ c, c = L % 8 := ⟨_, rfl⟩
    have c2 : w.cell? ⟨p, 2, none⟩ = some (.int .i64 (c : Int)) := by simp [World.cell?, hc, hcc]
    have hc0 : c ≠ 0 := by omega
    have hc8 : c < 8 := by omega
    have HC : Hid (c = L % 8) := hcc
    have cvD : (convert 25 9 (.slice ao (L / 8) cap)).run Try.prog w.drew = .ok (.string (bytesOf (be (N / 2 ^ (L % 8)) (L / 8)))) w.drew := conv_own hr.drew
    have cvE : ∀ o, (convert 25 9 (.slice ao (L / 8) cap)).run Try.prog (w.alloc o).drew = .ok (.string (bytesOf (be (N / 2 ^ (L % 8)) (L / 8)))) (w.alloc o).drew := fun o => conv_own (hr.alloc o).drew
    have cvF : ∀ y : Int, (convert 25 9 (.slice (some ⟨w.heap.size, 0, none⟩) 1 1)).run Try.prog (w.alloc (.cells #[.int .u8 y] 5)).drew = .ok (.string (strOfNums [y])) (w.alloc (.cells #[.int .u8 y] 5)).drew := fun y => conv_one w y
    have hadd : ∀ (y : Int) (w : World), (Op.stringOp .add (bytesOf (be (N / 2 ^ (L % 8)) (L / 8))) (strOfNums [y])).run Try.prog w = .ok (.string (bytesOf (be (N / 2 ^ (L % 8)) (L / 8)) ++ strOfNums [y])) w := fun y w => run_string_add_sum (P := Try.prog) (w := w) _ _ (by rw [bytesOf_size, be_length, strOfNums_size]; simp; omega)
    have cvA : ∀ o, (convert 25 9 (.slice ao (L / 8) cap)).run Try.prog (w.alloc o) = .ok (.string (bytesOf (be (N / 2 ^ (L % 8)) (L / 8)))) (w.alloc o) := fun o => conv_own (hr.alloc o)
    clear hcc hz
    go_enter Try.func16, Try.ntmps16
    go_wp2
    go_region
    all_goals go_wp2
    all_goals go_ret
    refine ⟨?_, ((Below.refl _ _).alloc (Nat.le_refl _) _).drew⟩
    rw [← pack_part N L P c HC.out HP.out hc0]
    rfl

theorem bytes_nil {w : World} :
    Calls Try.prog 16 #[.pointer none] w fun e w' => e = .returned (.string ⟨#[]⟩) ∧ w' = w := by
  go_enter Try.func16, Try.ntmps16
  go_wp2
  go_ret
  exact ⟨rfl, rfl⟩

end Go.Proofs.Ytlnhfdcmnlinkaa
