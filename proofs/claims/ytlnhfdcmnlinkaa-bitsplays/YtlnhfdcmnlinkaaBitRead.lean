/-
  Contracts of package bits' Reader: what NewReader, Left, byteAt, Peek, Skip, Get and Rest answer, and what they leave in memory, for every text that fits in memory, at every place within it.
-/
import Derived.Test.YtlnhfdcmnlinkaaRows
import Derived.Test.YtlnhfdcmnlinkaaBitMath
import Derived.WalkKit
import Derived.ProofKit
import Derived.OpenShut
import Derived.Below
import Derived.Deep.QuietTactic
import Derived.BigQuiet
import Derived.WalkSmall
import Derived.Handy
import Derived.RegionTactic
namespace Go.Proofs.Ytlnhfdcmnlinkaa
open Go.ChangeShapes Go.WideShapes Go.ChangeAt Go.RowKit

/-- Nothing but the blocks of S has turned; new blocks may have come. -/
structure Kept (S : Nat → Prop) (w w' : World) : Prop where
  os : w'.os = w.os
  tape : w'.tape = w.tape
  output : w'.output = w.output
  size : w.heap.size ≤ w'.heap.size
  block : ∀ k, k < w.heap.size → ¬ S k → w'.heap[k]? = w.heap[k]?

theorem Kept.refl (S : Nat → Prop) (w : World) : Kept S w w := ⟨rfl, rfl, rfl, Nat.le_refl _, fun _ _ _ => rfl⟩

theorem Kept.drewN (S : Nat → Prop) (w : World) (n : Nat) : Kept S w (w.drewN n) := by
  induction n generalizing w with
  | zero => exact Kept.refl S w
  | succ n ih => have h := ih w.drew; exact ⟨h.os, h.tape, h.output, h.size, h.block⟩

theorem Kept.trans {S : Nat → Prop} {a b c : World} (h : Kept S a b) (k : Kept S b c) : Kept S a c :=
  ⟨k.os.trans h.os, k.tape.trans h.tape, k.output.trans h.output, Nat.le_trans h.size k.size, fun i hi hn => (k.block i (Nat.lt_of_lt_of_le hi h.size) hn).trans (h.block i hi hn)⟩

/-- The Reader at block p: of the text b, of which g bits are gone. -/
def RdAt (w : World) (p : Nat) (b : ByteArray) (g : Nat) : Prop :=
  w.heap[p]? = some (.cells #[.string b, .int .i64 g] 48 (0, 0)) ∧ g ≤ 8 * b.size ∧ b.size ≤ 140737488351232

theorem RdAt.text {w : World} {p : Nat} {b : ByteArray} {g : Nat} (h : RdAt w p b g) : w.cell? ⟨p, 0, none⟩ = some (.string b) := by
  simp [World.cell?, h.1]

theorem RdAt.gone {w : World} {p : Nat} {b : ByteArray} {g : Nat} (h : RdAt w p b g) : w.cell? ⟨p, 1, none⟩ = some (.int .i64 g) := by
  simp [World.cell?, h.1]

theorem RdAt.free {w : World} {p : Nat} {b : ByteArray} {g : Nat} (h : RdAt w p b g) (o : Nat) : w.frozen? ⟨p, o, none⟩ = false := by
  simp [World.frozen?, h.1]

theorem newReader_any (b : ByteArray) (w : World) :
    Calls Try.prog 10 #[.string b] w fun e w' => e = .returned (.pointer (some ⟨w.heap.size, 0, none⟩)) ∧ w' = w.alloc (.cells #[.string b, .int .i64 0] 48) := by
  go_enter Try.func10, Try.ntmps10
  go_wp2
  go_ret
  exact ⟨rfl, rfl⟩

theorem RdAt.new (b : ByteArray) (hb : b.size ≤ 140737488351232) (w : World) : RdAt (w.alloc (.cells #[.string b, .int .i64 0] 48)) w.heap.size b 0 :=
  ⟨heap_alloc_new w _, Nat.zero_le _, hb⟩

theorem left_any {w : World} {p : Nat} {b : ByteArray} {g : Nat} (h : RdAt w p b g) :
    Calls Try.prog 18 #[.pointer (some ⟨p, 0, none⟩)] w fun e w' => e = .returned (.int .i64 (8 * (b.size : Int) - (g : Int))) ∧ ∃ n, w' = w.drewN n := by
  have c0 := h.text
  have c1 := h.gone
  obtain ⟨_, h1, h2⟩ := h
  go_enter Try.func18, Try.ntmps18
  go_wp2
  go_quiet (fail)
  go_wp2
  go_ret
  exact ⟨rfl, _, rfl⟩

theorem left_nil (w : World) :
    Calls Try.prog 18 #[.pointer none] w fun e w' => e = .returned (.int .i64 0) ∧ w' = w := by
  go_enter Try.func18, Try.ntmps18
  go_wp2
  go_ret
  exact ⟨rfl, rfl⟩

theorem byteAt_any {w : World} {p : Nat} {b : ByteArray} {g : Nat} (h : RdAt w p b g) (i : Nat) :
    Calls Try.prog 20 #[.pointer (some ⟨p, 0, none⟩), .int .i64 i] w fun e w' => e = .returned (.int .i64 (byteN b i)) ∧ w' = w := by
  have c0 := h.text
  have c1 := h.gone
  obtain ⟨_, h1, h2⟩ := h
  by_cases hi : i < b.size
  · have hB : byteN b i = (b[i]'hi).toNat := byteN_in b i hi
    go_enter Try.func20, Try.ntmps20
    go_wp2
    go_ret
    refine ⟨?_, rfl⟩
    have hw : wrap64 ((b[i]'hi).toNat : Int) = ((b[i]'hi).toNat : Int) := IntWalk.wrap64_in _ ⟨by omega, by have := UInt8.toNat_lt (b[i]'hi); omega⟩
    simp only [hB, hw]
    rfl
  · have hB : byteN b i = 0 := byteN_out b i (by omega)
    rw [hB]
    go_enter Try.func20, Try.ntmps20
    go_wp2
    go_ret
    exact ⟨rfl, rfl⟩

theorem RdAt.drewN {w : World} {p : Nat} {b : ByteArray} {g : Nat} (h : RdAt w p b g) (n : Nat) : RdAt (w.drewN n) p b g := by
  refine ⟨?_, h.2⟩
  have e : (w.drewN n).heap = w.heap := by
    clear h
    induction n generalizing w with
    | zero => rfl
    | succ n ih => exact ih (w := w.drew)
  rw [e]; exact h.1

theorem RdAt.went {w : World} {p : Nat} {b : ByteArray} {g n : Nat} (h : RdAt w p b g) (hn : g + n ≤ 8 * b.size) (k : Nat) :
    RdAt ((w.drewN k).setCell ⟨p, 1, none⟩ (.int .i64 ((g : Int) + (n : Int)))) p b (g + n) ∧ Kept (fun x => x = p) w ((w.drewN k).setCell ⟨p, 1, none⟩ (.int .i64 ((g : Int) + (n : Int)))) := by
  have hd := h.drewN k
  have kd := Kept.drewN (fun x => x = p) w k
  constructor
  · refine ⟨?_, hn, h.2.2⟩
    simp only [World.setCell, Array.getElem?_modify, hd.1]
    simp
  · refine ⟨kd.os, kd.tape, kd.output, ?_, fun i hi hne => ?_⟩
    · have := kd.size; simp only [World.setCell, Array.size_modify]; exact this
    · rw [Below.heap_setCell _ _ _ _ (by simpa using hne)]
      exact kd.block i hi hne

theorem skip_any {w : World} {p : Nat} {b : ByteArray} {g : Nat} (h : RdAt w p b g) (n : Nat) (hn : g + n ≤ 8 * b.size) :
    Calls Try.prog 14 #[.pointer (some ⟨p, 0, none⟩), .int .i64 n] w fun e w' => e = .returned (.bool true) ∧ RdAt w' p b (g + n) ∧ Kept (· = p) w w' := by
  have c1 := h.gone
  have f1 := h.free 1
  obtain ⟨h0, h1, h2⟩ := id h
  go_enter Try.func14, Try.ntmps14
  go_wp2_with (go_at_call 18; refine (left_any h).mono ?_; rintro e w1 ⟨rfl, nd, rfl⟩)
  go_ret
  exact ⟨rfl, RdAt.went h hn nd⟩

theorem skip_no {w : World} {p : Nat} {b : ByteArray} {g : Nat} (h : RdAt w p b g) (n : Int) (hn : n < 0 ∨ 8 * (b.size : Int) < g + n) :
    Calls Try.prog 14 #[.pointer (some ⟨p, 0, none⟩), .int .i64 n] w fun e w' => e = .returned (.bool false) ∧ ∃ k, w' = w.drewN k := by
  have c1 := h.gone
  have f1 := h.free 1
  obtain ⟨h0, h1, h2⟩ := id h
  by_cases hneg : n < 0
  · go_enter Try.func14, Try.ntmps14
    go_wp2
    go_ret
    exact ⟨rfl, 0, rfl⟩
  · go_enter Try.func14, Try.ntmps14
    go_wp2_with (go_at_call 18; refine (left_any h).mono ?_; rintro e w1 ⟨rfl, nd, rfl⟩)
    go_ret
    exact ⟨rfl, _, rfl⟩

theorem skip_nil (n : Int) (w : World) :
    Calls Try.prog 14 #[.pointer none, .int .i64 n] w fun e w' => e = .returned (.bool false) ∧ w' = w := by
  go_enter Try.func14, Try.ntmps14
  go_wp2
  go_ret
  exact ⟨rfl, rfl⟩

theorem peek_round (b : ByteArray) (q k : Nat) (hk : k < 5) : bits .or .i64 (wrap64 ((num b (8 * q) (8 * k) : Nat) * 256)) (byteN b (q + k) : Int) = (num b (8 * q) (8 * (k + 1)) : Nat) := by
  have h1 := num_lt b (8 * q) (8 * k)
  have h2 : 2 ^ (8 * k) ≤ 2 ^ 32 := Nat.pow_le_pow_right (by decide) (by omega)
  have h3 := byteN_lt b (q + k)
  rw [num_bytes, IntWalk.wrap64_in _ ⟨by omega, by omega⟩]
  have := or_i64 8 (num b (8 * q) (8 * k)) (byteN b (q + k)) (by omega) (by omega) (by decide)
  simpa using this

theorem peek_end (b : ByteArray) (g n : Nat) (hn : n ≤ 32) : bits .and .i64 ((num b (8 * (g / 8)) 40 : Nat) / 2 ^ (40 - g % 8 - n)) (wrap64 (wrap64 (2 ^ n) - 1)) = (num b g n : Nat) := by
  have h1 := num_lt b (8 * (g / 8)) 40
  have h2 : 2 ^ n ≤ 2 ^ 32 := Nat.pow_le_pow_right (by decide) hn
  have hp := Nat.two_pow_pos n
  have e : ((2 : Int) ^ n) = ((2 ^ n : Nat) : Int) := by simp
  have e1 : wrap64 ((2 ^ n : Nat) : Int) = ((2 ^ n : Nat) : Int) := IntWalk.wrap64_in _ ⟨by omega, by omega⟩
  rw [e, e1, IntWalk.wrap64_in _ ⟨by omega, by omega⟩]
  have hd : num b (8 * (g / 8)) 40 / 2 ^ (40 - g % 8 - n) < 2 ^ 63 := Nat.lt_of_le_of_lt (Nat.div_le_self _ _) (Nat.lt_trans h1 (by decide))
  have := and_i64 n _ hd (by omega)
  rw [peek_num b g n hn] at this
  rw [← this]
  simp

theorem peek_any {w : World} {p : Nat} {b : ByteArray} {g : Nat} (h : RdAt w p b g) (n : Nat) (hn : n ≤ 32) :
    Calls Try.prog 13 #[.pointer (some ⟨p, 0, none⟩), .int .i64 n] w fun e w' => e = .returned (.int .i64 (num b g n)) ∧ ∃ k, w' = w.drewN k := by
  have c1 := h.gone
  obtain ⟨h0, h1, h2⟩ := id h
  go_enter Try.func13, Try.ntmps13
  go_wp2
  go_loopw [5, 17] (fun v i wr => ∃ k : Nat, k ≤ 5 ∧ i = .int .i64 k ∧ v = .int .i64 (num b (8 * (g / 8)) (8 * k) : Nat) ∧ wr = w) (fun _ i _ => 5 - (intOf i).toNat)
  case atStart => exact ⟨0, by omega, rfl, rfl, rfl⟩
  case round =>
    obtain ⟨k, hk, rfl, rfl, rfl⟩ := hrel
    go_wp2_with (go_at_call 20; refine (byteAt_any h (g / 8 + k)).mono ?_; rintro e w1 ⟨rfl, rfl⟩)
    · go_roundw
      case rel => exact ⟨k + 1, by omega, by go_num, by rw [peek_round b (g / 8) k (by omega)], trivial⟩
      case measure => simp [intOf]; omega
    · obtain rfl : k = 5 := by omega
      go_quiet (fail)
      go_wp2
      go_ret
      refine ⟨?_, _, rfl⟩
      rw [← peek_end b g n hn]
      rfl

theorem peek_no {w : World} {p : Nat} (n : Int) (hn : n < 0 ∨ 32 < n) :
    Calls Try.prog 13 #[.pointer (some ⟨p, 0, none⟩), .int .i64 n] w fun e w' => e = .returned (.int .i64 0) ∧ w' = w := by
  by_cases hneg : n < 0
  · go_enter Try.func13, Try.ntmps13
    go_wp2
    go_ret
    exact ⟨rfl, rfl⟩
  · go_enter Try.func13, Try.ntmps13
    go_wp2
    go_ret
    exact ⟨rfl, rfl⟩

theorem peek_nil {w : World} (n : Int) :
    Calls Try.prog 13 #[.pointer none, .int .i64 n] w fun e w' => e = .returned (.int .i64 0) ∧ w' = w := by
  go_enter Try.func13, Try.ntmps13
  go_wp2
  go_ret
  exact ⟨rfl, rfl⟩

theorem get_any {w : World} {p : Nat} {b : ByteArray} {g : Nat} (h : RdAt w p b g) (n : Nat) (hn : n ≤ 32) (hg : g + n ≤ 8 * b.size) :
    Calls Try.prog 12 #[.pointer (some ⟨p, 0, none⟩), .int .i64 n] w fun e w' => e = .returned (.tuple #[.int .i64 (num b g n), .bool true]) ∧ RdAt w' p b (g + n) ∧ Kept (· = p) w w' := by
  obtain ⟨h0, h1, h2⟩ := id h
  go_enter Try.func12, Try.ntmps12
  go_wp2_with (first
    | (go_at_call 13; refine (peek_any h n hn).mono ?_; rintro e w1 ⟨rfl, nd, rfl⟩)
    | (go_at_call 14; refine (skip_any (h.drewN nd) n hg).mono ?_; rintro e w2 ⟨rfl, hr, hk⟩))
  refine bodyPost_ret (v := .tuple #[.int .i64 (num b g n), .bool true]) (by simp [results, Try.results12, go_sem]) rfl ⟨rfl, hr, (Kept.drewN _ w nd).trans hk⟩

theorem get_no {w : World} {p : Nat} {b : ByteArray} {g : Nat} (h : RdAt w p b g) (n : Int) (hn : n < 0 ∨ 32 < n ∨ 8 * (b.size : Int) < g + n) :
    Calls Try.prog 12 #[.pointer (some ⟨p, 0, none⟩), .int .i64 n] w fun e w' => e = .returned (.tuple #[.int .i64 0, .bool false]) ∧ ∃ k, w' = w.drewN k := by
  obtain ⟨h0, h1, h2⟩ := id h
  by_cases hbig : 32 < n
  · go_enter Try.func12, Try.ntmps12
    go_wp2
    exact bodyPost_ret (v := .tuple #[.int .i64 0, .bool false]) (by simp [results, Try.results12, go_sem]) rfl ⟨rfl, 0, rfl⟩
  · by_cases hneg : n < 0
    · go_enter Try.func12, Try.ntmps12
      go_wp2_with (first
        | (go_at_call 13; refine (peek_no n (.inl hneg)).mono ?_; rintro e w1 ⟨rfl, rfl⟩)
        | (go_at_call 14; refine (skip_no h n (.inl hneg)).mono ?_; rintro e w2 ⟨rfl, nk, rfl⟩))
      exact bodyPost_ret (v := .tuple #[.int .i64 0, .bool false]) (by simp [results, Try.results12, go_sem]) rfl ⟨rfl, nk, rfl⟩
    · obtain ⟨m, rfl⟩ := Int.eq_ofNat_of_zero_le (Int.not_lt.1 hneg)
      go_enter Try.func12, Try.ntmps12
      go_wp2_with (first
        | (go_at_call 13; refine (peek_any h m (by omega)).mono ?_; rintro e w1 ⟨rfl, nd, rfl⟩)
        | (go_at_call 14; refine (skip_no (h.drewN nd) (m : Int) (by omega)).mono ?_; rintro e w2 ⟨rfl, nk, rfl⟩))
      exact bodyPost_ret (v := .tuple #[.int .i64 0, .bool false]) (by simp [results, Try.results12, go_sem]) rfl ⟨rfl, _, rfl⟩

theorem get_nil {w : World} (n : Int) :
    Calls Try.prog 12 #[.pointer none, .int .i64 n] w fun e w' => e = .returned (.tuple #[.int .i64 0, .bool false]) ∧ w' = w := by
  by_cases hbig : 32 < n
  · go_enter Try.func12, Try.ntmps12
    go_wp2
    exact bodyPost_ret (v := .tuple #[.int .i64 0, .bool false]) (by simp [results, Try.results12, go_sem]) rfl ⟨rfl, rfl⟩
  · go_enter Try.func12, Try.ntmps12
    go_wp2_with (first
      | (go_at_call 13; refine (peek_nil n).mono ?_; rintro e w1 ⟨rfl, rfl⟩)
      | (go_at_call 14; refine (skip_nil n _).mono ?_; rintro e w2 ⟨rfl, rfl⟩))
    exact bodyPost_ret (v := .tuple #[.int .i64 0, .bool false]) (by simp [results, Try.results12, go_sem]) rfl ⟨rfl, rfl⟩

theorem rest_any {w : World} {p : Nat} {b : ByteArray} {g : Nat} (h : RdAt w p b g) :
    Calls Try.prog 19 #[.pointer (some ⟨p, 0, none⟩)] w fun e w' => e = .returned (.bool (decide (8 * b.size - g < 8 ∧ num b g (8 * b.size - g) = 0))) ∧ ∃ k, w' = w.drewN k := by
  obtain ⟨h0, h1, h2⟩ := id h
  by_cases hl : 8 * b.size - g < 8
  · have hcast : 8 * (b.size : Int) - (g : Int) = ((8 * b.size - g : Nat) : Int) := by omega
    go_enter Try.func19, Try.ntmps19
    go_wp2_with (first
      | (go_at_call 18; refine (left_any (h.drewN nd)).mono ?_; rintro e w2 ⟨rfl, ne, rfl⟩)
      | (go_at_call 18; refine (left_any h).mono ?_; rintro e w1 ⟨rfl, nd, rfl⟩)
      | (go_at_call 13; refine (peek_any (h.drewN (nd + ne)) (8 * b.size - g) (by omega)).mono ?_; rintro e w3 ⟨rfl, nf, rfl⟩))
    go_ret
    refine ⟨?_, _, rfl⟩
    have e : (((num b g (8 * b.size - g) : Nat) : Int) == 0) = decide (8 * b.size - g < 8 ∧ num b g (8 * b.size - g) = 0) := by
      simp only [hl, true_and]
      rw [Bool.eq_iff_iff]; simp
    rw [← e]; rfl
  · rw [decide_eq_false (by omega)]
    go_enter Try.func19, Try.ntmps19
    go_wp2_with (go_at_call 18; refine (left_any h).mono ?_; rintro e w1 ⟨rfl, nd, rfl⟩)
    go_ret
    exact ⟨rfl, _, rfl⟩

theorem rest_nil {w : World} :
    Calls Try.prog 19 #[.pointer none] w fun e w' => e = .returned (.bool false) ∧ w' = w := by
  go_enter Try.func19, Try.ntmps19
  go_wp2
  go_ret
  exact ⟨rfl, rfl⟩

end Go.Proofs.Ytlnhfdcmnlinkaa
