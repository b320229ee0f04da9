/-
  What the helpers Digits and Name of the document's own answer (package lexiphaneref1) tell: the digits of a number, a code's name. (No statement of its own is proved here.)
-/
import Derived.Test.YtdcinnoebendgaaDoorFault
import Derived.Lib.SlBytesRow
namespace Go.Proofs.YtdcinnoebendgaaDoor
open Go.ChangeShapes Go.WideShapes Go.ChangeAt Go.RowKit

/-- A slice of one byte, just made, as a string. -/
theorem conv1 (W : World) (y : Int) : (convert 38 9 (.slice (some ⟨W.heap.size, 0, none⟩) 1 1)).run Tryd.prog (W.alloc (.cells #[.int .u8 y] 5)) = .ok (.string ⟨#[UInt8.ofNat y.toNat]⟩) (W.alloc (.cells #[.int .u8 y] 5)) := by
  have h := run_convert_bytes_arg (P := Tryd.prog) (W.alloc (.cells #[.int .u8 y] 5)) 38 5 Tryd.underlying38 Tryd.underlying5 W.heap.size 0 1 1 [y] rfl (fun i hi => by
    obtain rfl : i = 0 := by omega
    simp [go_sem]) 9 Tryd.underlying9
  rw [h]; rfl

/-- The digits ahead of those that are written: none of 0. -/
def preD (u : Nat) : List UInt8 := if u = 0 then [] else Lib.decDigits u
theorem dec_step (u : Nat) : Lib.decDigits u = preD (u / 10) ++ [UInt8.ofNat (48 + u % 10)] := by
  rw [Lib.decDigits]
  unfold preD
  by_cases h : u < 10
  · rw [dif_pos h, if_pos (by omega), Nat.mod_eq_of_lt h]; rfl
  · rw [dif_neg h, if_neg (by omega)]
/-- What the loop keeps: nothing is written yet, or what is written is the end of the digits, and v the rest. -/
def Inv (u : Nat) (l : List UInt8) (v : Nat) : Prop := (l = [] ∧ v = u) ∨ (l ≠ [] ∧ preD v ++ l = Lib.decDigits u)
theorem Inv.step {u v : Nat} {l : List UInt8} (h : Inv u l v) (hv : v ≠ 0 ∨ l = []) : Inv u (UInt8.ofNat (48 + v % 10) :: l) (v / 10) := by
  refine Or.inr ⟨by simp, ?_⟩
  rcases h with ⟨rfl, rfl⟩ | ⟨hl, h⟩
  · exact (dec_step v).symm
  · rcases hv with hv | hv
    · rw [← h]
      have : preD v = Lib.decDigits v := by unfold preD; rw [if_neg hv]
      rw [this, dec_step v]; simp
    · exact absurd hv hl
theorem Inv.stop {u : Nat} {l : List UInt8} (h : Inv u l 0) (hl : l ≠ []) : l = Lib.decDigits u := by
  rcases h with ⟨rfl, _⟩ | ⟨_, h⟩
  · exact absurd rfl hl
  · simpa [preD] using h
theorem Inv.len {u v : Nat} {l : List UInt8} (h : Inv u l v) (hu : u ≤ 9223372036854775808) : l.length ≤ 21 := by
  have hk : (Lib.decDigits u).length ≤ 21 := by
    have := Lib.itoa_length_le (-(u : Int)) (by omega) (by omega)
    by_cases h0 : u = 0
    · subst h0; decide +kernel
    · rw [Lib.itoa_neg u (by omega)] at this; simp at this; omega
  rcases h with ⟨rfl, _⟩ | ⟨_, h⟩
  · simp
  · rw [← h] at hk; simp at hk; omega

def strLen : Value → Nat | .string b => b.size | _ => 0

set_option maxHeartbeats 1000000 in
theorem digits_nonneg (u : Nat) (h1 : u ≤ 9223372036854775807) (w : World) :
    Calls Tryd.prog 10 #[.int .i64 u] w fun e w' => e = .returned (.string ⟨(Lib.decDigits u).toArray⟩) ∧ Below w.heap.size w w' := by
  have hconv := conv1
  go_enter Tryd.func10, Tryd.ntmps10
  go_wp2
  go_loopw [3, 4] (fun s v wr => ∃ (l : List UInt8) (x : Nat), s = .string ⟨l.toArray⟩ ∧ v = .int .i64 x ∧ x ≤ u ∧ Inv u l x ∧ Below w.heap.size w wr) (fun s v _ => 2 * (intOf v).natAbs + (1 - strLen s))
  case atStart => exact ⟨[], u, rfl, rfl, Nat.le_refl _, Or.inl ⟨rfl, rfl⟩, Below.refl _ _⟩
  case round =>
    obtain ⟨l, x, rfl, rfl, hx, hi, hb⟩ := hrel
    have hlen := hi.len (by omega)
    have hz := hb.size
    have HI : Hid (Inv u l x) := hi
    clear hi
    have e1 : ∀ (y : Int) (W : World), (Op.stringOp .add ⟨#[UInt8.ofNat y.toNat]⟩ ⟨l.toArray⟩).run Tryd.prog W = .ok (.string ⟨(UInt8.ofNat y.toNat :: l).toArray⟩) W := fun y W => by
      rw [run_string_add_sum W _ _ (by simp [ByteArray.size]; omega)]; simp [ByteArray.mk_append_mk]
    by_cases hx0 : x = 0
    · by_cases hl0 : l = []
      · subst hx0 hl0
        go_wp2
        go_roundw
        case rel =>
          refine ⟨[48], 0, rfl, rfl, Nat.zero_le _, ?_, hb.alloc hz _⟩
          exact HI.out.step (Or.inr rfl)
        case measure => simp [intOf, strLen]; decide +kernel
      · subst hx0
        have HL : Hid (l ≠ []) := hl0
        clear hl0
        go_wp2
        · exact absurd (by assumption : l.isEmpty = true) (by simpa using HL.out)
        · go_ret
          exact ⟨by rw [HI.out.stop HL.out]; rfl, hb⟩
    · have hz' : ((x : Int) != 0) = true := by simp; omega
      go_wp2
      go_roundw
      case rel =>
        have hs := HI.out.step (Or.inl hx0)
        refine ⟨UInt8.ofNat (48 + x % 10) :: l, x / 10, ?_, by go_num, by omega, hs, hb.alloc hz _⟩
        congr 1
        simp [ByteArray.mk_append_mk]
      case measure => simp [intOf, strLen]; omega

set_option maxHeartbeats 1000000 in
theorem digits_neg (u : Nat) (h0 : 1 ≤ u) (h1 : u ≤ 9223372036854775808) (w : World) :
    Calls Tryd.prog 10 #[.int .i64 (-(u : Int))] w fun e w' => e = .returned (.string ⟨(45 :: Lib.decDigits u).toArray⟩) ∧ Below w.heap.size w w' := by
  have hconv := conv1
  go_enter Tryd.func10, Tryd.ntmps10
  go_wp2
  go_loopw [3, 4] (fun s v wr => ∃ (l : List UInt8) (x : Nat), s = .string ⟨l.toArray⟩ ∧ v = .int .i64 (-(x : Int)) ∧ x ≤ u ∧ Inv u l x ∧ Below w.heap.size w wr) (fun s v _ => 2 * (intOf v).natAbs + (1 - strLen s))
  case atStart => exact ⟨[], u, rfl, rfl, Nat.le_refl _, Or.inl ⟨rfl, rfl⟩, Below.refl _ _⟩
  case round =>
    obtain ⟨l, x, rfl, rfl, hx, hi, hb⟩ := hrel
    have hlen := hi.len (by omega)
    have hz := hb.size
    have HI : Hid (Inv u l x) := hi
    by_cases hx0 : x = 0
    · have hl0 : l ≠ [] := by
        rcases hi with ⟨_, h⟩ | ⟨h, _⟩
        · omega
        · exact h
      clear hi
      subst hx0
      have HL : Hid (l ≠ []) := hl0
      clear hl0
      have e2 : ∀ (W : World), (Op.stringOp .add ⟨#[45]⟩ ⟨l.toArray⟩).run Tryd.prog W = .ok (.string ⟨(45 :: l).toArray⟩) W := fun W => by
        rw [run_string_add_sum W _ _ (by simp [ByteArray.size]; omega)]; simp [ByteArray.mk_append_mk]
      have hneg : -(u : Int) < 0 := by omega
      go_wp2
      · exact absurd (by assumption : l.isEmpty = true) (by simpa using HL.out)
      · go_ret
        exact ⟨by rw [← HI.out.stop HL.out]; simp, hb⟩
    · clear hi
      have hz' : (-(x : Int) != 0) = true := by simp; omega
      go_wp2
      · go_roundw
        case rel =>
          have hs := HI.out.step (Or.inl hx0)
          refine ⟨UInt8.ofNat (48 + x % 10) :: l, x / 10, ?_, by go_num, by omega, hs, hb.alloc hz _⟩
          congr 1
          simp [ByteArray.mk_append_mk]
        case measure => simp [intOf, strLen]; omega
      · have hm : x % 10 = 0 := by have : (x : Int) % 10 ≤ 0 := by assumption
                                   omega
        go_roundw
        case rel =>
          have hs := HI.out.step (Or.inl hx0)
          refine ⟨UInt8.ofNat (48 + x % 10) :: l, x / 10, ?_, by go_num, by omega, hs, hb.alloc hz _⟩
          have ez : ((x : Int) % 10) = 0 := by omega
          rw [ez, hm]
          congr 1
        case measure => simp [intOf, strLen]; omega

theorem digits_any (n : Int) (h0 : -9223372036854775808 ≤ n) (h1 : n ≤ 9223372036854775807) (w : World) :
    Calls Tryd.prog 10 #[.int .i64 n] w fun e w' => e = .returned (.string ⟨(Lib.itoa n).toArray⟩) ∧ Below w.heap.size w w' := by
  by_cases h : n < 0
  · obtain ⟨u, rfl⟩ : ∃ u : Nat, n = -(u : Int) := ⟨n.natAbs, by omega⟩
    rw [Lib.itoa_neg u (by omega)]
    exact digits_neg u (by omega) (by omega) w
  · obtain ⟨u, rfl⟩ : ∃ u : Nat, n = (u : Int) := ⟨n.toNat, by omega⟩
    rw [Lib.itoa_nonneg u]
    exact digits_nonneg u (by omega) w
theorem rname_0 (w : World) : Calls Tryd.prog 9 #[.int .i64 0] w fun e w' => e = .returned (.string (nameB 0)) ∧ Below w.heap.size w w' := by
  go_enter Tryd.func9, Tryd.ntmps9
  go_wp2
  go_ret
  exact ⟨rfl, (Below.refl _ _).alloc (Nat.le_refl _) _⟩

theorem rname_1 (w : World) : Calls Tryd.prog 9 #[.int .i64 1] w fun e w' => e = .returned (.string (nameB 1)) ∧ Below w.heap.size w w' := by
  go_enter Tryd.func9, Tryd.ntmps9
  go_wp2
  go_ret
  exact ⟨rfl, (Below.refl _ _).alloc (Nat.le_refl _) _⟩

theorem rname_2 (w : World) : Calls Tryd.prog 9 #[.int .i64 2] w fun e w' => e = .returned (.string (nameB 2)) ∧ Below w.heap.size w w' := by
  go_enter Tryd.func9, Tryd.ntmps9
  go_wp2
  go_ret
  exact ⟨rfl, (Below.refl _ _).alloc (Nat.le_refl _) _⟩

theorem rname_3 (w : World) : Calls Tryd.prog 9 #[.int .i64 3] w fun e w' => e = .returned (.string (nameB 3)) ∧ Below w.heap.size w w' := by
  go_enter Tryd.func9, Tryd.ntmps9
  go_wp2
  go_ret
  exact ⟨rfl, (Below.refl _ _).alloc (Nat.le_refl _) _⟩

theorem rname_4 (w : World) : Calls Tryd.prog 9 #[.int .i64 4] w fun e w' => e = .returned (.string (nameB 4)) ∧ Below w.heap.size w w' := by
  go_enter Tryd.func9, Tryd.ntmps9
  go_wp2
  go_ret
  exact ⟨rfl, (Below.refl _ _).alloc (Nat.le_refl _) _⟩

theorem rname_5 (w : World) : Calls Tryd.prog 9 #[.int .i64 5] w fun e w' => e = .returned (.string (nameB 5)) ∧ Below w.heap.size w w' := by
  go_enter Tryd.func9, Tryd.ntmps9
  go_wp2
  go_ret
  exact ⟨rfl, (Below.refl _ _).alloc (Nat.le_refl _) _⟩

theorem rname_6 (w : World) : Calls Tryd.prog 9 #[.int .i64 6] w fun e w' => e = .returned (.string (nameB 6)) ∧ Below w.heap.size w w' := by
  go_enter Tryd.func9, Tryd.ntmps9
  go_wp2
  go_ret
  exact ⟨rfl, (Below.refl _ _).alloc (Nat.le_refl _) _⟩

theorem rname_7 (w : World) : Calls Tryd.prog 9 #[.int .i64 7] w fun e w' => e = .returned (.string (nameB 7)) ∧ Below w.heap.size w w' := by
  go_enter Tryd.func9, Tryd.ntmps9
  go_wp2
  go_ret
  exact ⟨rfl, (Below.refl _ _).alloc (Nat.le_refl _) _⟩

theorem rname_8 (w : World) : Calls Tryd.prog 9 #[.int .i64 8] w fun e w' => e = .returned (.string (nameB 8)) ∧ Below w.heap.size w w' := by
  go_enter Tryd.func9, Tryd.ntmps9
  go_wp2
  go_ret
  exact ⟨rfl, (Below.refl _ _).alloc (Nat.le_refl _) _⟩

theorem rname_9 (w : World) : Calls Tryd.prog 9 #[.int .i64 9] w fun e w' => e = .returned (.string (nameB 9)) ∧ Below w.heap.size w w' := by
  go_enter Tryd.func9, Tryd.ntmps9
  go_wp2
  go_ret
  exact ⟨rfl, (Below.refl _ _).alloc (Nat.le_refl _) _⟩

theorem rname_10 (w : World) : Calls Tryd.prog 9 #[.int .i64 10] w fun e w' => e = .returned (.string (nameB 10)) ∧ Below w.heap.size w w' := by
  go_enter Tryd.func9, Tryd.ntmps9
  go_wp2
  go_ret
  exact ⟨rfl, (Below.refl _ _).alloc (Nat.le_refl _) _⟩

theorem rname_11 (w : World) : Calls Tryd.prog 9 #[.int .i64 11] w fun e w' => e = .returned (.string (nameB 11)) ∧ Below w.heap.size w w' := by
  go_enter Tryd.func9, Tryd.ntmps9
  go_wp2
  go_ret
  exact ⟨rfl, (Below.refl _ _).alloc (Nat.le_refl _) _⟩

theorem rname_12 (w : World) : Calls Tryd.prog 9 #[.int .i64 12] w fun e w' => e = .returned (.string (nameB 12)) ∧ Below w.heap.size w w' := by
  go_enter Tryd.func9, Tryd.ntmps9
  go_wp2
  go_ret
  exact ⟨rfl, (Below.refl _ _).alloc (Nat.le_refl _) _⟩

theorem rname_13 (w : World) : Calls Tryd.prog 9 #[.int .i64 13] w fun e w' => e = .returned (.string (nameB 13)) ∧ Below w.heap.size w w' := by
  go_enter Tryd.func9, Tryd.ntmps9
  go_wp2
  go_ret
  exact ⟨rfl, (Below.refl _ _).alloc (Nat.le_refl _) _⟩

theorem rname_lo (c : Int) (h : c < 0) (w : World) : Calls Tryd.prog 9 #[.int .i64 c] w fun e w' => e = .returned (.string (nameB c)) ∧ Below w.heap.size w w' := by
  have hn : nameB c = nameB (-1) := by unfold nameB; repeat rw [if_neg (by omega)]
  rw [hn]
  go_enter Tryd.func9, Tryd.ntmps9
  go_wp2
  go_ret
  exact ⟨rfl, (Below.refl _ _).alloc (Nat.le_refl _) _⟩

theorem rname_hi (c : Int) (h : 13 < c) (w : World) : Calls Tryd.prog 9 #[.int .i64 c] w fun e w' => e = .returned (.string (nameB c)) ∧ Below w.heap.size w w' := by
  have hn : nameB c = nameB (-1) := by unfold nameB; repeat rw [if_neg (by omega)]
  rw [hn]
  go_enter Tryd.func9, Tryd.ntmps9
  go_wp2
  go_ret
  exact ⟨rfl, (Below.refl _ _).alloc (Nat.le_refl _) _⟩

theorem rname_any (c : Int) (w : World) :
    Calls Tryd.prog 9 #[.int .i64 c] w fun e w' => e = .returned (.string (nameB c)) ∧ Below w.heap.size w w' := by
  by_cases h0 : c = 0
  · rw [h0]; exact rname_0 w
  by_cases h1 : c = 1
  · rw [h1]; exact rname_1 w
  by_cases h2 : c = 2
  · rw [h2]; exact rname_2 w
  by_cases h3 : c = 3
  · rw [h3]; exact rname_3 w
  by_cases h4 : c = 4
  · rw [h4]; exact rname_4 w
  by_cases h5 : c = 5
  · rw [h5]; exact rname_5 w
  by_cases h6 : c = 6
  · rw [h6]; exact rname_6 w
  by_cases h7 : c = 7
  · rw [h7]; exact rname_7 w
  by_cases h8 : c = 8
  · rw [h8]; exact rname_8 w
  by_cases h9 : c = 9
  · rw [h9]; exact rname_9 w
  by_cases h10 : c = 10
  · rw [h10]; exact rname_10 w
  by_cases h11 : c = 11
  · rw [h11]; exact rname_11 w
  by_cases h12 : c = 12
  · rw [h12]; exact rname_12 w
  by_cases h13 : c = 13
  · rw [h13]; exact rname_13 w
  by_cases hl : c < 0
  · exact rname_lo c hl w
  · exact rname_hi c (by omega) w

end Go.Proofs.YtdcinnoebendgaaDoor
