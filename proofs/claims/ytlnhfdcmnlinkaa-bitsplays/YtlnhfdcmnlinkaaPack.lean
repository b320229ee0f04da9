/-
  The document's own packing of bits (lexiphaneref1.Pack): what it answers for every list of bits that lies in memory.
-/
import Derived.Test.YtlnhfdcmnlinkaaBitAlive
namespace Go.Proofs.Ytlnhfdcmnlinkaa
open Go.ChangeShapes Go.WideShapes Go.ChangeAt Go.RowKit

/-- Bits as a number, and as cells. -/
def ofBits (bs : List Nat) : Nat := bs.foldl (fun a x => 2 * a + x) 0
def intCells (bs : List Nat) : List Value := bs.map fun x : Nat => Value.int .i64 (x : Int)
def packL (N L : Nat) : List Nat := be (N * 2 ^ pad L) ((L + 7) / 8)

theorem intCells_length (bs : List Nat) : (intCells bs).length = bs.length := by simp [intCells]

theorem ofBits_snoc (bs : List Nat) (x : Nat) : ofBits (bs ++ [x]) = 2 * ofBits bs + x := by simp [ofBits]

theorem packL_bytes (N L : Nat) : bytesOf (packL N L) = packB N L := rfl

theorem packL_length (N L : Nat) : (packL N L).length = (L + 7) / 8 := be_length _ _

theorem split_low (N c : Nat) (hc : c < 8) : N * 2 ^ (8 - c) = N / 2 ^ c * 256 + N % 2 ^ c * 2 ^ (8 - c) := by
  have h256 : (256 : Nat) = 2 ^ c * 2 ^ (8 - c) := by rw [← Nat.pow_add, show c + (8 - c) = 8 by omega]
  conv => lhs; rw [← Nat.div_add_mod N (2 ^ c)]
  rw [Nat.add_mul, h256, Nat.mul_comm (2 ^ c), Nat.mul_assoc]

theorem low_lt (N c x : Nat) (hc : c < 8) (hx : x < 2) : N % 2 ^ c * 2 ^ (8 - c) + x * 2 ^ (7 - c) < 256 := by
  have h256 : (256 : Nat) = 2 ^ c * 2 ^ (8 - c) := by rw [← Nat.pow_add, show c + (8 - c) = 8 by omega]
  have h1 : N % 2 ^ c + 1 ≤ 2 ^ c := Nat.mod_lt _ (Nat.two_pow_pos _)
  have h2 := Nat.mul_le_mul_right (2 ^ (8 - c)) h1
  have h3 : 2 ^ (8 - c) = 2 * 2 ^ (7 - c) := by rw [show 8 - c = (7 - c) + 1 by omega, Nat.pow_succ, Nat.mul_comm]
  have h4 : x * 2 ^ (7 - c) ≤ 1 * 2 ^ (7 - c) := Nat.mul_le_mul_right _ (by omega)
  have h5 := Nat.two_pow_pos (7 - c)
  rw [Nat.add_mul] at h2
  omega

theorem packL_next (N k x : Nat) (hx : x < 2) : packL (2 * N + x) (k + 1) = be (N / 2 ^ (k % 8)) (k / 8) ++ [N % 2 ^ (k % 8) * 2 ^ (8 - k % 8) + x * 2 ^ (7 - k % 8)] := by
  have hc : k % 8 < 8 := by omega
  have hp : pad (k + 1) = 7 - k % 8 := by unfold pad; omega
  have hm : (k + 1 + 7) / 8 = k / 8 + 1 := by omega
  have h3 : 2 ^ (8 - k % 8) = 2 * 2 ^ (7 - k % 8) := by rw [show 8 - k % 8 = (7 - k % 8) + 1 by omega, Nat.pow_succ, Nat.mul_comm]
  have e : (2 * N + x) * 2 ^ (7 - k % 8) = N / 2 ^ (k % 8) * 256 + (N % 2 ^ (k % 8) * 2 ^ (8 - k % 8) + x * 2 ^ (7 - k % 8)) := by
    rw [← Nat.add_assoc, ← split_low N (k % 8) hc, h3, Nat.add_mul, Nat.mul_comm 2 N, Nat.mul_assoc]
  have hl := low_lt N (k % 8) x hc hx
  unfold packL
  rw [hp, hm, be, e]
  congr 2
  · omega
  · omega

theorem packL_part (N k : Nat) (hc : k % 8 ≠ 0) : packL N k = be (N / 2 ^ (k % 8)) (k / 8) ++ [N % 2 ^ (k % 8) * 2 ^ (8 - k % 8)] := by
  have hp : pad k = 8 - k % 8 := by unfold pad; omega
  have hm : (k + 7) / 8 = k / 8 + 1 := by omega
  have hl := low_lt N (k % 8) 0 (by omega) (by decide)
  rw [Nat.zero_mul, Nat.add_zero] at hl
  unfold packL
  rw [hp, hm, be, split_low N (k % 8) (by omega)]
  congr 2
  · omega
  · omega

theorem packL_whole (N k : Nat) (hc : k % 8 = 0) : packL N k = be (N / 2 ^ (k % 8)) (k / 8) := by
  have hp : pad k = 0 := by unfold pad; omega
  have hm : (k + 7) / 8 = k / 8 := by omega
  unfold packL
  rw [hp, hm, hc, Nat.pow_zero, Nat.mul_one, Nat.div_one]

/-- The machine's 'or' of a byte's high bits and the next bit. -/
theorem or_u8 (N c x : Nat) (hc : c < 8) (hx : x < 2) : bits .or .u8 ((N % 2 ^ c * 2 ^ (8 - c) : Nat) : Int) (IntKind.u8.wrap (wrap64 ((x : Int) * 2 ^ (7 - c)))) = ((N % 2 ^ c * 2 ^ (8 - c) + x * 2 ^ (7 - c) : Nat) : Int) := by
  have hl := low_lt N c x hc hx
  have h3 : 2 ^ (8 - c) = 2 * 2 ^ (7 - c) := by rw [show 8 - c = (7 - c) + 1 by omega, Nat.pow_succ, Nat.mul_comm]
  have h4 : x * 2 ^ (7 - c) ≤ 1 * 2 ^ (7 - c) := Nat.mul_le_mul_right _ (by omega)
  have h5 := Nat.two_pow_pos (7 - c)
  have e : (x : Int) * 2 ^ (7 - c) = ((x * 2 ^ (7 - c) : Nat) : Int) := by simp
  rw [e, IntWalk.wrap64_in _ ⟨by omega, by omega⟩, wraps_u8 _ (by omega) (by omega)]
  have hy : ((x * 2 ^ (7 - c) : Nat) : Int) < 2 ^ (8 - c) := by
    have : x * 2 ^ (7 - c) < 2 ^ (8 - c) := by omega
    exact_mod_cast this
  have := bits_join .u8 8 (by decide) wraps_u8 (8 - c) ((N % 2 ^ c * 2 ^ (8 - c) : Nat) : Int) ((x * 2 ^ (7 - c) : Nat) : Int) (by omega) (by exact_mod_cast Nat.mul_mod_left _ _) (by omega) (by omega) hy (by omega)
  rw [this]; simp

theorem octs_set (ys : List Nat) (y z q : Nat) (hq : ys.length = q) : (octs (ys ++ [y])).set q (.int .u8 (z : Int)) = octs (ys ++ [z]) := by
  simp only [octs, List.map_append, List.map_cons, List.map_nil]
  rw [List.set_append_right _ _ (by simp; omega)]
  simp [hq]

theorem or_byte (M k x Y Z : Nat) (hY : Y = M % 2 ^ (k % 8) * 2 ^ (8 - k % 8)) (hZ : Z = Y + x * 2 ^ (7 - k % 8)) (hx : x < 2) : bits .or .u8 (Y : Int) (wrap64 ((x : Int) * 2 ^ (7 - k % 8)) % 256) = (Z : Int) := by
  have h := or_u8 M (k % 8) x (by omega) hx
  rw [← hY, ← hZ, IntKind.wrap_u8] at h
  exact h

/-- A row of bits in memory. -/
def IsBits (w : World) (ao : Option Addr) (bs : List Nat) : Prop :=
  (∀ x ∈ bs, x < 2) ∧ (bs.length = 0 ∨ ∃ g o, ao = some ⟨g, o, none⟩ ∧ g < w.heap.size ∧ ∀ i, i < bs.length → w.cell? ⟨g, o + i, none⟩ = some (.int .i64 ((bs.getD i 0 : Nat) : Int)))

set_option maxHeartbeats 4000000 in
theorem pack_any {w : World} {ao : Option Addr} {cap : Nat} {bs : List Nat} (hb : IsBits w ao bs) (hlen : bs.length ≤ 1099511627776) :
    Calls Try.prog 17 #[.slice ao bs.length cap] w fun e w' => e = .returned (.string (packB (ofBits bs) bs.length)) ∧ Below w.heap.size w w' := by
  obtain ⟨i0, hi, hz0, hz1, hz2⟩ := info_parts Try.infoByte
  go_enter Try.func17, Try.ntmps17
  go_wp2
  go_loopw [3, 4] (fun u i wr => ∃ k : Nat, k ≤ bs.length ∧ i = .int .i64 (k : Int) ∧ wr.ownsRow w.heap.size 5 1 u ((k + 7) / 8) (octs (packL (ofBits (bs.take k)) k)) ∧ Below w.heap.size w wr) (fun _ i _ => bs.length - (intOf i).toNat)
  case atStart => exact ⟨0, by omega, rfl, World.ownsRow_nil _ _ _ _, Below.refl _ _⟩
  case round =>
    obtain ⟨k, hk, rfl, hown, hbl⟩ := hrel
    by_cases hlt : k < bs.length
    · obtain ⟨hb2, hb⟩ := hb
      rcases hb with hb | ⟨gb, o, rfl, hgb, hcell⟩
      · omega
      obtain ⟨x, hxk⟩ : ∃ x, x = bs.getD k 0 := ⟨_, rfl⟩
      have hx : x < 2 := hb2 x (by rw [hxk, List.getD_eq_getElem?_getD, List.getElem?_eq_getElem hlt]; exact List.getElem_mem _)
      have hcb : wr.cell? ⟨gb, o + k, none⟩ = some (.int .i64 (x : Int)) := by rw [hbl.cell (p := ⟨gb, o + k, none⟩) hgb, hcell k hlt, hxk]
      have htk : ofBits (bs.take (k + 1)) = 2 * ofBits (bs.take k) + x := by rw [hxk, ← ofBits_snoc, List.getD_eq_getElem?_getD, List.getElem?_eq_getElem hlt]; simp
      obtain ⟨M, hM⟩ : ∃ M, M = ofBits (bs.take k) := ⟨_, rfl⟩
      rw [← hM] at hown htk
      have hnext := packL_next M k x hx
      have HX : Hid (x = bs.getD k 0) := hxk
      clear hxk hM hcell hb2
      have hz := hbl.size
      obtain ⟨Y, hY⟩ : ∃ Y, Y = M % 2 ^ (k % 8) * 2 ^ (8 - k % 8) := ⟨_, rfl⟩
      have HY : Hid (Y = M % 2 ^ (k % 8) * 2 ^ (8 - k % 8)) := hY
      obtain ⟨Z, hZ⟩ : ∃ Z, Z = Y + x * 2 ^ (7 - k % 8) := ⟨_, rfl⟩
      have hor := or_byte M k x Y Z hY hZ hx
      have HZ : Hid (Z = Y + x * 2 ^ (7 - k % 8)) := hZ
      have hfin : packL (2 * M + x) (k + 1) = be (M / 2 ^ (k % 8)) (k / 8) ++ [Z] := by rw [hnext, hZ, hY]
      have HF : Hid (packL (2 * M + x) (k + 1) = be (M / 2 ^ (k % 8)) (k / 8) ++ [Z]) := hfin
      clear hY hZ hfin hnext
      by_cases hc : k % 8 = 0
      · rw [packL_whole M k hc, show (k + 7) / 8 = k / 8 by omega] at hown
        have hY0 : octs (be (M / 2 ^ (k % 8)) (k / 8)) ++ [.int .u8 0] = octs (be (M / 2 ^ (k % 8)) (k / 8) ++ [M % 2 ^ (k % 8) * 2 ^ (8 - k % 8)]) := by
          rw [← octs_snoc, hc, Nat.pow_zero, Nat.mod_one, Nat.zero_mul]; rfl
        go_wp2_with (at_builtin; refine wpList_append_lies _ rfl (.tmp 14) (.tmp 15) 25 rfl w.heap.size 5 i0 (.int .u8 0) 1 1 Try.underlying25 hi hz0 hz1 hz2 rfl (by decide) u3 (k / 8) (octs (be (M / 2 ^ (k % 8)) (k / 8))) rfl (hown.alloc _) ⟨wr.heap.size, 0, none⟩ 1 1 [.int .u8 0] rfl rfl (World.news_of_block (heap_alloc_new wr _)) (by intro u hu; simp at hu; subst hu; rfl) (by decide) (by unfold maxLen; omega) (by omega) (by simp; omega) (wr.heap.size + 1) (by simp) ?_; intro g cap' w4 hownY hgrow hat hlt4; rw [hY0] at hownY)
        have hbl4 : Below w.heap.size w w4 := (hbl.alloc hz _).grown hgrow (by simp; omega) (fun g hg => (hown.lt g hg).1)
        have hcb4 : w4.cell? ⟨gb, o + k, none⟩ = some (.int .i64 (x : Int)) := by rw [hbl4.cell (p := ⟨gb, o + k, none⟩) hgb, ← hbl.cell (p := ⟨gb, o + k, none⟩) hgb]; exact hcb
        have hz4 := hbl4.size
        have hgB := hownY.lt g rfl
        clear hcb hown hgrow hat hY0
        have hcg : w4.cell? ⟨g, k / 8, none⟩ = some (.int .u8 (Y : Int)) := by rw [hownY.cellAt (k / 8) (by omega)]; simp [octs, be_length, HY.out]
        have hfg := hownY.frozenAt (k / 8)
        have i1 : (1 : Int) ≤ (k : Int) / 8 + 1 := by omega
        have HC : Hid (k % 8 = 0) := hc
        clear hc
        go_region
        all_goals go_wp2
        all_goals (
          have hst := hownY.stored (k / 8) (.int .u8 (Z : Int))
          rw [octs_set _ _ _ _ (be_length _ _), ← HF.out, ← htk] at hst
          go_roundw
          case rel => exact ⟨k + 1, by omega, by go_num, by rw [show (k + 1 + 7) / 8 = k / 8 + 1 by omega]; exact hst.1.drew, ((hbl4).setCell (by simpa using hgB.1) _).drew⟩
          case measure => simp [intOf]; omega)
      · rw [packL_part M k hc, show (k + 7) / 8 = k / 8 + 1 by omega] at hown
        obtain ⟨g, cap', hu, hgB, hgl⟩ := hown.form (by omega)
        subst hu
        have hownY := hown
        have hcg : wr.cell? ⟨g, k / 8, none⟩ = some (.int .u8 (Y : Int)) := by rw [hownY.cellAt (k / 8) (by omega)]; simp [octs, be_length, HY.out]
        have hfg := hownY.frozenAt (k / 8)
        have i1 : (1 : Int) ≤ (k : Int) / 8 + 1 := by omega
        go_wp2
        go_region
        all_goals go_wp2
        all_goals (
          have hst := hownY.stored (k / 8) (.int .u8 (Z : Int))
          rw [octs_set _ _ _ _ (be_length _ _), ← HF.out, ← htk] at hst
          go_roundw
          case rel => exact ⟨k + 1, by omega, by go_num, by rw [show (k + 1 + 7) / 8 = k / 8 + 1 by omega]; exact hst.1.drew, ((hbl).setCell (by simpa using hgB) _).drew⟩
          case measure => simp [intOf]; omega)
    · obtain rfl : k = bs.length := by omega
      rw [List.take_length] at hown
      have hcv := conv_own hown
      rw [packL_bytes] at hcv
      go_wp2
      go_ret
      exact ⟨rfl, hbl⟩

end Go.Proofs.Ytlnhfdcmnlinkaa
