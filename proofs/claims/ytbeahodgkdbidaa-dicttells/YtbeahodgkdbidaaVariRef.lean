/-
  Contracts of the document's own answer for chapter 3: what Number and Unnumber answer, for every number and every text.
-/
import Derived.Test.YtbeahodgkdbidaaVariGet
import Derived.Deep.AppendLies
import Derived.Deep.RegionLaw
import Derived.BigRegion
namespace Go.Proofs.Ytbeahodgkdbidaa
open Go.ChangeShapes Go.WideShapes Go.ChangeAt Go.RowKit

set_option maxRecDepth 20000 in
set_option maxHeartbeats 1000000 in
theorem unnumber_any (b : ByteArray) (hb : b.size ≤ 140737488351232) (w : World) :
    Calls Try.prog 64 #[.string b] w fun e w' => e = .returned (.tuple #[.int .i64 ((vget b).1 : Nat), .int .i64 ((vget b).2.1 : Nat), .int .i64 ((vget b).2.2 : Nat)]) ∧ w' = w := by
  go_enter Try.func64, Try.ntmps64
  go_wp2
  go_loopw [5, 6, 7] (fun va vu vi wr => ∃ a u i : Nat, va = .int .i64 a ∧ vu = .int .i64 u ∧ vi = .int .i64 i ∧ i ≤ b.size ∧ i ≤ 4 ∧ u ≤ 268435456 ∧ a < u ∧ Hid (u = 128 ^ i) ∧ Hid (vgo ((nums b).drop i) i a = vget b) ∧ wr = w) (fun _ _ vi _ => b.size - (intOf vi).toNat)
  case atStart => exact ⟨0, 1, 0, rfl, rfl, rfl, by omega, by omega, by omega, by omega, rfl, rfl, rfl⟩
  case round =>
    obtain ⟨a, u, i, rfl, rfl, rfl, hi, hi4, hu, hau, hui, he, rfl⟩ := hrel
    by_cases hlt : i < b.size
    · have hix := index_at b i hlt
      have hdr := drop_nums b i hlt
      obtain ⟨c, hcc⟩ : ∃ c, c = (b[i]'hlt).toNat := ⟨_, rfl⟩
      have hc : c < 256 := by rw [hcc]; exact UInt8.toNat_lt _
      rw [← hcc] at hix hdr
      have hv := he.out
      rw [hdr, vgo] at hv
      clear hdr hcc he
      have hw := wrap_byte c hc
      rw [← hui.out] at hv
      obtain ⟨p, hp⟩ : ∃ p, p = c % 128 * u := ⟨_, rfl⟩
      have hpu : p + u ≤ 128 * u := by
        rw [hp, ← Nat.succ_mul]
        exact Nat.mul_le_mul_right _ (by omega)
      have hmul : (c : Int) % 128 * (u : Int) = (p : Int) := by rw [hp]; simp
      rw [← hp] at hv
      clear hp
      by_cases h4 : 4 ≤ i
      · have hn4 : ((i : Int) == 4) = true := beq_iff_eq.2 (by omega)
        by_cases h15 : 15 < c
        · rw [if_pos ⟨by omega, h15⟩] at hv
          have hb15 : decide ((15 : Int) < (c : Int)) = true := decide_eq_true (by omega)
          go_wp2
          refine bodyPost_ret (v := .tuple #[.int .i64 0, .int .i64 0, .int .i64 4]) (by simp [results, Try.results64, go_sem]) rfl ⟨?_, rfl⟩
          rw [← hv]; rfl
        · rw [if_neg (by omega), if_neg (by omega)] at hv
          have hb15 : decide ((15 : Int) < (c : Int)) = false := decide_eq_false (by omega)
          have hbi : decide ((0 : Int) < (i : Int)) = true := decide_eq_true (by omega)
          by_cases h0 : c ≤ 0
          · rw [if_pos ⟨by omega, by omega⟩] at hv
            have hb0 : ((c : Int) == 0) = true := beq_iff_eq.2 (by omega)
            go_wp2
            refine bodyPost_ret (v := .tuple #[.int .i64 0, .int .i64 0, .int .i64 3]) (by simp [results, Try.results64, go_sem]) rfl ⟨?_, rfl⟩
            rw [← hv]; rfl
          · rw [if_neg (by omega)] at hv
            have hb0 : ((c : Int) == 0) = false := beq_false_of_ne (by omega)
            go_wp2
            refine bodyPost_ret (v := .tuple #[.int .i64 ((a : Int) + (p : Int)), .int .i64 ((i : Int) + 1), .int .i64 0]) (by simp [results, Try.results64, go_sem]) rfl ⟨?_, rfl⟩
            rw [← hv]; rfl
      · rw [if_neg (by omega)] at hv
        have hn4 : ((i : Int) == 4) = false := beq_false_of_ne (by omega)
        by_cases h128 : 128 ≤ c
        · rw [if_pos h128] at hv
          have HV : Hid (vgo ((nums b).drop (i + 1)) (i + 1) (a + p) = vget b) := hv
          clear hv
          go_wp2
          go_roundw
          case rel =>
            have hi3 : u ≤ 2097152 := by rw [hui.out]; exact Nat.pow_le_pow_right (n := 128) (j := 3) (by decide) (by omega)
            exact ⟨a + p, u * 128, i + 1, by go_num, by go_num, by go_num, by omega, by omega, by omega, by omega, by show u * 128 = 128 ^ (i + 1); rw [hui.out, Nat.pow_succ], HV.out, trivial⟩
          case measure => simp [intOf]; omega
        · rw [if_neg h128] at hv
          by_cases h0 : c ≤ 0
          · have hb0 : ((c : Int) == 0) = true := beq_iff_eq.2 (by omega)
            by_cases hi0 : 0 < i
            · rw [if_pos ⟨by omega, hi0⟩] at hv
              have hbi : decide ((0 : Int) < (i : Int)) = true := decide_eq_true (by omega)
              go_wp2
              refine bodyPost_ret (v := .tuple #[.int .i64 0, .int .i64 0, .int .i64 3]) (by simp [results, Try.results64, go_sem]) rfl ⟨?_, rfl⟩
              rw [← hv]; rfl
            · rw [if_neg (by omega)] at hv
              have hbi : decide ((0 : Int) < (i : Int)) = false := decide_eq_false (by omega)
              go_wp2
              refine bodyPost_ret (v := .tuple #[.int .i64 ((a : Int) + (p : Int)), .int .i64 ((i : Int) + 1), .int .i64 0]) (by simp [results, Try.results64, go_sem]) rfl ⟨?_, rfl⟩
              rw [← hv]; rfl
          · rw [if_neg (by omega)] at hv
            have hb0 : ((c : Int) == 0) = false := beq_false_of_ne (by omega)
            go_wp2
            refine bodyPost_ret (v := .tuple #[.int .i64 ((a : Int) + (p : Int)), .int .i64 ((i : Int) + 1), .int .i64 0]) (by simp [results, Try.results64, go_sem]) rfl ⟨?_, rfl⟩
            rw [← hv]; rfl
    · have hd : (nums b).drop i = [] := List.drop_eq_nil_of_le (by rw [nums_length]; omega)
      have hv := he.out
      rw [hd, vgo] at hv
      have hsz : ((i : Int) == (b.size : Int)) = true := beq_iff_eq.2 (by omega)
      go_wp2
      refine bodyPost_ret (v := .tuple #[.int .i64 0, .int .i64 0, .int .i64 2]) (by simp [results, Try.results64, go_sem]) rfl ⟨?_, rfl⟩
      rw [← hv]; rfl

/-- Bytes as cells. -/
def octs (xs : List Nat) : List Value := xs.map fun x : Nat => Value.int .u8 (x : Int)

theorem octs_length (xs : List Nat) : (octs xs).length = xs.length := by simp [octs]

theorem octs_snoc (xs : List Nat) (y : Nat) : octs xs ++ [.int .u8 (y : Int)] = octs (xs ++ [y]) := by simp [octs]

theorem conv_own {w : World} {B : Nat} {v : Value} {n : Nat} {xs : List Nat} (h : w.ownsRow B 5 1 v n (octs xs)) :
    (convert 68 9 v).run Try.prog w = .ok (.string (bytesOf xs)) w := by
  have hl : xs.length = n := by have := h.1; rw [octs_length] at this; omega
  rcases h.2 with ⟨rfl, rfl⟩ | ⟨g, cap, cur, rfl, hb, hh, hn, _, hcs, hcur⟩
  · obtain rfl : xs = [] := List.eq_nil_of_length_eq_zero hl
    exact run_convert_bytes_nil w 68 5 Try.underlying68 Try.underlying5 0 0 9 Try.underlying9
  · have := run_convert_bytes_arg (P := Try.prog) w 68 5 Try.underlying68 Try.underlying5 g 0 n cap (xs.map fun x : Nat => (x : Int)) (by simpa using hl) (fun i hi => by
      have hc : (octs xs)[i]? = some (.int .u8 (((xs.map fun x : Nat => (x : Int))).getD i 0)) := by
        simp only [octs, List.getElem?_map, List.getD]
        rw [List.getElem?_eq_getElem (by omega)]
        rfl
      rw [← hcur, List.getElem?_take, if_pos (by omega), Array.getElem?_toList] at hc
      rw [Nat.zero_add, cell_of_row w g i cur _ _ hh]
      exact hc) 9 Try.underlying9
    rw [this, bytesOf_strs]

theorem number_out (n : Int) (hn : n < 0 ∨ 4294967295 < n) (w : World) :
    Calls Try.prog 43 #[.int .i64 n] w fun e w' => e = .returned (.tuple #[.string ⟨#[]⟩, .bool false]) ∧ Below w.heap.size w w' := by
  rcases hn with h | h
  · go_enter Try.func43, Try.ntmps43
    go_wp2
    exact bodyPost_ret (v := .tuple #[.string ⟨#[]⟩, .bool false]) (by simp [results, Try.results43, go_sem]) rfl ⟨rfl, Below.refl _ _⟩
  · have h0 : ¬ n < 0 := by omega
    go_enter Try.func43, Try.ntmps43
    go_wp2
    exact bodyPost_ret (v := .tuple #[.string ⟨#[]⟩, .bool false]) (by simp [results, Try.results43, go_sem]) rfl ⟨rfl, Below.refl _ _⟩

set_option maxRecDepth 20000 in
set_option maxHeartbeats 2000000 in
theorem number_in (n : Nat) (hn : n < 4294967296) (w : World) :
    Calls Try.prog 43 #[.int .i64 n] w fun e w' => e = .returned (.tuple #[.string (vtext n), .bool true]) ∧ Below w.heap.size w w' := by
  obtain ⟨i0, hi, hz0, hz1, hz2⟩ := info_parts Try.infoByte
  go_enter Try.func43, Try.ntmps43
  go_wp2
  go_loopw [0, 4] (fun vm u wr => ∃ (m : Nat) (xs : List Nat), vm = .int .i64 m ∧ m < 4294967296 ∧ Hid (xs ++ vb m = vb n) ∧ wr.ownsRow w.heap.size 5 1 u xs.length (octs xs) ∧ Below w.heap.size w wr) (fun vm _ _ => (intOf vm).toNat)
  case atStart => exact ⟨n, [], rfl, hn, rfl, World.ownsRow_nil _ _ _ _, Below.refl _ _⟩
  case round =>
    obtain ⟨m, xs, rfl, hm, he, hown, hbl⟩ := hrel
    have hz := hbl.size
    have hxl : xs.length ≤ 5 := by
      have h1 := congrArg List.length he.out
      rw [List.length_append, vb_length, vb_length] at h1
      have := vlen_five n (by omega)
      omega
    by_cases h : 128 ≤ m
    · have e1 : (128 : Int) + (m : Int) % 128 = ((m % 128 + 128 : Nat) : Int) := by simp; omega
      have E1 : Hid ((128 : Int) + (m : Int) % 128 = ((m % 128 + 128 : Nat) : Int)) := e1
      clear e1
      go_wp2_with (at_builtin; refine wpList_append_lies _ rfl (.tmp 15) (.tmp 20) 68 rfl w.heap.size 5 i0 (.int .u8 0) 1 1 Try.underlying68 hi hz0 hz1 hz2 rfl (by decide) u4 xs.length (octs xs) rfl (hown.alloc _) ⟨wr.heap.size, 0, none⟩ 1 1 [.int .u8 (128 + (m : Int) % 128)] rfl rfl (World.news_of_block (heap_alloc_new wr _)) (by intro u hu; simp at hu; subst hu; rfl) (by decide) (by unfold maxLen; omega) (by omega) (by simp; omega) (wr.heap.size + 1) (by simp) ?_; intro g cap' w4 hownY hgrow hat hlt4; rw [E1.out, octs_snoc] at hownY)
      have hbl4 : Below w.heap.size w w4 := (hbl.alloc hz _).grown hgrow (by simp; omega) (fun g hg => (hown.lt g hg).1)
      go_roundw
      case rel => exact ⟨m / 128, xs ++ [m % 128 + 128], by go_num, by omega, by have h1 := he.out; rw [vb_ge m h] at h1; show xs ++ [m % 128 + 128] ++ vb (m / 128) = vb n; rw [List.append_assoc]; exact h1, by simpa using hownY, hbl4⟩
      case measure => simp [intOf]; omega
    · have h1 := he.out
      rw [vb_lt m (by omega)] at h1
      have H1 : Hid (xs ++ [m] = vb n) := h1
      clear h1
      go_wp2_with (at_builtin; refine wpList_append_lies _ rfl (.tmp 22) (.tmp 25) 68 rfl w.heap.size 5 i0 (.int .u8 0) 1 1 Try.underlying68 hi hz0 hz1 hz2 rfl (by decide) u4 xs.length (octs xs) rfl (hown.alloc _) ⟨wr.heap.size, 0, none⟩ 1 1 [.int .u8 ((m : Int))] rfl rfl (World.news_of_block (heap_alloc_new wr _)) (by intro u hu; simp at hu; subst hu; rfl) (by decide) (by unfold maxLen; omega) (by omega) (by simp; omega) (wr.heap.size + 1) (by simp) ?_; intro g cap' w4 hownY hgrow hat hlt4; rw [octs_snoc] at hownY; rw [H1.out] at hownY; have cv := conv_own hownY)
      have hbl4 : Below w.heap.size w w4 := (hbl.alloc hz _).grown hgrow (by simp; omega) (fun g hg => (hown.lt g hg).1)
      exact bodyPost_ret (v := .tuple #[.string (bytesOf (vb n)), .bool true]) (by simp [results, Try.results43, go_sem]) rfl ⟨rfl, hbl4⟩
end Go.Proofs.Ytbeahodgkdbidaa
