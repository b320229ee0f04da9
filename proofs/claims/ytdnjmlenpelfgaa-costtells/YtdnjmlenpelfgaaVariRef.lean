/-
  The document's own number as bytes, for every number. And a row of bytes of one's own as a text.
-/
import Derived.Test.YtdnjmlenpelfgaaOcts
import Derived.Test.YtdnjmlenpelfgaaVari
import Derived.Deep.AppendLies
import Derived.Deep.RegionLaw
import Derived.BigRegion
namespace Go.Proofs.Ytdnjmlenpelfgaa
open Go.ChangeShapes Go.WideShapes Go.ChangeAt Go.RowKit

theorem conv_own {w : World} {B : Nat} {v : Value} {n : Nat} {xs : List Nat} (h : w.ownsRow B 5 1 v n (octs xs)) :
    (convert 42 9 v).run Try.prog w = .ok (.string (bytesOf xs)) w := by
  have hl : xs.length = n := by have := h.1; rw [octs_length] at this; omega
  rcases h.2 with ⟨rfl, rfl⟩ | ⟨g, cap, cur, rfl, hb, hh, hn, _, hcs, hcur⟩
  · obtain rfl : xs = [] := List.eq_nil_of_length_eq_zero hl
    exact run_convert_bytes_nil w 42 5 Try.underlying42 Try.underlying5 0 0 9 Try.underlying9
  · have := run_convert_bytes_arg (P := Try.prog) w 42 5 Try.underlying42 Try.underlying5 g 0 n cap (xs.map fun x : Nat => (x : Int)) (by simpa using hl) (fun i hi => by
      have hc : (octs xs)[i]? = some (.int .u8 (((xs.map fun x : Nat => (x : Int))).getD i 0)) := by
        simp only [octs, List.getElem?_map, List.getD]
        rw [List.getElem?_eq_getElem (by omega)]
        rfl
      rw [← hcur, List.getElem?_take, if_pos (by omega), Array.getElem?_toList] at hc
      rw [Nat.zero_add, cell_of_row w g i cur _ _ hh]
      exact hc) 9 Try.underlying9
    rw [this, bytesOf_strs]

theorem number_out (n : Int) (hn : n < 0 ∨ 4294967295 < n) (w : World) :
    Calls Try.prog 19 #[.int .i64 n] w fun e w' => e = .returned (.tuple #[.string ⟨#[]⟩, .bool false]) ∧ Below w.heap.size w w' := by
  rcases hn with h | h
  · go_enter Try.func19, Try.ntmps19
    go_wp2
    exact bodyPost_ret (v := .tuple #[.string ⟨#[]⟩, .bool false]) (by simp [results, Try.results19, go_sem]) rfl ⟨rfl, Below.refl _ _⟩
  · have h0 : ¬ n < 0 := by omega
    go_enter Try.func19, Try.ntmps19
    go_wp2
    exact bodyPost_ret (v := .tuple #[.string ⟨#[]⟩, .bool false]) (by simp [results, Try.results19, go_sem]) rfl ⟨rfl, Below.refl _ _⟩

set_option maxRecDepth 20000 in
set_option maxHeartbeats 2000000 in
theorem number_in (n : Nat) (hn : n < 4294967296) (w : World) :
    Calls Try.prog 19 #[.int .i64 n] w fun e w' => e = .returned (.tuple #[.string (vtext n), .bool true]) ∧ Below w.heap.size w w' := by
  obtain ⟨i0, hi, hz0, hz1, hz2⟩ := info_parts Try.infoByte
  go_enter Try.func19, Try.ntmps19
  go_wp2
  go_loopw [0, 4] (fun vm u wr => ∃ (m : Nat) (xs : List Nat), vm = .int .i64 m ∧ m < 4294967296 ∧ Hid (xs ++ vb m = vb n) ∧ wr.ownsRow w.heap.size 5 1 u xs.length (octs xs) ∧ Below w.heap.size w wr) (fun vm _ _ => (intOf vm).toNat)
  case atStart => exact ⟨n, [], rfl, hn, rfl, World.ownsRow_nil _ _ _ _, Below.refl _ _⟩
  case round =>
    obtain ⟨m, xs, rfl, hm, he, hown, hbl⟩ := hrel
    have hz := hbl.size
    have hxl : xs.length ≤ 5 := by
      have h1 := congrArg List.length he.out
      rw [List.length_append, vb_length, vb_length] at h1
      have := vlen_five n (by omega)
      omega
    by_cases h : 128 ≤ m
    · have e1 : (128 : Int) + (m : Int) % 128 = ((m % 128 + 128 : Nat) : Int) := by simp; omega
      have E1 : Hid ((128 : Int) + (m : Int) % 128 = ((m % 128 + 128 : Nat) : Int)) := e1
      clear e1
      go_wp2_with (at_builtin; refine wpList_append_lies _ rfl (.tmp 15) (.tmp 20) 42 rfl w.heap.size 5 i0 (.int .u8 0) 1 1 Try.underlying42 hi hz0 hz1 hz2 rfl (by decide) u4 xs.length (octs xs) rfl (hown.alloc _) ⟨wr.heap.size, 0, none⟩ 1 1 [.int .u8 (128 + (m : Int) % 128)] rfl rfl (World.news_of_block (heap_alloc_new wr _)) (by intro u hu; simp at hu; subst hu; rfl) (by decide) (by unfold maxLen; omega) (by omega) (by simp; omega) (wr.heap.size + 1) (by simp) ?_; intro g cap' w4 hownY hgrow hat hlt4; rw [E1.out, octs_snoc] at hownY)
      have hbl4 : Below w.heap.size w w4 := (hbl.alloc hz _).grown hgrow (by simp; omega) (fun g hg => (hown.lt g hg).1)
      go_roundw
      case rel => exact ⟨m / 128, xs ++ [m % 128 + 128], by go_num, by omega, by have h1 := he.out; rw [vb_ge m h] at h1; show xs ++ [m % 128 + 128] ++ vb (m / 128) = vb n; rw [List.append_assoc]; exact h1, by simpa using hownY, hbl4⟩
      case measure => simp [intOf]; omega
    · have h1 := he.out
      rw [vb_lt m (by omega)] at h1
      have H1 : Hid (xs ++ [m] = vb n) := h1
      clear h1
      go_wp2_with (at_builtin; refine wpList_append_lies _ rfl (.tmp 22) (.tmp 25) 42 rfl w.heap.size 5 i0 (.int .u8 0) 1 1 Try.underlying42 hi hz0 hz1 hz2 rfl (by decide) u4 xs.length (octs xs) rfl (hown.alloc _) ⟨wr.heap.size, 0, none⟩ 1 1 [.int .u8 ((m : Int))] rfl rfl (World.news_of_block (heap_alloc_new wr _)) (by intro u hu; simp at hu; subst hu; rfl) (by decide) (by unfold maxLen; omega) (by omega) (by simp; omega) (wr.heap.size + 1) (by simp) ?_; intro g cap' w4 hownY hgrow hat hlt4; rw [octs_snoc] at hownY; rw [H1.out] at hownY; have cv := conv_own hownY)
      have hbl4 : Below w.heap.size w w4 := (hbl.alloc hz _).grown hgrow (by simp; omega) (fun g hg => (hown.lt g hg).1)
      exact bodyPost_ret (v := .tuple #[.string (bytesOf (vb n)), .bool true]) (by simp [results, Try.results19, go_sem]) rfl ⟨rfl, hbl4⟩
end Go.Proofs.Ytdnjmlenpelfgaa
