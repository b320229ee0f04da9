/-
  What all statements of chapter 7 call: alive.
-/
import Derived.Test.YtmoanhlpldimcaaTrieNew
namespace Go.Proofs.Ytmoanhlpldimcaa
open Go.ChangeShapes Go.WideShapes Go.ChangeAt Go.RowKit

/-- The bytes by which a node has sons, as a list. -/
theorem sons_list {w : World} {B p : Nat} {A : List (List Nat)} {wd : List Nat → Int} (h : TrieAt w B p A wd) (j : Nat) (hj : j < A.length) {bl : List Nat} {n : Nat} (hbl : bl = byOf A (A[j]'hj)) (hn : n = bl.length) :
    Calls Try.prog 16 #[.pointer (some ⟨p, 0, none⟩), .int .i64 (j : Int)] w fun e w' => ∃ a c, e = .returned (.slice a n c) ∧ Reads w' (.slice a n c) (octs bl) ∧ (∀ g, (Value.slice a n c).ownBlock = some g → w.heap.size ≤ g) ∧ Below w.heap.size w w' := by
  subst hbl
  subst hn
  refine (sons_in h j hj).mono ?_
  rintro e w' ⟨v', rfl, ho, hb⟩
  obtain ⟨a, c, rfl⟩ := ownsRow_slice ho
  exact ⟨a, c, rfl, ownsRow_reads ho, fun g hg => (ho.lt g hg).1, hb⟩

/-- One byte of a list that is read. -/
theorem reads_byte {w : World} {a : Option Addr} {n c : Nat} {bl : List Nat} (h : Reads w (.slice a n c) (octs bl)) (hn : n = bl.length) (k : Nat) (hk : k < n) : ∃ g o, a = some ⟨g, o, none⟩ ∧ g < w.heap.size ∧ w.cell? ⟨g, o + k, none⟩ = some (.int .u8 ((bl[k]'(by omega) : Nat) : Int)) := by
  obtain ⟨a2, c2, e, h2⟩ := h
  rw [octs_length] at e h2
  injection e with e1 e2 e3
  rcases h2 with h0 | ⟨g, o, ea, hg, hc⟩
  · omega
  · refine ⟨g, o, by rw [e1, ea], hg, ?_⟩
    rw [hc k (by omega), octs, List.getElem?_map, List.getElem?_eq_getElem (by omega)]
    rfl

/-- A new row of bytes as a text. -/
theorem conv_row (w : World) (xs : List Nat) (c : Array Value) (hc : c = (xs.map fun x : Nat => Value.int .u8 (x : Int)).toArray) (n : Nat) (hn : xs.length = n) :
    (convert 38 9 (.slice (some ⟨w.heap.size, 0, none⟩) n n)).run Try.prog (w.alloc (.cells c 5)) = .ok (.string (bytesOf xs)) (w.alloc (.cells c 5)) := by
  rw [run_convert_bytes_arg (P := Try.prog) (w.alloc (.cells c 5)) 38 5 Try.underlying38 Try.underlying5 w.heap.size 0 n n (xs.map fun x : Nat => (x : Int)) (by rw [List.length_map, hn]) (fun i hi => by
    have hh : (w.alloc (.cells c 5)).heap[w.heap.size]? = some (.cells c 5 (0, 0)) := heap_alloc_new w _
    rw [Nat.zero_add, cell_of_row _ _ _ _ _ _ hh, hc]
    simp [List.getElem?_eq_getElem (show i < xs.length by omega)]) 9 Try.underlying9, bytesOf_strs]

theorem two_fine : Fine [⟨#[97, 98]⟩, ⟨#[97]⟩] := by
  rw [fine_iff]
  refine ⟨by decide, ?_, by decide, ?_⟩
  · intro s hs
    simp at hs
    rcases hs with rfl | rfl <;> decide
  · simp

theorem two_nodes : nodesN ([⟨#[97, 98]⟩, ⟨#[97]⟩].map nums) = [[], [97], [97, 98]] := by decide

theorem two_trie {w : World} {B p : Nat} (h : TrieOf w B p [⟨#[97, 98]⟩, ⟨#[97]⟩]) : TrieAt w B p [[], [97], [97, 98]] (wordOf [[97, 98], [97]]) := by
  have h2 := h
  unfold TrieOf at h2
  rw [two_nodes] at h2
  exact h2

theorem two_len {w : World} {B p : Nat} (h : TrieOf w B p [⟨#[97, 98]⟩, ⟨#[97]⟩]) : Calls Try.prog 22 #[.pointer (some ⟨p, 0, none⟩)] w fun e w' => e = .returned (.int .i64 3) ∧ w' = w := len_trie (two_trie h)
theorem two_text {w : World} {B p : Nat} (h : TrieOf w B p [⟨#[97, 98]⟩, ⟨#[97]⟩]) : Calls Try.prog 18 #[.pointer (some ⟨p, 0, none⟩), .int .i64 2] w fun e w' => e = .returned (.string ⟨#[97, 98]⟩) ∧ w' = w := text_in (two_trie h) 2 (by decide)
theorem two_word1 {w : World} {B p : Nat} (h : TrieOf w B p [⟨#[97, 98]⟩, ⟨#[97]⟩]) : Calls Try.prog 20 #[.pointer (some ⟨p, 0, none⟩), .int .i64 1] w fun e w' => e = .returned (.int .i64 1) ∧ w' = w := word_in (two_trie h) 1 (by decide)
theorem two_word2 {w : World} {B p : Nat} (h : TrieOf w B p [⟨#[97, 98]⟩, ⟨#[97]⟩]) : Calls Try.prog 20 #[.pointer (some ⟨p, 0, none⟩), .int .i64 2] w fun e w' => e = .returned (.int .i64 0) ∧ w' = w := word_in (two_trie h) 2 (by decide)
theorem two_word0 {w : World} {B p : Nat} (h : TrieOf w B p [⟨#[97, 98]⟩, ⟨#[97]⟩]) : Calls Try.prog 20 #[.pointer (some ⟨p, 0, none⟩), .int .i64 0] w fun e w' => e = .returned (.int .i64 (-1)) ∧ w' = w := word_in (two_trie h) 0 (by decide)

set_option maxRecDepth 20000 in
set_option maxHeartbeats 2000000 in
theorem alive_any (w : World) : Calls Try.prog 10 #[] w fun e w' => e = .returned (.bool true) ∧ Below w.heap.size w w' := by
  go_enter Try.func10, Try.ntmps10
  go_wp2_with (first
    | (go_at_call 11; refine (make_fine (reads_built w #[.string ⟨#[97, 98]⟩, .string ⟨#[97]⟩] _ 2 rfl) two_fine).mono ?_; rintro e w1 ⟨p, rfl, hd, hb1⟩; have HD := hid hd; have hw1 := below_more ((Below.refl w.heap.size w).alloc (Nat.le_refl _) _) hb1; have HW1 := hid hw1; clear hd hb1 hw1)
    | (have _h := later; go_at_call 12; refine (new_none _).mono ?_; rintro e w3 ⟨rfl, rfl⟩)
    | (go_at_call 12; refine (trie_new HD.out two_fine).mono ?_; rintro e w2 ⟨t, rfl, ht0, hb2⟩; have HT := hid ht0; have HW2 := hid (below_more HW1.out hb2); clear ht0 hb2; have later : True := trivial)
    | (go_at_call 22; refine (two_len HT.out).mono ?_; rintro e w4 ⟨rfl, rfl⟩)
    | (go_at_call 18; refine (two_text HT.out).mono ?_; rintro e w4 ⟨rfl, rfl⟩)
    | (have _h := later3; go_at_call 20; refine (two_word0 HT.out).mono ?_; rintro e w4 ⟨rfl, rfl⟩)
    | (have _h := later2; go_at_call 20; refine (two_word2 HT.out).mono ?_; rintro e w4 ⟨rfl, rfl⟩; have later3 : True := trivial)
    | (go_at_call 20; refine (two_word1 HT.out).mono ?_; rintro e w4 ⟨rfl, rfl⟩; have later2 : True := trivial))
  go_ret
  exact ⟨rfl, HW2.out⟩
end Go.Proofs.Ytmoanhlpldimcaa
