/-
  The bytes by which a node has sons, as a list; a new row of bytes as a text.
-/
import Derived.Test.YtdplflcaanmmiaaGreatTrie
namespace Go.Proofs.YtdplflcaanmmiaaGreat
open Go.ChangeShapes Go.WideShapes Go.ChangeAt Go.RowKit

/-- The bytes by which a node has sons, as a list. -/
theorem sons_list {w : World} {B p : Nat} {A : List (List Nat)} {wd : List Nat → Int} (h : TrieAt w B p A wd) (j : Nat) (hj : j < A.length) {bl : List Nat} {n : Nat} (hbl : bl = byOf A (A[j]'hj)) (hn : n = bl.length) :
    Calls Tryz.prog 107 #[.pointer (some ⟨p, 0, none⟩), .int .i64 (j : Int)] w fun e w' => ∃ a c, e = .returned (.slice a n c) ∧ Reads w' (.slice a n c) (octs bl) ∧ (∀ g, (Value.slice a n c).ownBlock = some g → w.heap.size ≤ g) ∧ Below w.heap.size w w' := by
  subst hbl
  subst hn
  refine (sons_in h j hj).mono ?_
  rintro e w' ⟨v', rfl, ho, hb⟩
  obtain ⟨a, c, rfl⟩ := ownsRow_slice ho
  exact ⟨a, c, rfl, ownsRow_reads ho, fun g hg => (ho.lt g hg).1, hb⟩

/-- One byte of a list that is read. -/
theorem reads_byte {w : World} {a : Option Addr} {n c : Nat} {bl : List Nat} (h : Reads w (.slice a n c) (octs bl)) (hn : n = bl.length) (k : Nat) (hk : k < n) : ∃ g o, a = some ⟨g, o, none⟩ ∧ g < w.heap.size ∧ w.cell? ⟨g, o + k, none⟩ = some (.int .u8 ((bl[k]'(by omega) : Nat) : Int)) := by
  obtain ⟨a2, c2, e, h2⟩ := h
  rw [octs_length] at e h2
  injection e with e1 e2 e3
  rcases h2 with h0 | ⟨g, o, ea, hg, hc⟩
  · omega
  · refine ⟨g, o, by rw [e1, ea], hg, ?_⟩
    rw [hc k (by omega), octs, List.getElem?_map, List.getElem?_eq_getElem (by omega)]
    rfl

/-- A new row of bytes as a text. -/
theorem conv_row (w : World) (xs : List Nat) (c : Array Value) (hc : c = (xs.map fun x : Nat => Value.int .u8 (x : Int)).toArray) (n : Nat) (hn : xs.length = n) :
    (convert 105 9 (.slice (some ⟨w.heap.size, 0, none⟩) n n)).run Tryz.prog (w.alloc (.cells c 5)) = .ok (.string (bytesOf xs)) (w.alloc (.cells c 5)) := by
  rw [run_convert_bytes_arg (P := Tryz.prog) (w.alloc (.cells c 5)) 105 5 Tryz.underlying105 Tryz.underlying5 w.heap.size 0 n n (xs.map fun x : Nat => (x : Int)) (by rw [List.length_map, hn]) (fun i hi => by
    have hh : (w.alloc (.cells c 5)).heap[w.heap.size]? = some (.cells c 5 (0, 0)) := heap_alloc_new w _
    rw [Nat.zero_add, cell_of_row _ _ _ _ _ _ hh, hc]
    simp [List.getElem?_eq_getElem (show i < xs.length by omega)]) 9 Tryz.underlying9, bytesOf_strs]

end Go.Proofs.YtdplflcaanmmiaaGreat
