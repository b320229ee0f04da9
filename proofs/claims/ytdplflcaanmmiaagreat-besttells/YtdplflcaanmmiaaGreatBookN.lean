/-
  Lists of lists of one's own, one more of them, and the book's own cells: what the books of all kinds share. Contracts of package lexiphanebook over lists of other kinds: there are none in the book. Contracts of package lexiphanebook over lists of texts: there are none in the book.
-/
import Derived.Test.YtdplflcaanmmiaaGreatBookT
namespace Go.Proofs.YtdplflcaanmmiaaGreat
open Go.ChangeShapes Go.WideShapes Go.ChangeAt Go.RowKit

theorem book_free {w : World} {p : Nat} {cs : Array Value} (h : BookAt w p cs) (j : Nat) : w.frozen? ⟨p, j, none⟩ = false := by simp [World.frozen?, h.1]
theorem BookAt.below {w w' : World} {p : Nat} {cs : Array Value} (h : BookAt w p cs) (hb : Below w.heap.size w w') : BookAt w' p cs := ⟨(hb.block p (Array.getElem?_eq_some_iff.1 h.1).1).trans h.1, h.2⟩

/-- One more list of its own for lists of their own. -/
def put1 (n : Nat) {α : Type} (V : Nat → α) (v : α) : Nat → α := fun j => if j = n then v else V j
theorem put1_at {α : Type} (n : Nat) (V : Nat → α) (v : α) : put1 n V v n = v := by simp [put1]
theorem put1_else {α : Type} (n : Nat) (V : Nat → α) (v : α) (j : Nat) (h : j < n) : put1 n V v j = V j := by unfold put1; rw [if_neg (by omega)]
theorem put1_range {α : Type} (n : Nat) (V : Nat → α) (v : α) : (List.range (n + 1)).map (put1 n V v) = (List.range n).map V ++ [v] := by
  rw [List.range_succ, List.map_append]
  congr 1
  · apply List.map_congr_left
    intro j hj
    exact put1_else n V v j (List.mem_range.1 hj)
  · simp [put1_at]

/-- Rows other than those of type e that lie off a block outlast an append there. -/
theorem turns_grown {w w' : World} {B : Nat} {e : TypeId} {v : Value} {n : Nat} {xs : List Value} (ho : w.ownsRow B e 1 v n xs) (hg : w.grownBy w' v.ownBlock) : Turns e B w w' :=
  ⟨hg.os, hg.tape, hg.output, hg.size, fun k hk hn => hg.block k hk (fun e => by
    obtain ⟨hb, cur, hh⟩ := ownsRow_block ho k e.symm
    rcases hn with hn | hn
    · omega
    · exact hn cur (0, 0) hh)⟩

theorem turns_book {w : World} {B p : Nat} {cs : Array Value} (h : BookAt w p cs) (hp : B ≤ p) (j : Nat) (v : Value) : Turns 38 B w (w.setCell ⟨p, j, none⟩ v) := by
  refine ⟨rfl, rfl, rfl, by simp, fun k hk hn => ?_⟩
  apply Below.heap_setCell
  rintro rfl
  rcases hn with hn | hn
  · exact absurd hn (Nat.not_lt.2 hp)
  · exact hn cs (0, 0) h.1

theorem book_set {w : World} {p : Nat} {cs : Array Value} (h : BookAt w p cs) (j : Nat) (v : Value) : BookAt (w.setCell ⟨p, j, none⟩ v) p (cs.setIfInBounds j v) := by
  refine ⟨?_, by rw [Array.size_setIfInBounds]; exact h.2⟩
  simp only [World.setCell, Array.getElem?_modify, h.1]
  simp

theorem off_same {l l' r : Value} (ho : Off r l) (hat : l'.ownBlock = l.ownBlock ∨ ∃ g, l'.ownBlock = some g ∧ r.ownBlock ≠ some g) : Off r l' := by
  rcases hat with h | ⟨g, h1, h2⟩
  · unfold Off; rw [h]; exact ho
  · right; rw [h1]; exact fun e => h2 e.symm

theorem row_fresh {w : World} {B : Nat} {e : TypeId} {v : Value} {n : Nat} {xs : List Value} (h : w.ownsRow B e 1 v n xs) : v.ownBlock ≠ some w.heap.size := by
  intro e
  have := (h.lt _ e).2
  omega
end Go.Proofs.YtdplflcaanmmiaaGreat

namespace Go.Proofs.YtdplflcaanmmiaaGreat
open Go.ChangeShapes Go.WideShapes Go.ChangeAt Go.RowKit

theorem stillInts_none {w : World} {p : Nat} {cs : Array Value} (hp : BookAt w p cs) (h : cs[0]? = some (.slice none 0 0)) :
    Calls Tryz.prog 32 #[.pointer (some ⟨p, 0, none⟩)] w fun e w' => e = .returned (.bool true) ∧ w' = w := by
  have c := hp.cell 0
  rw [h] at c
  go_enter Tryz.func32, Tryz.ntmps32
  go_wp2
  go_loopw [3] (fun vi wr => vi = .int .i64 0 ∧ wr = w) (fun _ _ => 0)
  case atStart => exact ⟨rfl, rfl⟩
  case round =>
    obtain ⟨rfl, rfl⟩ := hrel
    go_wp2
    go_ret
    exact ⟨rfl, rfl⟩

theorem putInts_none {w : World} {p : Nat} {cs : Array Value} (hp : BookAt w p cs) (h : cs[0]? = some (.slice none 0 0)) :
    Calls Tryz.prog 37 #[.pointer (some ⟨p, 0, none⟩)] w fun e w' => e = .returned (.tuple #[]) ∧ w' = w := by
  have c := hp.cell 0
  rw [h] at c
  go_enter Tryz.func37, Tryz.ntmps37
  go_wp2
  go_loopw [2] (fun vi wr => vi = .int .i64 0 ∧ wr = w) (fun _ _ => 0)
  case atStart => exact ⟨rfl, rfl⟩
  case round =>
    obtain ⟨rfl, rfl⟩ := hrel
    go_wp2
    refine bodyPost_end (v := .tuple #[]) (by simp [results, Tryz.results37, go_sem]) rfl ⟨rfl, rfl⟩

theorem growInts_none {w : World} {p : Nat} {cs : Array Value} (hp : BookAt w p cs) (h : cs[0]? = some (.slice none 0 0)) :
    Calls Tryz.prog 42 #[.pointer (some ⟨p, 0, none⟩)] w fun e w' => e = .returned (.slice none 0 0) ∧ w' = w := by
  have c := hp.cell 0
  rw [h] at c
  go_enter Tryz.func42, Tryz.ntmps42
  go_wp2
  go_loopw [3, 4] (fun vo vi wr => vo = .slice none 0 0 ∧ vi = .int .i64 0 ∧ wr = w) (fun _ _ _ => 0)
  case atStart => exact ⟨rfl, rfl, rfl⟩
  case round =>
    obtain ⟨rfl, rfl, rfl⟩ := hrel
    go_wp2
    go_ret
    exact ⟨rfl, rfl⟩

theorem markedInts_none (w : World) :
    Calls Tryz.prog 47 #[.slice none 0 0] w fun e w' => e = .returned (.bool true) ∧ w' = w := by
  go_enter Tryz.func47, Tryz.ntmps47
  go_wp2
  go_loopw [3] (fun vi wr => vi = .int .i64 0 ∧ wr = w) (fun _ _ => 0)
  case atStart => exact ⟨rfl, rfl⟩
  case round =>
    obtain ⟨rfl, rfl⟩ := hrel
    go_wp2
    go_ret
    exact ⟨rfl, rfl⟩

theorem stillHits_none {w : World} {p : Nat} {cs : Array Value} (hp : BookAt w p cs) (h : cs[4]? = some (.slice none 0 0)) :
    Calls Tryz.prog 34 #[.pointer (some ⟨p, 0, none⟩)] w fun e w' => e = .returned (.bool true) ∧ w' = w := by
  have c := hp.cell 4
  rw [h] at c
  go_enter Tryz.func34, Tryz.ntmps34
  go_wp2
  go_loopw [3] (fun vi wr => vi = .int .i64 0 ∧ wr = w) (fun _ _ => 0)
  case atStart => exact ⟨rfl, rfl⟩
  case round =>
    obtain ⟨rfl, rfl⟩ := hrel
    go_wp2
    go_ret
    exact ⟨rfl, rfl⟩

theorem putHits_none {w : World} {p : Nat} {cs : Array Value} (hp : BookAt w p cs) (h : cs[4]? = some (.slice none 0 0)) :
    Calls Tryz.prog 39 #[.pointer (some ⟨p, 0, none⟩)] w fun e w' => e = .returned (.tuple #[]) ∧ w' = w := by
  have c := hp.cell 4
  rw [h] at c
  go_enter Tryz.func39, Tryz.ntmps39
  go_wp2
  go_loopw [2] (fun vi wr => vi = .int .i64 0 ∧ wr = w) (fun _ _ => 0)
  case atStart => exact ⟨rfl, rfl⟩
  case round =>
    obtain ⟨rfl, rfl⟩ := hrel
    go_wp2
    refine bodyPost_end (v := .tuple #[]) (by simp [results, Tryz.results39, go_sem]) rfl ⟨rfl, rfl⟩

theorem growHits_none {w : World} {p : Nat} {cs : Array Value} (hp : BookAt w p cs) (h : cs[4]? = some (.slice none 0 0)) :
    Calls Tryz.prog 44 #[.pointer (some ⟨p, 0, none⟩)] w fun e w' => e = .returned (.slice none 0 0) ∧ w' = w := by
  have c := hp.cell 4
  rw [h] at c
  go_enter Tryz.func44, Tryz.ntmps44
  go_wp2
  go_loopw [3, 4] (fun vo vi wr => vo = .slice none 0 0 ∧ vi = .int .i64 0 ∧ wr = w) (fun _ _ _ => 0)
  case atStart => exact ⟨rfl, rfl, rfl⟩
  case round =>
    obtain ⟨rfl, rfl, rfl⟩ := hrel
    go_wp2
    go_ret
    exact ⟨rfl, rfl⟩

theorem markedHits_none (w : World) :
    Calls Tryz.prog 49 #[.slice none 0 0] w fun e w' => e = .returned (.bool true) ∧ w' = w := by
  go_enter Tryz.func49, Tryz.ntmps49
  go_wp2
  go_loopw [3] (fun vi wr => vi = .int .i64 0 ∧ wr = w) (fun _ _ => 0)
  case atStart => exact ⟨rfl, rfl⟩
  case round =>
    obtain ⟨rfl, rfl⟩ := hrel
    go_wp2
    go_ret
    exact ⟨rfl, rfl⟩

theorem stillCosts_none {w : World} {p : Nat} {cs : Array Value} (hp : BookAt w p cs) (h : cs[6]? = some (.slice none 0 0)) :
    Calls Tryz.prog 35 #[.pointer (some ⟨p, 0, none⟩)] w fun e w' => e = .returned (.bool true) ∧ w' = w := by
  have c := hp.cell 6
  rw [h] at c
  go_enter Tryz.func35, Tryz.ntmps35
  go_wp2
  go_loopw [3] (fun vi wr => vi = .int .i64 0 ∧ wr = w) (fun _ _ => 0)
  case atStart => exact ⟨rfl, rfl⟩
  case round =>
    obtain ⟨rfl, rfl⟩ := hrel
    go_wp2
    go_ret
    exact ⟨rfl, rfl⟩

theorem putCosts_none {w : World} {p : Nat} {cs : Array Value} (hp : BookAt w p cs) (h : cs[6]? = some (.slice none 0 0)) :
    Calls Tryz.prog 40 #[.pointer (some ⟨p, 0, none⟩)] w fun e w' => e = .returned (.tuple #[]) ∧ w' = w := by
  have c := hp.cell 6
  rw [h] at c
  go_enter Tryz.func40, Tryz.ntmps40
  go_wp2
  go_loopw [2] (fun vi wr => vi = .int .i64 0 ∧ wr = w) (fun _ _ => 0)
  case atStart => exact ⟨rfl, rfl⟩
  case round =>
    obtain ⟨rfl, rfl⟩ := hrel
    go_wp2
    refine bodyPost_end (v := .tuple #[]) (by simp [results, Tryz.results40, go_sem]) rfl ⟨rfl, rfl⟩

theorem growCosts_none {w : World} {p : Nat} {cs : Array Value} (hp : BookAt w p cs) (h : cs[6]? = some (.slice none 0 0)) :
    Calls Tryz.prog 45 #[.pointer (some ⟨p, 0, none⟩)] w fun e w' => e = .returned (.slice none 0 0) ∧ w' = w := by
  have c := hp.cell 6
  rw [h] at c
  go_enter Tryz.func45, Tryz.ntmps45
  go_wp2
  go_loopw [3, 4] (fun vo vi wr => vo = .slice none 0 0 ∧ vi = .int .i64 0 ∧ wr = w) (fun _ _ _ => 0)
  case atStart => exact ⟨rfl, rfl, rfl⟩
  case round =>
    obtain ⟨rfl, rfl, rfl⟩ := hrel
    go_wp2
    go_ret
    exact ⟨rfl, rfl⟩

theorem markedCosts_none (w : World) :
    Calls Tryz.prog 50 #[.slice none 0 0] w fun e w' => e = .returned (.bool true) ∧ w' = w := by
  go_enter Tryz.func50, Tryz.ntmps50
  go_wp2
  go_loopw [3] (fun vi wr => vi = .int .i64 0 ∧ wr = w) (fun _ _ => 0)
  case atStart => exact ⟨rfl, rfl⟩
  case round =>
    obtain ⟨rfl, rfl⟩ := hrel
    go_wp2
    go_ret
    exact ⟨rfl, rfl⟩

theorem stillBytes_none {w : World} {p : Nat} {cs : Array Value} (hp : BookAt w p cs) (h : cs[8]? = some (.slice none 0 0)) :
    Calls Tryz.prog 36 #[.pointer (some ⟨p, 0, none⟩)] w fun e w' => e = .returned (.bool true) ∧ w' = w := by
  have c := hp.cell 8
  rw [h] at c
  go_enter Tryz.func36, Tryz.ntmps36
  go_wp2
  go_loopw [3] (fun vi wr => vi = .int .i64 0 ∧ wr = w) (fun _ _ => 0)
  case atStart => exact ⟨rfl, rfl⟩
  case round =>
    obtain ⟨rfl, rfl⟩ := hrel
    go_wp2
    go_ret
    exact ⟨rfl, rfl⟩

theorem putBytes_none {w : World} {p : Nat} {cs : Array Value} (hp : BookAt w p cs) (h : cs[8]? = some (.slice none 0 0)) :
    Calls Tryz.prog 41 #[.pointer (some ⟨p, 0, none⟩)] w fun e w' => e = .returned (.tuple #[]) ∧ w' = w := by
  have c := hp.cell 8
  rw [h] at c
  go_enter Tryz.func41, Tryz.ntmps41
  go_wp2
  go_loopw [2] (fun vi wr => vi = .int .i64 0 ∧ wr = w) (fun _ _ => 0)
  case atStart => exact ⟨rfl, rfl⟩
  case round =>
    obtain ⟨rfl, rfl⟩ := hrel
    go_wp2
    refine bodyPost_end (v := .tuple #[]) (by simp [results, Tryz.results41, go_sem]) rfl ⟨rfl, rfl⟩

theorem growBytes_none {w : World} {p : Nat} {cs : Array Value} (hp : BookAt w p cs) (h : cs[8]? = some (.slice none 0 0)) :
    Calls Tryz.prog 46 #[.pointer (some ⟨p, 0, none⟩)] w fun e w' => e = .returned (.slice none 0 0) ∧ w' = w := by
  have c := hp.cell 8
  rw [h] at c
  go_enter Tryz.func46, Tryz.ntmps46
  go_wp2
  go_loopw [3, 4] (fun vo vi wr => vo = .slice none 0 0 ∧ vi = .int .i64 0 ∧ wr = w) (fun _ _ _ => 0)
  case atStart => exact ⟨rfl, rfl, rfl⟩
  case round =>
    obtain ⟨rfl, rfl, rfl⟩ := hrel
    go_wp2
    go_ret
    exact ⟨rfl, rfl⟩

theorem markedBytes_none (w : World) :
    Calls Tryz.prog 51 #[.slice none 0 0] w fun e w' => e = .returned (.bool true) ∧ w' = w := by
  go_enter Tryz.func51, Tryz.ntmps51
  go_wp2
  go_loopw [3] (fun vi wr => vi = .int .i64 0 ∧ wr = w) (fun _ _ => 0)
  case atStart => exact ⟨rfl, rfl⟩
  case round =>
    obtain ⟨rfl, rfl⟩ := hrel
    go_wp2
    go_ret
    exact ⟨rfl, rfl⟩

end Go.Proofs.YtdplflcaanmmiaaGreat

namespace Go.Proofs.YtdplflcaanmmiaaGreat
open Go.ChangeShapes Go.WideShapes Go.ChangeAt Go.RowKit

theorem stillTexts_none {w : World} {p : Nat} {cs : Array Value} (hp : BookAt w p cs) (h : cs[2]? = some (.slice none 0 0)) :
    Calls Tryz.prog 33 #[.pointer (some ⟨p, 0, none⟩)] w fun e w' => e = .returned (.bool true) ∧ w' = w := by
  have c := hp.cell 2
  rw [h] at c
  go_enter Tryz.func33, Tryz.ntmps33
  go_wp2
  go_loopw [3] (fun vi wr => vi = .int .i64 0 ∧ wr = w) (fun _ _ => 0)
  case atStart => exact ⟨rfl, rfl⟩
  case round =>
    obtain ⟨rfl, rfl⟩ := hrel
    go_wp2
    go_ret
    exact ⟨rfl, rfl⟩

theorem putTexts_none {w : World} {p : Nat} {cs : Array Value} (hp : BookAt w p cs) (h : cs[2]? = some (.slice none 0 0)) :
    Calls Tryz.prog 38 #[.pointer (some ⟨p, 0, none⟩)] w fun e w' => e = .returned (.tuple #[]) ∧ w' = w := by
  have c := hp.cell 2
  rw [h] at c
  go_enter Tryz.func38, Tryz.ntmps38
  go_wp2
  go_loopw [2] (fun vi wr => vi = .int .i64 0 ∧ wr = w) (fun _ _ => 0)
  case atStart => exact ⟨rfl, rfl⟩
  case round =>
    obtain ⟨rfl, rfl⟩ := hrel
    go_wp2
    refine bodyPost_end (v := .tuple #[]) (by simp [results, Tryz.results38, go_sem]) rfl ⟨rfl, rfl⟩

theorem growTexts_none {w : World} {p : Nat} {cs : Array Value} (hp : BookAt w p cs) (h : cs[2]? = some (.slice none 0 0)) :
    Calls Tryz.prog 43 #[.pointer (some ⟨p, 0, none⟩)] w fun e w' => e = .returned (.slice none 0 0) ∧ w' = w := by
  have c := hp.cell 2
  rw [h] at c
  go_enter Tryz.func43, Tryz.ntmps43
  go_wp2
  go_loopw [3, 4] (fun vo vi wr => vo = .slice none 0 0 ∧ vi = .int .i64 0 ∧ wr = w) (fun _ _ _ => 0)
  case atStart => exact ⟨rfl, rfl, rfl⟩
  case round =>
    obtain ⟨rfl, rfl, rfl⟩ := hrel
    go_wp2
    go_ret
    exact ⟨rfl, rfl⟩

theorem markedTexts_none (w : World) :
    Calls Tryz.prog 48 #[.slice none 0 0] w fun e w' => e = .returned (.bool true) ∧ w' = w := by
  go_enter Tryz.func48, Tryz.ntmps48
  go_wp2
  go_loopw [3] (fun vi wr => vi = .int .i64 0 ∧ wr = w) (fun _ _ => 0)
  case atStart => exact ⟨rfl, rfl⟩
  case round =>
    obtain ⟨rfl, rfl⟩ := hrel
    go_wp2
    go_ret
    exact ⟨rfl, rfl⟩

end Go.Proofs.YtdplflcaanmmiaaGreat
