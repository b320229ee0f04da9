/-
  Rows of 256 numbers, one behind the other, in one block: what they hold, by row and place; a whole row read, and laid over another.
-/
import Derived.Test.YtcbnlhgkihhakaaGreatBase
import Derived.Deep.MidRow
namespace Go.Proofs.YtcbnlhgkihhakaaGreat
open Go.ChangeShapes Go.WideShapes Go.ChangeAt Go.RowKit

/-- A row of 256 numbers, as cells. -/
def cells256 (f : Nat → Nat) : List Value := (List.range 256).map (fun c => Value.int .i64 (f c : Int))

theorem cells256_length (f : Nat → Nat) : (cells256 f).length = 256 := by simp [cells256]

theorem cells256_at (f : Nat → Nat) (c : Nat) (h : c < 256) : (cells256 f)[c]? = some (.int .i64 (f c : Int)) := by
  simp [cells256, h]

theorem cells256_one (f : Nat → Nat) : ∀ v ∈ cells256 f, v.oneCell' = true := by
  intro v hv
  simp only [cells256, List.mem_map] at hv
  obtain ⟨c, _, rfl⟩ := hv
  rfl

theorem cells256_congr {f g : Nat → Nat} (h : ∀ c, c < 256 → f c = g c) : cells256 f = cells256 g := by
  unfold cells256
  refine List.map_congr_left (fun c hc => ?_)
  rw [h c (List.mem_range.1 hc)]

theorem cells256_nums (f : Nat → Nat) : cells256 f = numsI ((List.range 256).map f) := by
  unfold cells256 numsI
  rw [List.map_map]
  rfl

/-- Block rp holds n rows of 256 numbers. -/
def Rows256 (w : World) (rp n : Nat) (R : Nat → Nat → Nat) : Prop :=
  w.rowIs rp 70 (n * 256) (fun i => .int .i64 (R (i / 256) (i % 256) : Int))

theorem Rows256.cell {w : World} {rp n : Nat} {R : Nat → Nat → Nat} (h : Rows256 w rp n R) {j c : Nat} (hj : j < n) (hc : c < 256) : w.cell? ⟨rp, j * 256 + c, none⟩ = some (.int .i64 (R j c : Int)) := by
  have h1 := World.rowIs.cell h (i := j * 256 + c) (by omega)
  rw [show (j * 256 + c) / 256 = j by omega, show (j * 256 + c) % 256 = c by omega] at h1
  exact h1

theorem Rows256.range {w : World} {rp n : Nat} {R : Nat → Nat → Nat} (h : Rows256 w rp n R) {j : Nat} (hj : j < n) : w.rangeAt rp (j * 256) (cells256 (R j)) := by
  intro c v hv
  have hc : c < 256 := by
    have := (List.getElem?_eq_some_iff.1 hv).1
    rwa [cells256_length] at this
  rw [cells256_at _ c hc] at hv
  rw [← hv]
  exact h.cell hj hc

theorem Rows256.there {w : World} {rp n : Nat} {R : Nat → Nat → Nat} (h : Rows256 w rp n R) {j : Nat} (hj : j < n) : w.there rp (j * 256) 256 := by
  intro c hc
  exact ⟨by rw [h.cell hj hc]; rfl, World.rowIs.frozen h _⟩

theorem Rows256.congr {w : World} {rp n : Nat} {R R2 : Nat → Nat → Nat} (h : Rows256 w rp n R) (e : ∀ j, j < n → ∀ c, c < 256 → R j c = R2 j c) : Rows256 w rp n R2 :=
  World.rowIs.congr h (fun i hi => by rw [e (i / 256) (by omega) (i % 256) (by omega)])

theorem Rows256.lt {w : World} {rp n : Nat} {R : Nat → Nat → Nat} (h : Rows256 w rp n R) : rp < w.heap.size := World.rowIs.lt h

theorem Rows256.block {w w' : World} {rp n : Nat} {R : Nat → Nat → Nat} (h : Rows256 w rp n R) (e : w'.heap[rp]? = w.heap[rp]?) : Rows256 w' rp n R := World.rowIs.of_block h e

/-- One number stored. -/
theorem Rows256.set {w : World} {rp n : Nat} {R : Nat → Nat → Nat} (h : Rows256 w rp n R) (j c v : Nat) (hc : c < 256) : Rows256 (w.setCell ⟨rp, j * 256 + c, none⟩ (.int .i64 (v : Int))) rp n (fun a b => if a = j ∧ b = c then v else R a b) := by
  refine World.rowIs.congr (World.rowIs.set h (j * 256 + c) _) (fun i hi => ?_)
  dsimp only
  by_cases e : i = j * 256 + c
  · subst e
    rw [if_pos rfl, if_pos (show (j * 256 + c) / 256 = j ∧ (j * 256 + c) % 256 = c by omega)]
  · rw [if_neg e, if_neg (show ¬ (i / 256 = j ∧ i % 256 = c) by omega)]

theorem setCells_block (b k : Nat) (hk : k ≠ b) : ∀ (vs : List Value) (o : Nat) (w : World), (w.setCells b o vs).heap[k]? = w.heap[k]?
  | [], _, _ => rfl
  | v :: r, o, w => by
    rw [World.setCells, setCells_block b k hk r (o + 1)]
    exact Below.heap_setCell _ _ _ _ hk

theorem setCells_same (b : Nat) : ∀ (vs : List Value) (o : Nat) (w : World), (w.setCells b o vs).os = w.os ∧ (w.setCells b o vs).tape = w.tape ∧ (w.setCells b o vs).output = w.output ∧ (w.setCells b o vs).heap.size = w.heap.size
  | [], _, _ => ⟨rfl, rfl, rfl, rfl⟩
  | v :: r, o, w => by
    rw [World.setCells]
    obtain ⟨h1, h2, h3, h4⟩ := setCells_same b r (o + 1) (w.setCell ⟨b, o, none⟩ v)
    exact ⟨h1, h2, h3, by rw [h4]; simp [World.setCell]⟩

theorem kept_setCells {S : Nat → Prop} {w w' : World} (h : Kept S w w') (b o : Nat) (vs : List Value) (hb : S b) : Kept S w (w'.setCells b o vs) := by
  obtain ⟨h1, h2, h3, h4⟩ := setCells_same b vs o w'
  refine ⟨h1.trans h.os, h2.trans h.tape, h3.trans h.output, by rw [h4]; exact h.size, fun k hk hn => ?_⟩
  rw [setCells_block b k (fun e => hn (by rw [e]; exact hb))]
  exact h.block k hk hn

/-- Cells stored one by one into a row. -/
theorem rowIs_setCells {b : Nat} {t : TypeId} {n : Nat} : ∀ (vs : List Value) (o : Nat) (w : World) (f : Nat → Value), w.rowIs b t n f → (w.setCells b o vs).rowIs b t n (fun i => if o ≤ i then (vs[i - o]?).getD (f i) else f i)
  | [], o, w, f, h => World.rowIs.congr h (fun i _ => by simp)
  | v :: r, o, w, f, h => by
    rw [World.setCells]
    refine World.rowIs.congr (rowIs_setCells r (o + 1) _ _ (World.rowIs.set h o v)) (fun i _ => ?_)
    by_cases e : i = o
    · subst e
      rw [if_neg (by omega), if_pos rfl, if_pos (Nat.le_refl _)]
      simp
    · by_cases e2 : o + 1 ≤ i
      · rw [if_pos e2, if_neg e, if_pos (show o ≤ i by omega)]
        rw [show i - o = (i - (o + 1)) + 1 by omega, List.getElem?_cons_succ]
      · rw [if_neg e2, if_neg e, if_neg (show ¬ o ≤ i by omega)]

/-- A whole row laid over another. -/
theorem Rows256.lay {w : World} {rp n : Nat} {R : Nat → Nat → Nat} (h : Rows256 w rp n R) (j : Nat) (f : Nat → Nat) : Rows256 (w.setCells rp (j * 256) (cells256 f)) rp n (fun a b => if a = j then f b else R a b) := by
  refine World.rowIs.congr (rowIs_setCells (cells256 f) (j * 256) w _ h) (fun i hi => ?_)
  dsimp only
  by_cases e : i / 256 = j
  · rw [if_pos (show j * 256 ≤ i by omega), if_pos e, cells256_at f _ (by omega), show i - j * 256 = i % 256 by omega]
    rfl
  · rw [if_neg e]
    by_cases e2 : j * 256 ≤ i
    · rw [if_pos e2, List.getElem?_eq_none (by rw [cells256_length]; omega)]
      rfl
    · rw [if_neg e2]

/-- What make lays: rows of 0. -/
theorem rows256_made (w : World) (n : Nat) : Rows256 (w.alloc (.cells (madeCells (Array.replicate 256 (.int .i64 0)) (n * 256)) 70)) w.heap.size n (fun _ _ => 0) := by
  refine ⟨_, heap_alloc_new w _, size_madeCells _ _, fun i hi => ?_⟩
  have h1 : i % 256 < 256 := Nat.mod_lt _ (by decide)
  simp [madeCells, hi, h1]
end Go.Proofs.YtcbnlhgkihhakaaGreat
