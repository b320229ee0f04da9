/-
  Rows of 256 numbers, one behind the other, in one block: what they hold, by row and place; a whole row read, and laid over another. A table of all steps in memory; what its calls answer: Len, Size, has, Go, Row, Hits. dense.layRow: a node's steps laid out. dense.New: all steps laid out, row by row. Sparse: the bytes by which a node leads elsewhere than the root.
-/
import Derived.Test.YtcbnlhgkihhakaaGreatBase
import Derived.Deep.MidRow
import Derived.Test.YtcbnlhgkihhakaaGreatDenseMath
import Derived.Test.YtcbnlhgkihhakaaGreatScanFeed
import Derived.Deep.RegionHeldLaw
import Derived.Test.YtcbnlhgkihhakaaGreatCopies
namespace Go.Proofs.YtcbnlhgkihhakaaGreat
open Go.ChangeShapes Go.WideShapes Go.ChangeAt Go.RowKit

/-- A row of 256 numbers, as cells. -/
def cells256 (f : Nat → Nat) : List Value := (List.range 256).map (fun c => Value.int .i64 (f c : Int))

theorem cells256_length (f : Nat → Nat) : (cells256 f).length = 256 := by simp [cells256]

theorem cells256_at (f : Nat → Nat) (c : Nat) (h : c < 256) : (cells256 f)[c]? = some (.int .i64 (f c : Int)) := by
  simp [cells256, h]

theorem cells256_one (f : Nat → Nat) : ∀ v ∈ cells256 f, v.oneCell' = true := by
  intro v hv
  simp only [cells256, List.mem_map] at hv
  obtain ⟨c, _, rfl⟩ := hv
  rfl

theorem cells256_congr {f g : Nat → Nat} (h : ∀ c, c < 256 → f c = g c) : cells256 f = cells256 g := by
  unfold cells256
  refine List.map_congr_left (fun c hc => ?_)
  rw [h c (List.mem_range.1 hc)]

theorem cells256_nums (f : Nat → Nat) : cells256 f = numsI ((List.range 256).map f) := by
  unfold cells256 numsI
  rw [List.map_map]
  rfl

/-- Block rp holds n rows of 256 numbers. -/
def Rows256 (w : World) (rp n : Nat) (R : Nat → Nat → Nat) : Prop :=
  w.rowIs rp 70 (n * 256) (fun i => .int .i64 (R (i / 256) (i % 256) : Int))

theorem Rows256.cell {w : World} {rp n : Nat} {R : Nat → Nat → Nat} (h : Rows256 w rp n R) {j c : Nat} (hj : j < n) (hc : c < 256) : w.cell? ⟨rp, j * 256 + c, none⟩ = some (.int .i64 (R j c : Int)) := by
  have h1 := World.rowIs.cell h (i := j * 256 + c) (by omega)
  rw [show (j * 256 + c) / 256 = j by omega, show (j * 256 + c) % 256 = c by omega] at h1
  exact h1

theorem Rows256.range {w : World} {rp n : Nat} {R : Nat → Nat → Nat} (h : Rows256 w rp n R) {j : Nat} (hj : j < n) : w.rangeAt rp (j * 256) (cells256 (R j)) := by
  intro c v hv
  have hc : c < 256 := by
    have := (List.getElem?_eq_some_iff.1 hv).1
    rwa [cells256_length] at this
  rw [cells256_at _ c hc] at hv
  rw [← hv]
  exact h.cell hj hc

theorem Rows256.there {w : World} {rp n : Nat} {R : Nat → Nat → Nat} (h : Rows256 w rp n R) {j : Nat} (hj : j < n) : w.there rp (j * 256) 256 := by
  intro c hc
  exact ⟨by rw [h.cell hj hc]; rfl, World.rowIs.frozen h _⟩

theorem Rows256.congr {w : World} {rp n : Nat} {R R2 : Nat → Nat → Nat} (h : Rows256 w rp n R) (e : ∀ j, j < n → ∀ c, c < 256 → R j c = R2 j c) : Rows256 w rp n R2 :=
  World.rowIs.congr h (fun i hi => by rw [e (i / 256) (by omega) (i % 256) (by omega)])

theorem Rows256.lt {w : World} {rp n : Nat} {R : Nat → Nat → Nat} (h : Rows256 w rp n R) : rp < w.heap.size := World.rowIs.lt h

theorem Rows256.block {w w' : World} {rp n : Nat} {R : Nat → Nat → Nat} (h : Rows256 w rp n R) (e : w'.heap[rp]? = w.heap[rp]?) : Rows256 w' rp n R := World.rowIs.of_block h e

/-- One number stored. -/
theorem Rows256.set {w : World} {rp n : Nat} {R : Nat → Nat → Nat} (h : Rows256 w rp n R) (j c v : Nat) (hc : c < 256) : Rows256 (w.setCell ⟨rp, j * 256 + c, none⟩ (.int .i64 (v : Int))) rp n (fun a b => if a = j ∧ b = c then v else R a b) := by
  refine World.rowIs.congr (World.rowIs.set h (j * 256 + c) _) (fun i hi => ?_)
  dsimp only
  by_cases e : i = j * 256 + c
  · subst e
    rw [if_pos rfl, if_pos (show (j * 256 + c) / 256 = j ∧ (j * 256 + c) % 256 = c by omega)]
  · rw [if_neg e, if_neg (show ¬ (i / 256 = j ∧ i % 256 = c) by omega)]

theorem setCells_block (b k : Nat) (hk : k ≠ b) : ∀ (vs : List Value) (o : Nat) (w : World), (w.setCells b o vs).heap[k]? = w.heap[k]?
  | [], _, _ => rfl
  | v :: r, o, w => by
    rw [World.setCells, setCells_block b k hk r (o + 1)]
    exact Below.heap_setCell _ _ _ _ hk

theorem setCells_same (b : Nat) : ∀ (vs : List Value) (o : Nat) (w : World), (w.setCells b o vs).os = w.os ∧ (w.setCells b o vs).tape = w.tape ∧ (w.setCells b o vs).output = w.output ∧ (w.setCells b o vs).heap.size = w.heap.size
  | [], _, _ => ⟨rfl, rfl, rfl, rfl⟩
  | v :: r, o, w => by
    rw [World.setCells]
    obtain ⟨h1, h2, h3, h4⟩ := setCells_same b r (o + 1) (w.setCell ⟨b, o, none⟩ v)
    exact ⟨h1, h2, h3, by rw [h4]; simp [World.setCell]⟩

theorem kept_setCells {S : Nat → Prop} {w w' : World} (h : Kept S w w') (b o : Nat) (vs : List Value) (hb : S b) : Kept S w (w'.setCells b o vs) := by
  obtain ⟨h1, h2, h3, h4⟩ := setCells_same b vs o w'
  refine ⟨h1.trans h.os, h2.trans h.tape, h3.trans h.output, by rw [h4]; exact h.size, fun k hk hn => ?_⟩
  rw [setCells_block b k (fun e => hn (by rw [e]; exact hb))]
  exact h.block k hk hn

/-- Cells stored one by one into a row. -/
theorem rowIs_setCells {b : Nat} {t : TypeId} {n : Nat} : ∀ (vs : List Value) (o : Nat) (w : World) (f : Nat → Value), w.rowIs b t n f → (w.setCells b o vs).rowIs b t n (fun i => if o ≤ i then (vs[i - o]?).getD (f i) else f i)
  | [], o, w, f, h => World.rowIs.congr h (fun i _ => by simp)
  | v :: r, o, w, f, h => by
    rw [World.setCells]
    refine World.rowIs.congr (rowIs_setCells r (o + 1) _ _ (World.rowIs.set h o v)) (fun i _ => ?_)
    by_cases e : i = o
    · subst e
      rw [if_neg (by omega), if_pos rfl, if_pos (Nat.le_refl _)]
      simp
    · by_cases e2 : o + 1 ≤ i
      · rw [if_pos e2, if_neg e, if_pos (show o ≤ i by omega)]
        rw [show i - o = (i - (o + 1)) + 1 by omega, List.getElem?_cons_succ]
      · rw [if_neg e2, if_neg e, if_neg (show ¬ o ≤ i by omega)]

/-- A whole row laid over another. -/
theorem Rows256.lay {w : World} {rp n : Nat} {R : Nat → Nat → Nat} (h : Rows256 w rp n R) (j : Nat) (f : Nat → Nat) : Rows256 (w.setCells rp (j * 256) (cells256 f)) rp n (fun a b => if a = j then f b else R a b) := by
  refine World.rowIs.congr (rowIs_setCells (cells256 f) (j * 256) w _ h) (fun i hi => ?_)
  dsimp only
  by_cases e : i / 256 = j
  · rw [if_pos (show j * 256 ≤ i by omega), if_pos e, cells256_at f _ (by omega), show i - j * 256 = i % 256 by omega]
    rfl
  · rw [if_neg e]
    by_cases e2 : j * 256 ≤ i
    · rw [if_pos e2, List.getElem?_eq_none (by rw [cells256_length]; omega)]
      rfl
    · rw [if_neg e2]

/-- What make lays: rows of 0. -/
theorem rows256_made (w : World) (n : Nat) : Rows256 (w.alloc (.cells (madeCells (Array.replicate 256 (.int .i64 0)) (n * 256)) 70)) w.heap.size n (fun _ _ => 0) := by
  refine ⟨_, heap_alloc_new w _, size_madeCells _ _, fun i hi => ?_⟩
  have h1 : i % 256 < 256 := Nat.mod_lt _ (by decide)
  simp [madeCells, hi, h1]
end Go.Proofs.YtcbnlhgkihhakaaGreat

namespace Go.Proofs.YtcbnlhgkihhakaaGreat
open Go.ChangeShapes Go.WideShapes Go.ChangeAt Go.RowKit

/-- A table's two words, and its rows. -/
structure TbAt (w : World) (p l rp n : Nat) (R : Nat → Nat → Nat) : Prop where
  ptr : w.heap[p]? = some (.cells #[.pointer (some ⟨l, 0, none⟩), .slice (some ⟨rp, 0, none⟩) n n] 61 (0, 0))
  rows : Rows256 w rp n R
  ne : p ≠ rp

theorem TbAt.cells {w : World} {p l rp n : Nat} {R : Nat → Nat → Nat} (h : TbAt w p l rp n R) : w.cell? ⟨p, 0, none⟩ = some (.pointer (some ⟨l, 0, none⟩)) ∧ w.cell? ⟨p, 1, none⟩ = some (.slice (some ⟨rp, 0, none⟩) n n) := by
  refine ⟨?_, ?_⟩ <;> simp [World.cell?, h.ptr]

theorem TbAt.later {w w' : World} {p l rp n : Nat} {R : Nat → Nat → Nat} (h : TbAt w p l rp n R) (hb : Below w.heap.size w w') : TbAt w' p l rp n R :=
  ⟨(hb.block p (Array.getElem?_eq_some_iff.1 h.ptr).1).trans h.ptr, h.rows.block (hb.block rp h.rows.lt), h.ne⟩

theorem TbAt.drewN {w : World} {p l rp n : Nat} {R : Nat → Nat → Nat} (h : TbAt w p l rp n R) (q : Nat) : TbAt (w.drewN q) p l rp n R := h.later (drewN_below w q _)

/-- A table that is right. -/
def TabAt (w : World) (p l t : Nat) (A P : List (List Nat)) (wd : List Nat → Int) : Prop :=
  LinksAt w l t A P wd ∧ ∃ rp, TbAt w p l rp A.length (stepN A)

theorem TabAt.later {w w' : World} {p l t : Nat} {A P : List (List Nat)} {wd : List Nat → Int} (h : TabAt w p l t A P wd) (hb : Below w.heap.size w w') : TabAt w' p l t A P wd := by
  obtain ⟨h1, rp, h2⟩ := h
  exact ⟨h1.later hb, rp, h2.later hb⟩

theorem TabAt.drewN {w : World} {p l t : Nat} {A P : List (List Nat)} {wd : List Nat → Int} (h : TabAt w p l t A P wd) (q : Nat) : TabAt (w.drewN q) p l t A P wd := h.later (drewN_below w q _)

theorem lenT_in {w : World} {p l rp n : Nat} {R : Nat → Nat → Nat} (h : TbAt w p l rp n R) :
    Calls Tryz.prog 20 #[.pointer (some ⟨p, 0, none⟩)] w fun e w' => e = .returned (.int .i64 (n : Int)) ∧ w' = w := by
  obtain ⟨c0, c1⟩ := h.cells
  go_enter Tryz.func20, Tryz.ntmps20
  go_wp2
  go_ret
  exact ⟨rfl, rfl⟩

theorem lenT_none (w : World) : Calls Tryz.prog 20 #[.pointer none] w fun e w' => e = .returned (.int .i64 0) ∧ w' = w := by
  go_enter Tryz.func20, Tryz.ntmps20
  go_wp2
  go_ret
  exact ⟨rfl, rfl⟩

theorem sizeT_in {w : World} {p l rp n : Nat} {R : Nat → Nat → Nat} (h : TbAt w p l rp n R) (hn : n ≤ 1000000) :
    Calls Tryz.prog 21 #[.pointer (some ⟨p, 0, none⟩)] w fun e w' => e = .returned (.int .i64 (256 * (n : Int))) ∧ w' = w := by
  go_enter Tryz.func21, Tryz.ntmps21
  go_wp2_with (go_at_call 20; refine (lenT_in h).mono ?_; rintro e w1 ⟨rfl, rfl⟩)
  go_ret
  exact ⟨by first | rfl | go_num, rfl⟩

theorem sizeT_none (w : World) : Calls Tryz.prog 21 #[.pointer none] w fun e w' => e = .returned (.int .i64 0) ∧ w' = w := by
  go_enter Tryz.func21, Tryz.ntmps21
  go_wp2_with (go_at_call 20; refine (lenT_none _).mono ?_; rintro e w1 ⟨rfl, rfl⟩)
  go_ret
  exact ⟨rfl, rfl⟩

theorem hasT_in {w : World} {p l rp n : Nat} {R : Nat → Nat → Nat} (h : TbAt w p l rp n R) (j : Nat) (hj : j < n) :
    Calls Tryz.prog 30 #[.pointer (some ⟨p, 0, none⟩), .int .i64 (j : Int)] w fun e w' => e = .returned (.bool true) ∧ ∃ q, w' = w.drewN q := by
  have hd : decide ((j : Int) < (n : Int)) = true := decide_eq_true (by omega)
  have H := hid h
  go_enter Tryz.func30, Tryz.ntmps30
  go_wp2_with (go_at_call 20; refine (lenT_in H.out).mono ?_; rintro e w1 ⟨rfl, rfl⟩)
  go_ret
  exact ⟨rfl, 0, rfl⟩

theorem hasT_out {w : World} {p l rp n : Nat} {R : Nat → Nat → Nat} (h : TbAt w p l rp n R) (i : Int) (hi : i < 0 ∨ (n : Int) ≤ i) :
    Calls Tryz.prog 30 #[.pointer (some ⟨p, 0, none⟩), .int .i64 i] w fun e w' => e = .returned (.bool false) ∧ ∃ q, w' = w.drewN q := by
  have H := hid h
  by_cases h0 : i < 0
  · go_enter Tryz.func30, Tryz.ntmps30
    go_wp2_with (go_at_call 20; refine (lenT_in H.out).mono ?_; rintro e w1 ⟨rfl, rfl⟩)
    all_goals go_ret
    all_goals exact ⟨by simp, 0, rfl⟩
  · have hd : decide (i < (n : Int)) = false := decide_eq_false (by omega)
    go_enter Tryz.func30, Tryz.ntmps30
    go_wp2_with (go_at_call 20; refine (lenT_in H.out).mono ?_; rintro e w1 ⟨rfl, rfl⟩)
    go_ret
    exact ⟨rfl, 0, rfl⟩

theorem hasT_none (w : World) (i : Int) : Calls Tryz.prog 30 #[.pointer none, .int .i64 i] w fun e w' => e = .returned (.bool false) ∧ ∃ q, w' = w.drewN q := by
  by_cases h0 : i < 0
  · go_enter Tryz.func30, Tryz.ntmps30
    go_wp2_with (go_at_call 20; refine (lenT_none _).mono ?_; rintro e w1 ⟨rfl, rfl⟩)
    all_goals go_ret
    all_goals exact ⟨by simp, 0, rfl⟩
  · have hd : decide (i < 0) = false := decide_eq_false h0
    go_enter Tryz.func30, Tryz.ntmps30
    go_wp2_with (go_at_call 20; refine (lenT_none _).mono ?_; rintro e w1 ⟨rfl, rfl⟩)
    go_ret
    exact ⟨rfl, 0, rfl⟩

theorem goT_in {w : World} {p l rp n : Nat} {R : Nat → Nat → Nat} (h : TbAt w p l rp n R) (j : Nat) (hj : j < n) (c : Nat) (hc : c < 256) :
    Calls Tryz.prog 13 #[.pointer (some ⟨p, 0, none⟩), .int .i64 (j : Int), .int .u8 (c : Int)] w fun e w' => e = .returned (.int .i64 (R j c : Int)) ∧ ∃ q, w' = w.drewN q := by
  obtain ⟨c0, c1⟩ := h.cells
  have c2 := h.rows.cell hj hc
  have hx : decide ((0 : Int) ≤ (j : Int) ∧ (j : Int) < (n : Int)) = true := decide_eq_true ⟨by omega, by omega⟩
  have hx2 : decide ((0 : Int) ≤ (c : Int) ∧ (c : Int) < 256) = true := decide_eq_true ⟨by omega, by omega⟩
  have H := hid h
  clear h
  generalize R j c = m at c2
  go_enter Tryz.func13, Tryz.ntmps13
  go_wp2_with (go_at_call 30; refine (hasT_in H.out j hj).mono ?_; rintro e w1 ⟨rfl, q, rfl⟩)
  go_ret
  exact ⟨rfl, _, rfl⟩

theorem goT_out {w : World} {p l rp n : Nat} {R : Nat → Nat → Nat} (h : TbAt w p l rp n R) (i : Int) (hi : i < 0 ∨ (n : Int) ≤ i) (c : Int) :
    Calls Tryz.prog 13 #[.pointer (some ⟨p, 0, none⟩), .int .i64 i, .int .u8 c] w fun e w' => e = .returned (.int .i64 0) ∧ ∃ q, w' = w.drewN q := by
  have H := hid h
  clear h
  go_enter Tryz.func13, Tryz.ntmps13
  go_wp2_with (go_at_call 30; refine (hasT_out H.out i hi).mono ?_; rintro e w1 ⟨rfl, q, rfl⟩)
  go_ret
  exact ⟨rfl, _, rfl⟩

theorem goT_none (w : World) (i c : Int) : Calls Tryz.prog 13 #[.pointer none, .int .i64 i, .int .u8 c] w fun e w' => e = .returned (.int .i64 0) ∧ ∃ q, w' = w.drewN q := by
  go_enter Tryz.func13, Tryz.ntmps13
  go_wp2_with (go_at_call 30; refine (hasT_none _ i).mono ?_; rintro e w1 ⟨rfl, q, rfl⟩)
  go_ret
  exact ⟨rfl, _, rfl⟩

/-- A row of a table, as a slice. -/
theorem rows_reads {w : World} {p l rp n : Nat} {R : Nat → Nat → Nat} (h : TbAt w p l rp n R) (j : Nat) (hj : j < n) : Reads w (.slice (some ⟨rp, j * 256, none⟩) 256 256) (numsI ((List.range 256).map (R j))) := by
  have e : (numsI ((List.range 256).map (R j))).length = 256 := by rw [numsI_length]; simp
  refine ⟨_, 256, by rw [e], .inr ⟨rp, j * 256, rfl, h.rows.lt, fun i hi => ?_⟩⟩
  rw [e] at hi
  rw [h.rows.cell hj hi, ← cells256_nums, cells256_at _ i hi]

set_option maxRecDepth 20000 in
theorem rowT_in {w : World} {p l rp n : Nat} {R : Nat → Nat → Nat} (h : TbAt w p l rp n R) (j : Nat) (hj : j < n) :
    Calls Tryz.prog 10 #[.pointer (some ⟨p, 0, none⟩), .int .i64 (j : Int)] w fun e w' => ∃ v', e = .returned v' ∧ w'.ownsRow w.heap.size 3 1 v' 256 (numsI ((List.range 256).map (R j))) ∧ Below w.heap.size w w' := by
  obtain ⟨c0, c1⟩ := h.cells
  have hx : decide ((0 : Int) ≤ (j : Int) ∧ (j : Int) < (n : Int)) = true := decide_eq_true ⟨by omega, by omega⟩
  have H := hid h
  have HL : Hid (((List.range 256).map (R j)).length ≤ 1000000) := by show _ ≤ _; simp
  clear h
  go_enter Tryz.func10, Tryz.ntmps10
  go_wp2_with (first
    | (go_at_call 30; refine (hasT_in H.out j hj).mono ?_; rintro e w1 ⟨rfl, q, hq⟩; have HRD := hid (rows_reads ((H.out.drewN q)) j hj); have HB := hid (drewN_below w q w.heap.size); have c2 := (H.out.drewN q).cells.2; rw [← hq] at HRD HB c2; clear hq)
    | (go_at_call 31; refine (clonedI_any HRD.out HL.out).mono ?_; rintro e w2 ⟨v', rfl, ho1, hb1⟩))
  go_ret
  rw [List.length_map, List.length_range] at ho1
  exact ⟨_, rfl, ownsRow_lower ho1 HB.out.size, below_more HB.out hb1⟩

theorem rowT_out {w : World} {p l rp n : Nat} {R : Nat → Nat → Nat} (h : TbAt w p l rp n R) (i : Int) (hi : i < 0 ∨ (n : Int) ≤ i) :
    Calls Tryz.prog 10 #[.pointer (some ⟨p, 0, none⟩), .int .i64 i] w fun e w' => e = .returned (.slice none 0 0) ∧ ∃ q, w' = w.drewN q := by
  have H := hid h
  clear h
  go_enter Tryz.func10, Tryz.ntmps10
  go_wp2_with (go_at_call 30; refine (hasT_out H.out i hi).mono ?_; rintro e w1 ⟨rfl, q, rfl⟩)
  go_ret
  exact ⟨rfl, _, rfl⟩

theorem rowT_none (w : World) (i : Int) : Calls Tryz.prog 10 #[.pointer none, .int .i64 i] w fun e w' => e = .returned (.slice none 0 0) ∧ ∃ q, w' = w.drewN q := by
  go_enter Tryz.func10, Tryz.ntmps10
  go_wp2_with (go_at_call 30; refine (hasT_none _ i).mono ?_; rintro e w1 ⟨rfl, q, rfl⟩)
  go_ret
  exact ⟨rfl, _, rfl⟩

theorem allT_in {w : World} {p l t : Nat} {A P : List (List Nat)} (h : TabAt w p l t A P (wordOf P)) (hp : ∀ s c, s ++ [c] ∈ A → s ∈ A) (hP : ∀ s ∈ P, s ∈ A) (h0 : [] ∉ P) (h40 : ∀ x ∈ P, x.length ≤ 40) (b : ByteArray) (hb : b.size ≤ 1000) :
    Calls Tryz.prog 18 #[.pointer (some ⟨p, 0, none⟩), .string b] w fun e w' => ∃ v' k, e = .returned v' ∧ w'.ownsRow w.heap.size 75 2 v' k (hcells (asHits (hitsT P 0 [] (nums b)))) ∧ Below w.heap.size w w' := by
  obtain ⟨h1, rp, h2⟩ := h
  obtain ⟨c0, c1⟩ := h2.cells
  have H1 := hid h1
  clear h1 h2
  go_enter Tryz.func18, Tryz.ntmps18
  go_wp2_with (go_at_call 34; refine (allS_in H1.out (Below.refl _ _) hp hP h0 h40 b (by omega)).mono ?_; rintro e w1 ⟨v', k, rfl, ho, hb1⟩)
  go_ret
  exact ⟨_, k, rfl, ho, hb1⟩

theorem allT_none (w : World) (b : ByteArray) : Calls Tryz.prog 18 #[.pointer none, .string b] w fun e w' => e = .returned (.slice none 0 0) ∧ w' = w := by
  go_enter Tryz.func18, Tryz.ntmps18
  go_wp2
  go_ret
  exact ⟨rfl, rfl⟩
end Go.Proofs.YtcbnlhgkihhakaaGreat

namespace Go.Proofs.YtcbnlhgkihhakaaGreat
open Go.ChangeShapes Go.WideShapes Go.ChangeAt Go.RowKit

theorem Rows256.drewN {w : World} {rp n : Nat} {R : Nat → Nat → Nat} (h : Rows256 w rp n R) (q : Nat) : Rows256 (w.drewN q) rp n R :=
  h.block ((Kept.drewN (fun _ => False) w q).block rp h.lt (fun e => e))

theorem TbAt.lay {w : World} {p l rp n : Nat} {R : Nat → Nat → Nat} (h : TbAt w p l rp n R) (j : Nat) (f : Nat → Nat) : TbAt (w.setCells rp (j * 256) (cells256 f)) p l rp n (fun a b => if a = j then f b else R a b) :=
  ⟨(setCells_block rp p h.ne _ _ _).trans h.ptr, h.rows.lay j f, h.ne⟩

theorem TbAt.set {w : World} {p l rp n : Nat} {R : Nat → Nat → Nat} (h : TbAt w p l rp n R) (j c v : Nat) (hc : c < 256) : TbAt (w.setCell ⟨rp, j * 256 + c, none⟩ (.int .i64 (v : Int))) p l rp n (fun a b => if a = j ∧ b = c then v else R a b) :=
  ⟨(Below.heap_setCell _ _ _ _ (by intro e; exact h.ne e)).trans h.ptr, h.rows.set j c v hc, h.ne⟩

/-- What the first statement of layRow reads and writes. -/
theorem lay_held {w : World} {p l rp n : Nat} {R : Nat → Nat → Nat} (h : TbAt w p l rp n R) (f j : Nat) (hf : f < n) (hj : j < n) :
    w.cell? ⟨p, 0, none⟩ = some (.pointer (some ⟨l, 0, none⟩)) ∧ w.cell? ⟨p, 1, none⟩ = some (.slice (some ⟨rp, 0, none⟩) n n) ∧ w.rangeAt rp (f * 256) (cells256 (R f)) ∧ w.there rp (j * 256) 256 :=
  ⟨h.cells.1, h.cells.2, h.rows.range hf, h.rows.there hj⟩

theorem held_drewN {w : World} {p rp o1 o2 : Nat} {a b : Value} {cs : List Value} (q : Nat) (h : w.cell? ⟨p, 0, none⟩ = some a ∧ w.cell? ⟨p, 1, none⟩ = some b ∧ w.rangeAt rp o1 cs ∧ w.there rp o2 256) :
    (w.drewN q).cell? ⟨p, 0, none⟩ = some a ∧ (w.drewN q).cell? ⟨p, 1, none⟩ = some b ∧ (w.drewN q).rangeAt rp o1 cs ∧ (w.drewN q).there rp o2 256 := by
  induction q generalizing w with
  | zero => exact h
  | succ q ih => exact ih (w := w.drew) h

theorem held_store {w : World} {p rp o1 o2 : Nat} {a b : Value} {cs : List Value} (h : w.cell? ⟨p, 0, none⟩ = some a ∧ w.cell? ⟨p, 1, none⟩ = some b ∧ w.rangeAt rp o1 cs ∧ w.there rp o2 256) (hne : p ≠ rp) (hl : cs.length = 256) (ho : o1 = o2 ∨ o1 + 256 ≤ o2 ∨ o2 + 256 ≤ o1) :
    (w.setCells rp o2 cs).cell? ⟨p, 0, none⟩ = some a ∧ (w.setCells rp o2 cs).cell? ⟨p, 1, none⟩ = some b ∧ (w.setCells rp o2 cs).rangeAt rp o1 cs ∧ (w.setCells rp o2 cs).there rp o2 256 := by
  obtain ⟨h1, h2, h3, h4⟩ := h
  refine ⟨?_, ?_, ?_, World.there_setCells h4 _ _ _⟩
  · rw [World.cell?_setCells_out rp cs o2 w _ (fun e => absurd e hne)]; exact h1
  · rw [World.cell?_setCells_out rp cs o2 w _ (fun e => absurd e hne)]; exact h2
  · rcases ho with rfl | ho
    · exact World.rangeAt_setCells_same w rp o1 cs (by rw [hl]; exact h4)
    · exact World.rangeAt_setCells_apart h3 rp o2 cs (.inr (by rw [hl]; exact ho))

set_option maxRecDepth 20000 in
set_option maxHeartbeats 4000000 in
theorem layRow_any {w0 w : World} {p l t rp n : Nat} {A P : List (List Nat)} {wd : List Nat → Int} {R : Nat → Nat → Nat} (hL : LinksAt w0 l t A P wd) (hb : Below w0.heap.size w0 w) (hr0 : w0.heap.size ≤ rp) (h : TbAt w p l rp n R) (hn : n = A.length) (hp : ∀ s c, s ++ [c] ∈ A → s ∈ A) (j : Nat) (hj : j < n) (hR : ∀ c, c < 256 → R (RF A j) c = if j = 0 then 0 else stepN A (RF A j) c) :
    Calls Tryz.prog 26 #[.pointer (some ⟨p, 0, none⟩), .int .i64 (j : Int)] w fun e w' => e = .returned (.tuple #[]) ∧ ∃ R2, TbAt w' p l rp n R2 ∧ (∀ c, c < 256 → R2 j c = stepN A j c) ∧ (∀ k, k ≠ j → ∀ c, c < 256 → R2 k c = R k c) ∧ Below w0.heap.size w0 w' := by
  have hjA : j < A.length := by omega
  obtain ⟨f, hf⟩ : ∃ f, f = RF A j := ⟨_, rfl⟩
  rw [← hf] at hR
  obtain ⟨B, ht⟩ := (hL.later hb).trie
  have hfn : f < n := by rw [hf, hn]; exact RF_lt ht.nodes j
  have hfew : n ≤ 1000000 := by rw [hn]; exact ht.few
  obtain ⟨cs, hcs⟩ : ∃ cs, cs = cells256 (R f) := ⟨_, rfl⟩
  have hlen : cs.length = 256 := by rw [hcs, cells256_length]
  have hone : ∀ v ∈ cs, v.oneCell' = true := by rw [hcs]; exact cells256_one _
  have hu := Tryz.underlying70
  have hi : (Tryz.prog.info? 70).map (·.size) = some cs.length := by rw [hlen]; kernel_rfl
  have hx1 : decide ((0 : Int) ≤ (j : Int) ∧ (j : Int) < (n : Int)) = true := decide_eq_true ⟨by omega, by omega⟩
  have hx2 : decide ((0 : Int) ≤ (f : Int) ∧ (f : Int) < (n : Int)) = true := decide_eq_true ⟨by omega, by omega⟩
  have hh := lay_held h f j hfn hj
  rw [← hcs] at hh
  have H := hid h
  have HL := hid hL
  have HB := hid hb
  have HP := hid hp
  have HR := hid hR
  have HF := hid hf
  have HCS := hid hcs
  have HN := hid ht.nodes
  have HNA := hid hn
  have HNE : Hid (p ≠ rp) := h.ne
  have HOO : Hid (f * 256 = j * 256 ∨ f * 256 + 256 ≤ j * 256 ∨ j * 256 + 256 ≤ f * 256) := by show _ ∨ _ ∨ _; omega
  have HFL : Hid (Calls Tryz.prog 56 #[.pointer (some ⟨l, 0, none⟩), .int .i64 (j : Int)] w.drew fun e w' => e = .returned (.int .i64 (f : Int)) ∧ ∃ q2, w' = w.drew.drewN q2) := by
    rw [hf]
    exact fail_in ((hL.later hb).later (Below.drew (Below.refl _ _))) j hjA
  clear h hL hb hp hR hf hcs hn ht
  obtain ⟨hh1, hh2, hh3, hh4⟩ := hh
  go_enter Tryz.func26, Tryz.ntmps26
  go_wp2_with fail
  go_region_held_law (fun w' => w'.cell? ⟨p, 0, none⟩ = some (.pointer (some ⟨l, 0, none⟩)) ∧ w'.cell? ⟨p, 1, none⟩ = some (.slice (some ⟨rp, 0, none⟩) n n) ∧ w'.rangeAt rp (f * 256) cs ∧ w'.there rp (j * 256) 256) (first
    | exact ⟨hh1, hh2, hh3, hh4⟩
    | assumption
    | (refine held_drewN _ ?_; assumption)
    | (refine held_store ?_ HNE.out hlen HOO.out; assumption))
    ((go_at_call 56; refine (HFL.out).mono ?_; rintro e w5 ⟨rfl, q5, rfl⟩))
  have hT1 : TbAt (w.drewN (1 + q5)) p l rp n R := H.out.drewN _
  have hT2 := hT1.lay j (R f)
  rw [← HCS.out] at hT2
  have hB2 : Below w0.heap.size w0 ((w.drewN (1 + q5)).setCells rp (j * 256) cs) := HB.out.trans ((kept_setCells (S := (· = rp)) (w := w) (Kept.drewN _ w _) rp _ cs rfl).below HB.out.size (by rintro k rfl; exact hr0))
  generalize (w.drewN (1 + q5)).setCells rp (j * 256) cs = w5 at *
  have HT2 := hid hT2
  have HB2 := hid hB2
  obtain ⟨g1, g2⟩ := hT2.cells
  have HL5 := hid (HL.out.later hB2)
  obtain ⟨B5, ht5⟩ := HL5.out.trie
  have HTR := hid ht5
  obtain ⟨bl, hbl⟩ : ∃ bl, bl = byOf A (A[j]'hjA) := ⟨_, rfl⟩
  obtain ⟨m, hm⟩ : ∃ m, m = bl.length := ⟨_, rfl⟩
  have HBL := hid hbl
  have HM := hid hm
  have hm256 : m ≤ 1000000 := by rw [hm, hbl]; exact Nat.le_trans (byOf_length A _) (by decide)
  have HIN : Hid (∀ c, c < 256 → (c ∈ bl ↔ txt A j ++ [c] ∈ A)) := fun c hc => by
    rw [hbl, byOf_mem, txt_at hjA]
    exact ⟨fun h => h.2, fun h => ⟨hc, h⟩⟩
  have HLT : Hid (∀ c ∈ bl, c < 256) := fun c hc => by rw [hbl] at hc; exact byOf_byte A _ c hc
  clear hT1 hT2 hB2 hh1 hh2 hh3 hh4 ht5 hbl hm
  go_wp2_with (first
    | (go_at_call 57; refine (trieL_in HL5.out).mono ?_; rintro e w6 ⟨rfl, rfl⟩)
    | (go_at_call 58; refine (sons_list HTR.out j hjA HBL.out HM.out).mono ?_; rintro e w7 ⟨a7, c7, rfl, hr7, ho7, hb7⟩; have HR7 := hid hr7; have HO7 := hid ho7; have HB7 := hid hb7; clear hr7 ho7 hb7))
  go_loopw [34] (fun vk wr => ∃ (k : Nat) (R3 : Nat → Nat → Nat), vk = .int .i64 k ∧ k ≤ m ∧ Hid (TbAt wr p l rp n R3) ∧ Hid (∀ c, c < 256 → R3 j c = overN A j bl k (R f) c) ∧ Hid (∀ i, i ≠ j → ∀ c, c < 256 → R3 i c = R i c) ∧ Hid (Kept (· = rp) w7 wr)) (fun vk _ => m - (intOf vk).toNat)
  case atStart =>
    refine ⟨0, _, rfl, by omega, HT2.out.later HB7.out, fun c hc => ?_, fun i hi c hc => ?_, Kept.refl _ _⟩
    · rw [overN_zero]; simp
    · simp [hi]
  case round =>
    clear g1 g2
    obtain ⟨k, R3, rfl, hk, hT, h1, h2, hK⟩ := hrel
    have hrpw : rp < w6.heap.size := HT2.out.rows.lt
    by_cases hlt : k < m
    · obtain ⟨g, o, rfl, hg, hcell⟩ := reads_byte HR7.out HM.out k hlt
      have hgrp : ¬ g = rp := by
        have := HO7.out g rfl
        omega
      have hcr : wr.cell? ⟨g, o + k, none⟩ = some (.int .u8 ((bl[k]'(by have := HM.out; omega) : Nat) : Int)) := (World.cell?_of_block (w := w7) (a := ⟨g, o + k, none⟩) (hK.out.block g hg hgrp)).trans hcell
      obtain ⟨c, hcE⟩ : ∃ c, c = bl[k]'(by have := HM.out; omega) := ⟨_, rfl⟩
      rw [← hcE] at hcr
      have hcm : c ∈ bl := by rw [hcE]; exact List.getElem_mem _
      have hc : c < 256 := HLT.out c hcm
      have hson : txt A j ++ [c] ∈ A := (HIN.out c hc).1 hcm
      have hx3 : decide ((0 : Int) ≤ (k : Int) ∧ (k : Int) < (m : Int)) = true := decide_eq_true ⟨by omega, by omega⟩
      have hx4 : decide ((0 : Int) ≤ (c : Int) ∧ (c : Int) < 256) = true := decide_eq_true ⟨by omega, by omega⟩
      have HBr : Hid (Below w0.heap.size w0 wr) := (below_more HB2.out HB7.out).trans (hK.out.below (by have h7 := (below_more HB2.out HB7.out).size; exact h7) (by rintro q rfl; exact hr0))
      obtain ⟨Br, htr⟩ := (HL.out.later HBr.out).trie
      have hnx := next_in (htr.below (Below.drew (Below.refl _ _))) j hjA c hc (by rw [← txt_at hjA]; exact hson)
      rw [← txt_at hjA] at hnx
      obtain ⟨d, hd⟩ : ∃ d, d = A.idxOf (txt A j ++ [c]) := ⟨_, rfl⟩
      rw [← hd] at hnx
      have HNX : Hid (Calls Tryz.prog 59 #[.pointer (some ⟨t, 0, none⟩), .int .i64 (j : Int), .int .u8 (c : Int)] wr.drew fun e w' => e = .returned (.tuple #[.int .i64 (d : Int), .bool true]) ∧ ∃ q, w' = wr.drew.drewN q) := hnx
      have hnow : overN A j bl (k + 1) (R f) = fun x => if x = c then d else overN A j bl k (R f) x := by
        rw [overN_succ A j bl k (R f) (by have := HM.out; omega), ← hcE, hd]
      have HNOW := hid hnow
      have k1 := hT.out.cells.2
      clear hcell hcE hson htr hnx hd hnow
      go_wp2_with fail
      go_region_held_law (fun w' => w'.cell? ⟨p, 1, none⟩ = some (.slice (some ⟨rp, 0, none⟩) n n)) (first
        | assumption
        | (refine (cell_set_far HNE.out).trans ?_; assumption))
        ((go_at_call 59; refine (HNX.out).mono ?_; rintro e w8 ⟨rfl, q8, hq8⟩; have hT8 : TbAt w8 p l rp n R3 := (by rw [hq8]; exact hT.out.later ((Below.drew (Below.refl _ _)).trans (drewN_below _ _ _))); have hK8 : Kept (· = rp) w7 w8 := (by rw [hq8]; exact (hK.out.trans (Kept.drewN _ _ 1)).trans (Kept.drewN _ _ q8)); have HT8 := hid hT8; have HK8 := hid hK8; have k8 := hT8.cells.2; have c8 := hT8.rows.cell hj hc; have f8 := World.rowIs.frozen hT8.rows (j * 256 + c); clear hq8 hT8 hK8))
      have HT9 := hid (HT8.out.set j c d hc)
      have HK9 := hid (HK8.out.setCell rp (j * 256 + c) (.int .i64 (d : Int)) rfl)
      clear k8 c8 f8 k1 hT hK
      generalize w8.setCell ⟨rp, j * 256 + c, none⟩ (.int .i64 (d : Int)) = w9 at *
      go_wp2
      go_roundw
      case rel =>
        refine ⟨k + 1, _, by go_num, by omega, HT9.out, fun x hx => ?_, fun i hi x hx => ?_, HK9.out⟩
        · rw [HNOW.out]
          dsimp only
          by_cases e : x = c
          · rw [if_pos ⟨rfl, e⟩, if_pos e]
          · rw [if_neg (fun e2 => e e2.2), if_neg e, h1.out x hx]
        · rw [if_neg (fun e2 => hi e2.1)]
          exact h2.out i hi x hx
      case measure => simp [intOf]; omega
    · obtain rfl : k = m := by omega
      go_wp2
      have HBr : Hid (Below w0.heap.size w0 wr) := (below_more HB2.out HB7.out).trans (hK.out.below (by have h7 := (below_more HB2.out HB7.out).size; exact h7) (by rintro q rfl; exact hr0))
      refine bodyPost_end (v := .tuple #[]) (by simp [results, Tryz.results26, go_sem]) rfl ⟨rfl, R3, hT.out, fun c hc => ?_, h2.out, HBr.out⟩
      rw [h1.out c hc, HM.out]
      exact overN_all HN.out HP.out hjA HIN.out (R f) (fun x hx => by rw [HR.out x hx, HF.out]) c hc

end Go.Proofs.YtcbnlhgkihhakaaGreat

namespace Go.Proofs.YtcbnlhgkihhakaaGreat
open Go.ChangeShapes Go.WideShapes Go.ChangeAt Go.RowKit

theorem Tryz.info256 : (Tryz.prog.info? 70).map (fun i => (i.zero, i.size, i.bytes)) = some (some (.agg (Array.replicate 256 (.int .i64 0))), 256, 2048) := by kernel_rfl

theorem make256 (n : Nat) (hn : n ≤ 1000000) (w : World) :
    (Instr.makeSlice 59 (.int .i64 (n : Int)) (.int .i64 (n : Int))).run Tryz.prog w = .ok (.slice (some ⟨w.heap.size, 0, none⟩) n n) (w.alloc (.cells (madeCells (Array.replicate 256 (.int .i64 0)) (n * 256)) 70)) := by
  obtain ⟨i, hi, hzz⟩ := Option.map_eq_some_iff.1 Tryz.info256
  simp only [Prod.mk.injEq] at hzz
  obtain ⟨hz, hs, hb⟩ := hzz
  have hr := run_make (P := Tryz.prog) w 59 70 i _ Tryz.underlying59 hi hz .i64 .i64 n n (by omega) (Int.le_refl _) (by rw [hb]; omega) (by omega)
  simp only [Int.toNat_natCast, hs] at hr
  exact hr

/-- The order of nodes, with what it is. -/
theorem orderO_in {w : World} {l t : Nat} {A P : List (List Nat)} {wd : List Nat → Int} (h : LinksAt w l t A P wd) (n : Nat) (hn : n = A.length) :
    Calls Tryz.prog 25 #[.pointer (some ⟨l, 0, none⟩)] w fun e w' => ∃ a c O, e = .returned (.slice a n c) ∧ Reads w' (.slice a n c) (numsI ((List.range n).map O)) ∧ Srt (depN A) O 0 A.length ∧ Same (fun k => k) O 0 A.length ∧ Below w.heap.size w w' := by
  obtain ⟨wb, B, go, gf, gu, O, F, U, h1, h2, h3, h4, h5⟩ := h
  obtain ⟨l0, l1, l2, l3⟩ := h2.cells
  have hrd := rowIs_reads h2.ro
  have HR := hid hrd
  have hfew := h1.few
  have HL : Hid (((List.range A.length).map O).length ≤ 1000000) := by show _ ≤ _; simpa using hfew
  have H3 := hid h3
  have H4 := hid h4
  subst hn
  clear h1 h2 h3 h4 h5 hrd
  go_enter Tryz.func25, Tryz.ntmps25
  go_wp2_with (go_at_call 31; refine (clonedI_any HR.out HL.out).mono ?_; rintro e w1 ⟨v', rfl, ho1, hb1⟩)
  go_ret
  obtain ⟨a, c, rfl⟩ := ownsRow_slice ho1
  have hr1 := ownsRow_reads ho1
  have e : ((List.range A.length).map O).length = A.length := by simp
  rw [e] at hr1 ⊢
  exact ⟨a, c, O, rfl, hr1, H3.out, H4.out, hb1⟩

/-- One number of a list that is read. -/
theorem reads_int {w : World} {a : Option Addr} {n c : Nat} {O : Nat → Nat} (h : Reads w (.slice a n c) (numsI ((List.range n).map O))) (k : Nat) (hk : k < n) : ∃ g o, a = some ⟨g, o, none⟩ ∧ g < w.heap.size ∧ w.cell? ⟨g, o + k, none⟩ = some (.int .i64 (O k : Int)) := by
  obtain ⟨a2, c2, e, h2⟩ := h
  have el : (numsI ((List.range n).map O)).length = n := by rw [numsI_length]; simp
  rw [el] at e h2
  injection e with e1 e2 e3
  rcases h2 with h0 | ⟨g, o, ea, hg, hc⟩
  · omega
  · refine ⟨g, o, by rw [e1, ea], hg, ?_⟩
    rw [hc k hk, numsI]
    simp [hk]

theorem newT_none (w : World) : Calls Tryz.prog 7 #[.pointer none] w fun e w' => e = .returned (.pointer none) ∧ w' = w := by
  go_enter Tryz.func7, Tryz.ntmps7
  go_wp2
  go_ret
  exact ⟨rfl, rfl⟩

set_option maxRecDepth 20000 in
set_option maxHeartbeats 4000000 in
theorem newT_in {w : World} {l t : Nat} {A P : List (List Nat)} {wd : List Nat → Int} (h : LinksAt w l t A P wd) (hp : ∀ s c, s ++ [c] ∈ A → s ∈ A) :
    Calls Tryz.prog 7 #[.pointer (some ⟨l, 0, none⟩)] w fun e w' => ∃ p, e = .returned (.pointer (some ⟨p, 0, none⟩)) ∧ TabAt w' p l t A P wd ∧ w.heap.size ≤ p ∧ Below w.heap.size w w' := by
  obtain ⟨B, ht⟩ := h.trie
  have hfew := ht.few
  have hpos := ht.nodes.pos
  have HN := hid ht.nodes
  have H := hid h
  have HP := hid hp
  obtain ⟨n, hnA⟩ : ∃ n, n = A.length := ⟨_, rfl⟩
  rw [← hnA] at hfew hpos
  have HNA := hid hnA
  have hmk := make256 n hfew
  clear h hp ht hnA
  go_enter Tryz.func7, Tryz.ntmps7
  go_wp2_with (go_at_call 25; refine (orderO_in H.out n HNA.out).mono ?_; rintro e w1 ⟨a1, c1, O, rfl, hr1, hs1, hS1, hb1⟩; have HR1 := hid hr1; have HS1 := hid hs1; have HS2 := hid hS1; have HB1 := hid hb1; clear hr1 hs1 hS1 hb1)
  have htb : TbAt ((w1.alloc (.cells (madeCells (Array.replicate 256 (.int .i64 0)) (n * 256)) 70)).alloc (.cells #[.pointer (some ⟨l, 0, none⟩), .slice (some ⟨w1.heap.size, 0, none⟩) n n] 61)) (w1.heap.size + 1) l w1.heap.size n (fun _ _ => 0) := by
    refine ⟨?_, (rows256_made w1 n).block (Below.heap_alloc _ _ _ (by simp)), by omega⟩
    have h1 := heap_alloc_new (w1.alloc (.cells (madeCells (Array.replicate 256 (.int .i64 0)) (n * 256)) 70)) (.cells #[.pointer (some ⟨l, 0, none⟩), .slice (some ⟨w1.heap.size, 0, none⟩) n n] 61)
    simpa using h1
  have hbb : Below w1.heap.size w1 ((w1.alloc (.cells (madeCells (Array.replicate 256 (.int .i64 0)) (n * 256)) 70)).alloc (.cells #[.pointer (some ⟨l, 0, none⟩), .slice (some ⟨w1.heap.size, 0, none⟩) n n] 61)) := ((Below.refl _ _).alloc (Nat.le_refl _) _).alloc (by simp) _
  generalize ((w1.alloc (.cells (madeCells (Array.replicate 256 (.int .i64 0)) (n * 256)) 70)).alloc (.cells #[.pointer (some ⟨l, 0, none⟩), .slice (some ⟨w1.heap.size, 0, none⟩) n n] 61)) = w2 at *
  have hp1 : w1.heap.size ≤ w1.heap.size + 1 := by omega
  have hr1 : w1.heap.size ≤ w1.heap.size := Nat.le_refl _
  obtain ⟨p, hpE⟩ : ∃ p, p = w1.heap.size + 1 := ⟨_, rfl⟩
  obtain ⟨rp, hrE⟩ : ∃ rp, rp = w1.heap.size := ⟨_, rfl⟩
  rw [← hpE] at htb hp1 ⊢
  rw [← hrE] at htb ⊢
  have hr2 : w1.heap.size ≤ rp := by omega
  have HTB := hid htb
  have HBB := hid hbb
  have HL1 := hid (H.out.later HB1.out)
  have HPO := hid hp1
  clear htb hbb hpE hrE hr1 hmk hp1
  go_loopw [19] (fun vi wr => ∃ (i : Nat) (R : Nat → Nat → Nat), vi = .int .i64 i ∧ i ≤ n ∧ Hid (TbAt wr p l rp n R) ∧ Hid (LaidTo A O R i) ∧ Hid (Below w1.heap.size w1 wr)) (fun vi _ => n - (intOf vi).toNat)
  case atStart => exact ⟨0, _, rfl, by omega, HTB.out, ⟨fun k hk => by omega, fun _ _ _ => rfl⟩, HBB.out⟩
  case round =>
    obtain ⟨i, R, rfl, hi, hT, hLd, hB⟩ := hrel
    by_cases hlt : i < n
    · obtain ⟨g, o, rfl, hg, hcell⟩ := reads_int HR1.out i hlt
      have hcr : wr.cell? ⟨g, o + i, none⟩ = some (.int .i64 (O i : Int)) := by rw [hB.out.cell (p := ⟨g, o + i, none⟩) hg]; exact hcell
      obtain ⟨j, hjE⟩ : ∃ j, j = O i := ⟨_, rfl⟩
      rw [← hjE] at hcr
      have hiA : i < A.length := by rw [← HNA.out]; exact hlt
      have hjn : j < n := by
        obtain ⟨k', _, h2, e3⟩ := HS2.out.back i (Nat.zero_le _) hiA
        rw [hjE, e3, HNA.out]; exact h2
      have hx1 : decide ((0 : Int) ≤ (i : Int) ∧ (i : Int) < (n : Int)) = true := decide_eq_true ⟨by omega, by omega⟩
      have HF : Hid (∀ c, c < 256 → R (RF A j) c = if j = 0 then 0 else stepN A (RF A j) c) := fun c hc => by
        rw [hjE]
        exact hLd.out.from' HN.out (by rw [← HNA.out]; exact hfew) HS1.out HS2.out hiA c hc
      have HJ := hid hjE
      clear hjE hcell
      go_wp2_with (go_at_call 26; refine (layRow_any HL1.out hB.out hr2 hT.out HNA.out HP.out j hjn HF.out).mono ?_; rintro e w5 ⟨rfl, R2, hT2, h2, h3, hB2⟩; have HT2 := hid hT2; have HR2 := hid h2; have HR3 := hid h3; have HB2 := hid hB2; clear hT2 h2 h3 hB2)
      go_roundw
      case rel =>
        exact ⟨i + 1, R2, by go_num, by omega, HT2.out, hLd.out.next HS1.out hiA (by rw [← HJ.out]; exact HR2.out) (by rw [← HJ.out]; exact HR3.out), HB2.out⟩
      case measure => simp [intOf]; omega
    · obtain rfl : i = n := by omega
      go_wp2
      go_ret
      have hLd2 := hLd.out
      have hT2 := hT.out
      have hnA := HNA.out
      subst hnA
      refine ⟨p, rfl, ⟨HL1.out.later hB.out, rp, hT2.ptr, hT2.rows.congr (fun j hj c hc => hLd2.all HS2.out j hj c hc), hT2.ne⟩, Nat.le_trans HB1.out.size HPO.out, below_more HB1.out hB.out⟩
end Go.Proofs.YtcbnlhgkihhakaaGreat

namespace Go.Proofs.YtcbnlhgkihhakaaGreat
open Go.ChangeShapes Go.WideShapes Go.ChangeAt Go.RowKit

theorem index256 (f : Nat → Nat) (c : Nat) (hc : c < 256) (w : World) : (Instr.index 70 (.agg (cells256 f).toArray) (.int .i64 (c : Int))).run Tryz.prog w = .ok (.int .i64 (f c : Int)) w := by
  obtain ⟨i0, hi0, hz0, hz1, hz2⟩ := info_parts Tryz.infoI
  have h1 := cells256_at f c hc
  simp [Instr.index, asIntOf, run_underlying Tryz.underlying70, hc, sizeOf, typeInfo, hi0, hz1, part, h1, Sem.run_bind, isAgg, run_underlying Tryz.underlying3]

set_option maxRecDepth 20000 in
set_option maxHeartbeats 2000000 in
theorem sparseT_in {w : World} {p l rp n : Nat} {A : List (List Nat)} (h : TbAt w p l rp n (stepN A)) (j : Nat) (hj : j < n) :
    Calls Tryz.prog 15 #[.pointer (some ⟨p, 0, none⟩), .int .i64 (j : Int)] w fun e w' => ∃ v', e = .returned v' ∧ w'.ownsRow w.heap.size 5 1 v' (sparseN A j 256).length (octs (sparseN A j 256)) ∧ Below w.heap.size w w' := by
  obtain ⟨i0, hi0, hz0, hz1, hz2⟩ := info_parts Tryz.infoOct
  have hx : decide ((0 : Int) ≤ (j : Int) ∧ (j : Int) < (n : Int)) = true := decide_eq_true ⟨by omega, by omega⟩
  have hx0 : decide ((0 : Int) ≤ (0 : Int) ∧ (0 : Int) < (n : Int)) = true := decide_eq_true ⟨by omega, by omega⟩
  have H := hid h
  obtain ⟨cs, hcs⟩ : ∃ cs, cs = cells256 (stepN A j) := ⟨_, rfl⟩
  have hlen : cs.length = 256 := by rw [hcs, cells256_length]
  have hu := Tryz.underlying70
  have hi : (Tryz.prog.info? 70).map (·.size) = some cs.length := by rw [hlen]; kernel_rfl
  have HIX : Hid (∀ c : Nat, c < 256 → ∀ W : World, (Instr.index 70 (.agg cs.toArray) (.int .i64 (c : Int))).run Tryz.prog W = .ok (.int .i64 (stepN A j c : Int)) W) := by
    rw [hcs]; exact fun c hc W => index256 _ c hc W
  have HCS := hid hcs
  clear h hcs
  go_enter Tryz.func15, Tryz.ntmps15
  go_wp2_with (first
    | (go_at_call 30; refine (hasT_in H.out j hj).mono ?_; rintro e w1 ⟨rfl, q, hq⟩; have hT := H.out.drewN q; have HB := hid (drewN_below w q w.heap.size); rw [← hq] at hT HB; have HT := hid hT; have hrg : w1.rangeAt rp (j * 256) cs := (by rw [HCS.out]; exact hT.rows.range hj); obtain ⟨c0, c1⟩ := hT.cells; clear hq hT)
    | (refine wpList_load_mid rfl _ _ rfl rp (j * 256) rfl cs _ hrg hu rfl hi ?_))
  go_loopw [5, 19] (fun u vc wr => ∃ c : Nat, vc = .int .i64 c ∧ c ≤ 256 ∧ Hid (wr.ownsRow w.heap.size 5 1 u (sparseN A j c).length (octs (sparseN A j c))) ∧ Hid (TbAt wr p l rp n (stepN A)) ∧ Hid (Below w.heap.size w wr)) (fun _ vc _ => 256 - (intOf vc).toNat)
  case atStart => exact ⟨0, rfl, by omega, World.ownsRow_nil _ _ _ _, HT.out, HB.out⟩
  case round =>
    clear hrg c0 c1
    obtain ⟨c, rfl, hc, hown, hT, hB⟩ := hrel
    by_cases hlt : c < 256
    · have hix := HIX.out c hlt
      obtain ⟨c0, c1⟩ := hT.out.cells
      have c2 := hT.out.rows.cell (show 0 < n by omega) hlt
      rw [Nat.zero_mul, Nat.zero_add] at c2
      have hx3 : decide ((0 : Int) ≤ (c : Int) ∧ (c : Int) < 256) = true := decide_eq_true ⟨by omega, by omega⟩
      have hsl := sparseN_length A j c
      have HSU := hid (sparseN_succ A j c)
      obtain ⟨xs, hxs⟩ : ∃ xs, xs = sparseN A j c := ⟨_, rfl⟩
      rw [← hxs] at hown hsl HSU
      by_cases he : stepN A j c = stepN A 0 c
      · have hne : ((stepN A j c : Nat) : Int) = ((stepN A 0 c : Nat) : Int) := by rw [he]
        have HE := hid he
        have HR : Hid (sparseN A j (c + 1) = xs) := by show _ = _; rw [HSU.out, if_pos he]
        clear he hxs HSU
        generalize stepN A j c = m1 at *
        generalize stepN A 0 c = m2 at *
        have hd : (((m1 : Int)) == (m2 : Int)) = true := by simpa using hne
        have hd2 : ((m1 : Int)) = (m2 : Int) := hne
        clear hne
        go_wp2
        go_roundw
        case rel => exact ⟨c + 1, by go_num, by omega, by show World.ownsRow _ _ _ _ _ _ _; rw [HR.out]; exact hown.out, hT.out, hB.out⟩
        case measure => simp [intOf]; omega
      · have hne : ¬ ((stepN A j c : Nat) : Int) = ((stepN A 0 c : Nat) : Int) := fun e => he (by omega)
        have HR : Hid (sparseN A j (c + 1) = xs ++ [c]) := by show _ = _; rw [HSU.out, if_neg he]
        clear he hxs HSU
        generalize stepN A j c = m1 at *
        generalize stepN A 0 c = m2 at *
        have hd : (((m1 : Int)) == (m2 : Int)) = false := beq_false_of_ne hne
        clear hne
        have hcv : (IntKind.u8.wrap (c : Int)) = (c : Int) := by rw [IntKind.wrap_u8]; omega
        go_wp2_with (at_builtin; refine wpList_append_reads _ rfl (.tmp 33) (.tmp 36) 44 rfl w.heap.size 5 i0 (.int .u8 0) 1 Tryz.underlying44 hi0 hz0 hz1 hz2 rfl u5 xs.length (octs xs) rfl (World.ownsRow.alloc hown.out _) _ (octs [c]) rfl (reads_built wr #[.int .u8 (c : Int)] 5 1 rfl) (oct_one [c]) (by unfold maxLen; rw [octs_length]; simp; omega) (by rw [octs_length]; simp; omega) (by have := hB.out.size; simp; omega) ?_; intro v' w3 hown3 hgrow hat hold)
        have HB3 : Hid (Below w.heap.size w w3) := (hB.out.alloc hB.out.size _).grown hgrow (by have := hB.out.size; simp; omega) (fun k hk => (hown.out.lt k hk).1)
        have HO3 := hid hown3
        clear hown3 hgrow hat hold
        go_roundw
        case rel =>
          refine ⟨c + 1, by go_num, by omega, ?_, H.out.later HB3.out, HB3.out⟩
          have h1 := HO3.out
          rw [octs_length, show octs [c] = [.int .u8 (c : Int)] from rfl, octs_snoc] at h1
          show World.ownsRow _ _ _ _ _ _ _
          rw [HR.out, List.length_append]
          exact h1
        case measure => simp [intOf]; omega
    · obtain rfl : c = 256 := by omega
      go_wp2
      go_ret
      exact ⟨_, rfl, hown.out, hB.out⟩

theorem sparseT_out {w : World} {p l rp n : Nat} {R : Nat → Nat → Nat} (h : TbAt w p l rp n R) (i : Int) (hi : i < 0 ∨ (n : Int) ≤ i) :
    Calls Tryz.prog 15 #[.pointer (some ⟨p, 0, none⟩), .int .i64 i] w fun e w' => e = .returned (.slice none 0 0) ∧ ∃ q, w' = w.drewN q := by
  have H := hid h
  clear h
  go_enter Tryz.func15, Tryz.ntmps15
  go_wp2_with (go_at_call 30; refine (hasT_out H.out i hi).mono ?_; rintro e w1 ⟨rfl, q, rfl⟩)
  go_ret
  exact ⟨rfl, _, rfl⟩

theorem sparseT_none (w : World) (i : Int) : Calls Tryz.prog 15 #[.pointer none, .int .i64 i] w fun e w' => e = .returned (.slice none 0 0) ∧ ∃ q, w' = w.drewN q := by
  go_enter Tryz.func15, Tryz.ntmps15
  go_wp2_with (go_at_call 30; refine (hasT_none _ i).mono ?_; rintro e w1 ⟨rfl, q, rfl⟩)
  go_ret
  exact ⟨rfl, _, rfl⟩

/-- Of the root none differs. -/
theorem sparseT_root {w : World} {p l rp n : Nat} {A : List (List Nat)} (h : TbAt w p l rp n (stepN A)) (hn : 0 < n) :
    Calls Tryz.prog 15 #[.pointer (some ⟨p, 0, none⟩), .int .i64 0] w fun e w' => ∃ a c, e = .returned (.slice a 0 c) ∧ Below w.heap.size w w' := by
  refine (sparseT_in h 0 hn).mono ?_
  rintro e w' ⟨v', rfl, ho, hb⟩
  rw [sparseN_zero] at ho
  obtain ⟨a, c, rfl⟩ := ownsRow_slice ho
  exact ⟨a, c, rfl, hb⟩
end Go.Proofs.YtcbnlhgkihhakaaGreat
