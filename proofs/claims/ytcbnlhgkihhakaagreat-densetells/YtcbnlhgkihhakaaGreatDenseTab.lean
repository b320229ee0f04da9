/-
  A table of all steps in memory; what its calls answer: Len, Size, has, Go, Row, Hits.
-/
import Derived.Test.YtcbnlhgkihhakaaGreatRows256
import Derived.Test.YtcbnlhgkihhakaaGreatDenseMath
import Derived.Test.YtcbnlhgkihhakaaGreatScanFeed
namespace Go.Proofs.YtcbnlhgkihhakaaGreat
open Go.ChangeShapes Go.WideShapes Go.ChangeAt Go.RowKit

/-- A table's two words, and its rows. -/
structure TbAt (w : World) (p l rp n : Nat) (R : Nat → Nat → Nat) : Prop where
  ptr : w.heap[p]? = some (.cells #[.pointer (some ⟨l, 0, none⟩), .slice (some ⟨rp, 0, none⟩) n n] 61 (0, 0))
  rows : Rows256 w rp n R
  ne : p ≠ rp

theorem TbAt.cells {w : World} {p l rp n : Nat} {R : Nat → Nat → Nat} (h : TbAt w p l rp n R) : w.cell? ⟨p, 0, none⟩ = some (.pointer (some ⟨l, 0, none⟩)) ∧ w.cell? ⟨p, 1, none⟩ = some (.slice (some ⟨rp, 0, none⟩) n n) := by
  refine ⟨?_, ?_⟩ <;> simp [World.cell?, h.ptr]

theorem TbAt.later {w w' : World} {p l rp n : Nat} {R : Nat → Nat → Nat} (h : TbAt w p l rp n R) (hb : Below w.heap.size w w') : TbAt w' p l rp n R :=
  ⟨(hb.block p (Array.getElem?_eq_some_iff.1 h.ptr).1).trans h.ptr, h.rows.block (hb.block rp h.rows.lt), h.ne⟩

theorem TbAt.drewN {w : World} {p l rp n : Nat} {R : Nat → Nat → Nat} (h : TbAt w p l rp n R) (q : Nat) : TbAt (w.drewN q) p l rp n R := h.later (drewN_below w q _)

/-- A table that is right. -/
def TabAt (w : World) (p l t : Nat) (A P : List (List Nat)) (wd : List Nat → Int) : Prop :=
  LinksAt w l t A P wd ∧ ∃ rp, TbAt w p l rp A.length (stepN A)

theorem TabAt.later {w w' : World} {p l t : Nat} {A P : List (List Nat)} {wd : List Nat → Int} (h : TabAt w p l t A P wd) (hb : Below w.heap.size w w') : TabAt w' p l t A P wd := by
  obtain ⟨h1, rp, h2⟩ := h
  exact ⟨h1.later hb, rp, h2.later hb⟩

theorem TabAt.drewN {w : World} {p l t : Nat} {A P : List (List Nat)} {wd : List Nat → Int} (h : TabAt w p l t A P wd) (q : Nat) : TabAt (w.drewN q) p l t A P wd := h.later (drewN_below w q _)

theorem lenT_in {w : World} {p l rp n : Nat} {R : Nat → Nat → Nat} (h : TbAt w p l rp n R) :
    Calls Tryz.prog 20 #[.pointer (some ⟨p, 0, none⟩)] w fun e w' => e = .returned (.int .i64 (n : Int)) ∧ w' = w := by
  obtain ⟨c0, c1⟩ := h.cells
  go_enter Tryz.func20, Tryz.ntmps20
  go_wp2
  go_ret
  exact ⟨rfl, rfl⟩

theorem lenT_none (w : World) : Calls Tryz.prog 20 #[.pointer none] w fun e w' => e = .returned (.int .i64 0) ∧ w' = w := by
  go_enter Tryz.func20, Tryz.ntmps20
  go_wp2
  go_ret
  exact ⟨rfl, rfl⟩

theorem sizeT_in {w : World} {p l rp n : Nat} {R : Nat → Nat → Nat} (h : TbAt w p l rp n R) (hn : n ≤ 1000000) :
    Calls Tryz.prog 21 #[.pointer (some ⟨p, 0, none⟩)] w fun e w' => e = .returned (.int .i64 (256 * (n : Int))) ∧ w' = w := by
  go_enter Tryz.func21, Tryz.ntmps21
  go_wp2_with (go_at_call 20; refine (lenT_in h).mono ?_; rintro e w1 ⟨rfl, rfl⟩)
  go_ret
  exact ⟨by first | rfl | go_num, rfl⟩

theorem sizeT_none (w : World) : Calls Tryz.prog 21 #[.pointer none] w fun e w' => e = .returned (.int .i64 0) ∧ w' = w := by
  go_enter Tryz.func21, Tryz.ntmps21
  go_wp2_with (go_at_call 20; refine (lenT_none _).mono ?_; rintro e w1 ⟨rfl, rfl⟩)
  go_ret
  exact ⟨rfl, rfl⟩

theorem hasT_in {w : World} {p l rp n : Nat} {R : Nat → Nat → Nat} (h : TbAt w p l rp n R) (j : Nat) (hj : j < n) :
    Calls Tryz.prog 30 #[.pointer (some ⟨p, 0, none⟩), .int .i64 (j : Int)] w fun e w' => e = .returned (.bool true) ∧ ∃ q, w' = w.drewN q := by
  have hd : decide ((j : Int) < (n : Int)) = true := decide_eq_true (by omega)
  have H := hid h
  go_enter Tryz.func30, Tryz.ntmps30
  go_wp2_with (go_at_call 20; refine (lenT_in H.out).mono ?_; rintro e w1 ⟨rfl, rfl⟩)
  go_ret
  exact ⟨rfl, 0, rfl⟩

theorem hasT_out {w : World} {p l rp n : Nat} {R : Nat → Nat → Nat} (h : TbAt w p l rp n R) (i : Int) (hi : i < 0 ∨ (n : Int) ≤ i) :
    Calls Tryz.prog 30 #[.pointer (some ⟨p, 0, none⟩), .int .i64 i] w fun e w' => e = .returned (.bool false) ∧ ∃ q, w' = w.drewN q := by
  have H := hid h
  by_cases h0 : i < 0
  · go_enter Tryz.func30, Tryz.ntmps30
    go_wp2_with (go_at_call 20; refine (lenT_in H.out).mono ?_; rintro e w1 ⟨rfl, rfl⟩)
    all_goals go_ret
    all_goals exact ⟨by simp, 0, rfl⟩
  · have hd : decide (i < (n : Int)) = false := decide_eq_false (by omega)
    go_enter Tryz.func30, Tryz.ntmps30
    go_wp2_with (go_at_call 20; refine (lenT_in H.out).mono ?_; rintro e w1 ⟨rfl, rfl⟩)
    go_ret
    exact ⟨rfl, 0, rfl⟩

theorem hasT_none (w : World) (i : Int) : Calls Tryz.prog 30 #[.pointer none, .int .i64 i] w fun e w' => e = .returned (.bool false) ∧ ∃ q, w' = w.drewN q := by
  by_cases h0 : i < 0
  · go_enter Tryz.func30, Tryz.ntmps30
    go_wp2_with (go_at_call 20; refine (lenT_none _).mono ?_; rintro e w1 ⟨rfl, rfl⟩)
    all_goals go_ret
    all_goals exact ⟨by simp, 0, rfl⟩
  · have hd : decide (i < 0) = false := decide_eq_false h0
    go_enter Tryz.func30, Tryz.ntmps30
    go_wp2_with (go_at_call 20; refine (lenT_none _).mono ?_; rintro e w1 ⟨rfl, rfl⟩)
    go_ret
    exact ⟨rfl, 0, rfl⟩

theorem goT_in {w : World} {p l rp n : Nat} {R : Nat → Nat → Nat} (h : TbAt w p l rp n R) (j : Nat) (hj : j < n) (c : Nat) (hc : c < 256) :
    Calls Tryz.prog 13 #[.pointer (some ⟨p, 0, none⟩), .int .i64 (j : Int), .int .u8 (c : Int)] w fun e w' => e = .returned (.int .i64 (R j c : Int)) ∧ ∃ q, w' = w.drewN q := by
  obtain ⟨c0, c1⟩ := h.cells
  have c2 := h.rows.cell hj hc
  have hx : decide ((0 : Int) ≤ (j : Int) ∧ (j : Int) < (n : Int)) = true := decide_eq_true ⟨by omega, by omega⟩
  have hx2 : decide ((0 : Int) ≤ (c : Int) ∧ (c : Int) < 256) = true := decide_eq_true ⟨by omega, by omega⟩
  have H := hid h
  clear h
  generalize R j c = m at c2
  go_enter Tryz.func13, Tryz.ntmps13
  go_wp2_with (go_at_call 30; refine (hasT_in H.out j hj).mono ?_; rintro e w1 ⟨rfl, q, rfl⟩)
  go_ret
  exact ⟨rfl, _, rfl⟩

theorem goT_out {w : World} {p l rp n : Nat} {R : Nat → Nat → Nat} (h : TbAt w p l rp n R) (i : Int) (hi : i < 0 ∨ (n : Int) ≤ i) (c : Int) :
    Calls Tryz.prog 13 #[.pointer (some ⟨p, 0, none⟩), .int .i64 i, .int .u8 c] w fun e w' => e = .returned (.int .i64 0) ∧ ∃ q, w' = w.drewN q := by
  have H := hid h
  clear h
  go_enter Tryz.func13, Tryz.ntmps13
  go_wp2_with (go_at_call 30; refine (hasT_out H.out i hi).mono ?_; rintro e w1 ⟨rfl, q, rfl⟩)
  go_ret
  exact ⟨rfl, _, rfl⟩

theorem goT_none (w : World) (i c : Int) : Calls Tryz.prog 13 #[.pointer none, .int .i64 i, .int .u8 c] w fun e w' => e = .returned (.int .i64 0) ∧ ∃ q, w' = w.drewN q := by
  go_enter Tryz.func13, Tryz.ntmps13
  go_wp2_with (go_at_call 30; refine (hasT_none _ i).mono ?_; rintro e w1 ⟨rfl, q, rfl⟩)
  go_ret
  exact ⟨rfl, _, rfl⟩

/-- A row of a table, as a slice. -/
theorem rows_reads {w : World} {p l rp n : Nat} {R : Nat → Nat → Nat} (h : TbAt w p l rp n R) (j : Nat) (hj : j < n) : Reads w (.slice (some ⟨rp, j * 256, none⟩) 256 256) (numsI ((List.range 256).map (R j))) := by
  have e : (numsI ((List.range 256).map (R j))).length = 256 := by rw [numsI_length]; simp
  refine ⟨_, 256, by rw [e], .inr ⟨rp, j * 256, rfl, h.rows.lt, fun i hi => ?_⟩⟩
  rw [e] at hi
  rw [h.rows.cell hj hi, ← cells256_nums, cells256_at _ i hi]

set_option maxRecDepth 20000 in
theorem rowT_in {w : World} {p l rp n : Nat} {R : Nat → Nat → Nat} (h : TbAt w p l rp n R) (j : Nat) (hj : j < n) :
    Calls Tryz.prog 10 #[.pointer (some ⟨p, 0, none⟩), .int .i64 (j : Int)] w fun e w' => ∃ v', e = .returned v' ∧ w'.ownsRow w.heap.size 3 1 v' 256 (numsI ((List.range 256).map (R j))) ∧ Below w.heap.size w w' := by
  obtain ⟨c0, c1⟩ := h.cells
  have hx : decide ((0 : Int) ≤ (j : Int) ∧ (j : Int) < (n : Int)) = true := decide_eq_true ⟨by omega, by omega⟩
  have H := hid h
  have HL : Hid (((List.range 256).map (R j)).length ≤ 1000000) := by show _ ≤ _; simp
  clear h
  go_enter Tryz.func10, Tryz.ntmps10
  go_wp2_with (first
    | (go_at_call 30; refine (hasT_in H.out j hj).mono ?_; rintro e w1 ⟨rfl, q, hq⟩; have HRD := hid (rows_reads ((H.out.drewN q)) j hj); have HB := hid (drewN_below w q w.heap.size); have c2 := (H.out.drewN q).cells.2; rw [← hq] at HRD HB c2; clear hq)
    | (go_at_call 31; refine (clonedI_any HRD.out HL.out).mono ?_; rintro e w2 ⟨v', rfl, ho1, hb1⟩))
  go_ret
  rw [List.length_map, List.length_range] at ho1
  exact ⟨_, rfl, ownsRow_lower ho1 HB.out.size, below_more HB.out hb1⟩

theorem rowT_out {w : World} {p l rp n : Nat} {R : Nat → Nat → Nat} (h : TbAt w p l rp n R) (i : Int) (hi : i < 0 ∨ (n : Int) ≤ i) :
    Calls Tryz.prog 10 #[.pointer (some ⟨p, 0, none⟩), .int .i64 i] w fun e w' => e = .returned (.slice none 0 0) ∧ ∃ q, w' = w.drewN q := by
  have H := hid h
  clear h
  go_enter Tryz.func10, Tryz.ntmps10
  go_wp2_with (go_at_call 30; refine (hasT_out H.out i hi).mono ?_; rintro e w1 ⟨rfl, q, rfl⟩)
  go_ret
  exact ⟨rfl, _, rfl⟩

theorem rowT_none (w : World) (i : Int) : Calls Tryz.prog 10 #[.pointer none, .int .i64 i] w fun e w' => e = .returned (.slice none 0 0) ∧ ∃ q, w' = w.drewN q := by
  go_enter Tryz.func10, Tryz.ntmps10
  go_wp2_with (go_at_call 30; refine (hasT_none _ i).mono ?_; rintro e w1 ⟨rfl, q, rfl⟩)
  go_ret
  exact ⟨rfl, _, rfl⟩

theorem allT_in {w : World} {p l t : Nat} {A P : List (List Nat)} (h : TabAt w p l t A P (wordOf P)) (hp : ∀ s c, s ++ [c] ∈ A → s ∈ A) (hP : ∀ s ∈ P, s ∈ A) (h0 : [] ∉ P) (h40 : ∀ x ∈ P, x.length ≤ 40) (b : ByteArray) (hb : b.size ≤ 1000) :
    Calls Tryz.prog 18 #[.pointer (some ⟨p, 0, none⟩), .string b] w fun e w' => ∃ v' k, e = .returned v' ∧ w'.ownsRow w.heap.size 75 2 v' k (hcells (asHits (hitsT P 0 [] (nums b)))) ∧ Below w.heap.size w w' := by
  obtain ⟨h1, rp, h2⟩ := h
  obtain ⟨c0, c1⟩ := h2.cells
  have H1 := hid h1
  clear h1 h2
  go_enter Tryz.func18, Tryz.ntmps18
  go_wp2_with (go_at_call 34; refine (allS_in H1.out (Below.refl _ _) hp hP h0 h40 b (by omega)).mono ?_; rintro e w1 ⟨v', k, rfl, ho, hb1⟩)
  go_ret
  exact ⟨_, k, rfl, ho, hb1⟩

theorem allT_none (w : World) (b : ByteArray) : Calls Tryz.prog 18 #[.pointer none, .string b] w fun e w' => e = .returned (.slice none 0 0) ∧ w' = w := by
  go_enter Tryz.func18, Tryz.ntmps18
  go_wp2
  go_ret
  exact ⟨rfl, rfl⟩
end Go.Proofs.YtcbnlhgkihhakaaGreat
