/-
  Links that are right: what Fail, Out, Order, Trie answer; Make.
-/
import Derived.Test.YtdplflcaanmmiaaLinksNew
import Derived.Test.YtdplflcaanmmiaaHelps
namespace Go.Proofs.Ytdplflcaanmmiaa
open Go.ChangeShapes Go.WideShapes Go.ChangeAt Go.RowKit

/-- The links at block l, of the tree at t, are right. -/
def LinksAt (w : World) (l t : Nat) (A P : List (List Nat)) (wd : List Nat → Int) : Prop :=
  ∃ wb B go gf gu O F U, TrieAt wb B t A wd ∧ LkAt wb w l t A.length go gf gu O F U ∧ Srt (depN A) O 0 A.length ∧ Same (fun k => k) O 0 A.length ∧ ∀ y, y < A.length → Rt A P F U y

theorem LinksAt.later {w w' : World} {l t : Nat} {A P : List (List Nat)} {wd : List Nat → Int} (h : LinksAt w l t A P wd) (hb : Below w.heap.size w w') : LinksAt w' l t A P wd := by
  obtain ⟨wb, B, go, gf, gu, O, F, U, h1, h2, h3⟩ := h
  exact ⟨wb, B, go, gf, gu, O, F, U, h1, h2.later hb, h3⟩

theorem LinksAt.trie {w : World} {l t : Nat} {A P : List (List Nat)} {wd : List Nat → Int} (h : LinksAt w l t A P wd) : ∃ B, TrieAt w B t A wd := by
  obtain ⟨wb, B, go, gf, gu, O, F, U, h1, h2, h3⟩ := h
  exact ⟨B, h1.below h2.below⟩

theorem hasL_in {wb w : World} {l t n go gf gu : Nat} {O F U : Nat → Nat} (h : LkAt wb w l t n go gf gu O F U) (j : Nat) (hj : j < n) :
    Calls Try.prog 81 #[.pointer (some ⟨l, 0, none⟩), .int .i64 (j : Int)] w fun e w' => e = .returned (.bool true) ∧ ∃ q, w' = w.drewN q := by
  obtain ⟨l0, l1, l2, l3⟩ := h.cells
  have hd : decide ((j : Int) < (n : Int)) = true := decide_eq_true (by omega)
  go_enter Try.func81, Try.ntmps81
  go_wp2
  go_ret
  exact ⟨rfl, 0, rfl⟩

theorem hasL_out {wb w : World} {l t n go gf gu : Nat} {O F U : Nat → Nat} (h : LkAt wb w l t n go gf gu O F U) (i : Int) (hi : i < 0 ∨ (n : Int) ≤ i) :
    Calls Try.prog 81 #[.pointer (some ⟨l, 0, none⟩), .int .i64 i] w fun e w' => e = .returned (.bool false) ∧ ∃ q, w' = w.drewN q := by
  obtain ⟨l0, l1, l2, l3⟩ := h.cells
  by_cases h0 : i < 0
  · go_enter Try.func81, Try.ntmps81
    go_wp2
    all_goals go_ret
    all_goals exact ⟨by simp, 0, rfl⟩
  · have hd : decide (i < (n : Int)) = false := decide_eq_false (by omega)
    go_enter Try.func81, Try.ntmps81
    go_wp2
    go_ret
    exact ⟨rfl, 0, rfl⟩

theorem hasL_none (w : World) (i : Int) : Calls Try.prog 81 #[.pointer none, .int .i64 i] w fun e w' => e = .returned (.bool false) ∧ ∃ q, w' = w.drewN q := by
  go_enter Try.func81, Try.ntmps81
  go_wp2
  all_goals go_ret
  all_goals exact ⟨by simp, 0, rfl⟩

theorem fail_in {w : World} {l t : Nat} {A P : List (List Nat)} {wd : List Nat → Int} (h : LinksAt w l t A P wd) (j : Nat) (hj : j < A.length) :
    Calls Try.prog 70 #[.pointer (some ⟨l, 0, none⟩), .int .i64 (j : Int)] w fun e w' => e = .returned (.int .i64 (RF A j : Int)) ∧ ∃ q, w' = w.drewN q := by
  obtain ⟨wb, B, go, gf, gu, O, F, U, h1, h2, h3, h4, h5⟩ := h
  obtain ⟨l0, l1, l2, l3⟩ := h2.cells
  have cf := h2.rf.cell hj
  rw [(h5 j hj).1] at cf
  have H := hid h2
  have hx : decide ((0 : Int) ≤ (j : Int) ∧ (j : Int) < (A.length : Int)) = true := decide_eq_true ⟨by omega, by omega⟩
  clear h1 h2 h3 h4 h5
  go_enter Try.func70, Try.ntmps70
  go_wp2_with (go_at_call 81; refine (hasL_in H.out j hj).mono ?_; rintro e w1 ⟨rfl, q, rfl⟩)
  go_ret
  exact ⟨rfl, _, rfl⟩

theorem fail_out {w : World} {l t : Nat} {A P : List (List Nat)} {wd : List Nat → Int} (h : LinksAt w l t A P wd) (i : Int) (hi : i < 0 ∨ (A.length : Int) ≤ i) :
    Calls Try.prog 70 #[.pointer (some ⟨l, 0, none⟩), .int .i64 i] w fun e w' => e = .returned (.int .i64 0) ∧ ∃ q, w' = w.drewN q := by
  obtain ⟨wb, B, go, gf, gu, O, F, U, h1, h2, h3, h4, h5⟩ := h
  have H := hid h2
  clear h1 h2 h3 h4 h5
  go_enter Try.func70, Try.ntmps70
  go_wp2_with (go_at_call 81; refine (hasL_out H.out i hi).mono ?_; rintro e w1 ⟨rfl, q, rfl⟩)
  go_ret
  exact ⟨rfl, _, rfl⟩

theorem fail_none (w : World) (i : Int) : Calls Try.prog 70 #[.pointer none, .int .i64 i] w fun e w' => e = .returned (.int .i64 0) ∧ ∃ q, w' = w.drewN q := by
  go_enter Try.func70, Try.ntmps70
  go_wp2_with (go_at_call 81; refine (hasL_none _ i).mono ?_; rintro e w1 ⟨rfl, q, rfl⟩)
  go_ret
  exact ⟨rfl, _, rfl⟩

theorem out_in {w : World} {l t : Nat} {A P : List (List Nat)} {wd : List Nat → Int} (h : LinksAt w l t A P wd) (j : Nat) (hj : j < A.length) :
    Calls Try.prog 72 #[.pointer (some ⟨l, 0, none⟩), .int .i64 (j : Int)] w fun e w' => e = .returned (.int .i64 (RU A P j : Int)) ∧ ∃ q, w' = w.drewN q := by
  obtain ⟨wb, B, go, gf, gu, O, F, U, h1, h2, h3, h4, h5⟩ := h
  obtain ⟨l0, l1, l2, l3⟩ := h2.cells
  have cf := h2.ru.cell hj
  rw [(h5 j hj).2] at cf
  have H := hid h2
  have hx : decide ((0 : Int) ≤ (j : Int) ∧ (j : Int) < (A.length : Int)) = true := decide_eq_true ⟨by omega, by omega⟩
  clear h1 h2 h3 h4 h5
  go_enter Try.func72, Try.ntmps72
  go_wp2_with (go_at_call 81; refine (hasL_in H.out j hj).mono ?_; rintro e w1 ⟨rfl, q, rfl⟩)
  go_ret
  exact ⟨rfl, _, rfl⟩

theorem out_out {w : World} {l t : Nat} {A P : List (List Nat)} {wd : List Nat → Int} (h : LinksAt w l t A P wd) (i : Int) (hi : i < 0 ∨ (A.length : Int) ≤ i) :
    Calls Try.prog 72 #[.pointer (some ⟨l, 0, none⟩), .int .i64 i] w fun e w' => e = .returned (.int .i64 0) ∧ ∃ q, w' = w.drewN q := by
  obtain ⟨wb, B, go, gf, gu, O, F, U, h1, h2, h3, h4, h5⟩ := h
  have H := hid h2
  clear h1 h2 h3 h4 h5
  go_enter Try.func72, Try.ntmps72
  go_wp2_with (go_at_call 81; refine (hasL_out H.out i hi).mono ?_; rintro e w1 ⟨rfl, q, rfl⟩)
  go_ret
  exact ⟨rfl, _, rfl⟩

theorem out_none (w : World) (i : Int) : Calls Try.prog 72 #[.pointer none, .int .i64 i] w fun e w' => e = .returned (.int .i64 0) ∧ ∃ q, w' = w.drewN q := by
  go_enter Try.func72, Try.ntmps72
  go_wp2_with (go_at_call 81; refine (hasL_none _ i).mono ?_; rintro e w1 ⟨rfl, q, rfl⟩)
  go_ret
  exact ⟨rfl, _, rfl⟩

theorem trieL_in {w : World} {l t : Nat} {A P : List (List Nat)} {wd : List Nat → Int} (h : LinksAt w l t A P wd) :
    Calls Try.prog 69 #[.pointer (some ⟨l, 0, none⟩)] w fun e w' => e = .returned (.pointer (some ⟨t, 0, none⟩)) ∧ w' = w := by
  obtain ⟨wb, B, go, gf, gu, O, F, U, h1, h2, h3, h4, h5⟩ := h
  obtain ⟨l0, l1, l2, l3⟩ := h2.cells
  clear h1 h2 h3 h4 h5
  go_enter Try.func69, Try.ntmps69
  go_wp2
  go_ret
  exact ⟨rfl, rfl⟩

theorem trieL_none (w : World) : Calls Try.prog 69 #[.pointer none] w fun e w' => e = .returned (.pointer none) ∧ w' = w := by
  go_enter Try.func69, Try.ntmps69
  go_wp2
  go_ret
  exact ⟨rfl, rfl⟩

theorem newL_none (w : World) : Calls Try.prog 37 #[.pointer none] w fun e w' => e = .returned (.pointer none) ∧ w' = w := by
  go_enter Try.func37, Try.ntmps37
  go_wp2
  go_ret
  exact ⟨rfl, rfl⟩

@[go_sem] theorem nilI_some (ad : Addr) (n c : Nat) (w : World) : (binOp .eql 31 (.slice (some ad) n c) (.slice none 0 0)).run Try.prog w = .ok (.bool false) w := by kernel_rfl

theorem rowIs_reads {w : World} {g n : Nat} {O : Nat → Nat} (h : w.rowIs g 3 n (fun i => .int .i64 (O i : Int))) : Reads w (.slice (some ⟨g, 0, none⟩) n n) (numsI ((List.range n).map O)) := by
  have hl : (numsI ((List.range n).map O)).length = n := by rw [numsI_length]; simp
  refine ⟨_, n, by rw [hl], .inr ⟨g, 0, rfl, h.lt, fun i hi => ?_⟩⟩
  rw [hl] at hi
  rw [Nat.zero_add, h.cell hi, numsI]
  simp [hi]

/-- The links of phrases L. -/
def LinksOf (w : World) (l t : Nat) (L : List ByteArray) : Prop := LinksAt w l t (nodesN (L.map nums)) (L.map nums) (wordOf (L.map nums))

theorem wordOf_none (P : List (List Nat)) (x : List Nat) : wordOf P x = -1 ↔ x ∉ P := by
  unfold wordOf
  by_cases h : x ∈ P
  · rw [if_pos h]
    exact ⟨fun e => by omega, fun e => absurd h e⟩
  · rw [if_neg h]
    exact ⟨fun _ => h, fun _ => rfl⟩

theorem nodes_father {A : List (List Nat)} (h : Nodes A) : ∀ s c, s ++ [c] ∈ A → s ∈ A := by
  intro s c hm
  obtain ⟨i, hi⟩ := List.getElem?_of_mem hm
  obtain ⟨j, _, e⟩ := h.father i _ hi (by simp)
  rw [List.dropLast_concat] at e
  exact List.mem_of_getElem? e

end Go.Proofs.Ytdplflcaanmmiaa
