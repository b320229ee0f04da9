/-
  links.New: the links of a tree.
-/
import Derived.Test.YtdplflcaanmmiaaLinkSons
namespace Go.Proofs.Ytdplflcaanmmiaa
open Go.ChangeShapes Go.WideShapes Go.ChangeAt Go.RowKit

theorem below_alloc {B : Nat} {w w' : World} (h : Below B w w') (o : Obj) (hB : B ≤ w'.heap.size) : Below B w (w'.alloc o) := h.alloc hB o

theorem byDepth_from {w0 w : World} {B p n : Nat} {A : List (List Nat)} {wd : List Nat → Int} (h : TrieAt w0 B p A wd) (hn : n = A.length) (hb : Below w0.heap.size w0 w) :
    Calls Try.prog 45 #[.pointer (some ⟨p, 0, none⟩)] w fun e w' => ∃ g f, e = .returned (.slice (some ⟨g, 0, none⟩) n n) ∧ w0.heap.size ≤ g ∧ w'.rowIs g 3 n (fun i => .int .i64 (f i : Int)) ∧ Srt (depN A) f 0 A.length ∧ Same (fun k => k) f 0 A.length ∧ Below w0.heap.size w0 w' := by
  subst hn
  refine (byDepth_any (h.below hb)).mono ?_
  rintro e w' ⟨g, f, rfl, h1, h2, h3, h4, h5⟩
  exact ⟨g, f, rfl, Nat.le_trans hb.size h1, h2, h3, h4, hb.trans (h5.mono hb.size)⟩

theorem len_from {w0 w : World} {B p n : Nat} {A : List (List Nat)} {wd : List Nat → Int} (h : TrieAt w0 B p A wd) (hn : n = A.length) (hb : Below w0.heap.size w0 w) :
    Calls Try.prog 46 #[.pointer (some ⟨p, 0, none⟩)] w fun e w' => e = .returned (.int .i64 (n : Int)) ∧ w' = w := by
  subst hn
  exact len_trie (h.below hb)

/-- A node that is not the root has a father. -/
theorem father_at {A : List (List Nat)} (h : Nodes A) {y : Nat} (hy : y < A.length) (h0 : y ≠ 0) : ∃ f c, f < A.length ∧ txt A y = txt A f ++ [c] := by
  have hne : txt A y ≠ [] := fun e => h0 (txt_nil h hy e)
  have hg : A[y]? = some (txt A y) := by rw [txt_at hy]; exact List.getElem?_eq_getElem hy
  obtain ⟨f, hf, ef⟩ := h.father y _ hg hne
  have hfA := (List.getElem?_eq_some_iff.1 ef).1
  refine ⟨f, (txt A y).getLast hne, hfA, ?_⟩
  have e2 : txt A f = (txt A y).dropLast := by
    rw [txt_at hfA]
    exact (List.getElem?_eq_some_iff.1 ef).2
  rw [e2]
  exact (List.dropLast_concat_getLast hne).symm

/-- In the order a father stands ahead of all that are deeper. -/
theorem order_ahead {A : List (List Nat)} {O : Nat → Nat} (hA : A.length ≤ 1000000) (hs : Srt (depN A) O 0 A.length) (hS : Same (fun k => k) O 0 A.length) {f i : Nat} (hf : f < A.length) (hi : i < A.length) (hd : depN A f < depN A (O i)) : ∃ k, k < i ∧ O k = f := by
  obtain ⟨k, _, hk, e⟩ := hS.forth f (Nat.zero_le _) hf
  refine ⟨k, ?_, e.symm⟩
  rcases Nat.lt_or_ge k i with h1 | h1
  · exact h1
  · exfalso
    have e2 : O k = f := e.symm
    have hOi : O i < A.length := by
      obtain ⟨k', _, h2, e3⟩ := hS.back i (Nat.zero_le _) hi
      rw [e3]; exact h2
    rcases Nat.eq_or_lt_of_le h1 with h2 | h2
    · subst h2; rw [e2] at hd; omega
    · have h3 := hs i k (Nat.zero_le _) h2 hk
      rw [e2] at h3
      unfold rk at h3
      omega

/-- What is right by the order, up to place i. -/
def RtTo (A P : List (List Nat)) (O F U : Nat → Nat) (i : Nat) : Prop := ∀ y, y < A.length → (y = 0 ∨ ∃ k, k < i ∧ ∃ c, txt A y = txt A (O k) ++ [c]) → Rt A P F U y

theorem RtTo.deep {A P : List (List Nat)} {O F U : Nat → Nat} {i : Nat} (h : RtTo A P O F U i) (hN : Nodes A) (hA : A.length ≤ 1000000) (hs : Srt (depN A) O 0 A.length) (hS : Same (fun k => k) O 0 A.length) (hi : i < A.length) : ∀ y, y < A.length → depN A y ≤ depN A (O i) → Rt A P F U y := by
  intro y hy hd
  by_cases h0 : y = 0
  · exact h y hy (.inl h0)
  · obtain ⟨f, c, hf, e⟩ := father_at hN hy h0
    have hdf : depN A f < depN A (O i) := by
      have h1 : (txt A y).length = (txt A f).length + 1 := by rw [e]; simp
      unfold depN at *
      unfold txt at h1
      omega
    obtain ⟨k, hk, e2⟩ := order_ahead hA hs hS hf hi hdf
    exact h y hy (.inr ⟨k, hk, c, by rw [e2]; exact e⟩)

theorem RtTo.all {A P : List (List Nat)} {O F U : Nat → Nat} (h : RtTo A P O F U A.length) (hN : Nodes A) (hS : Same (fun k => k) O 0 A.length) : ∀ y, y < A.length → Rt A P F U y := by
  intro y hy
  by_cases h0 : y = 0
  · exact h y hy (.inl h0)
  · obtain ⟨f, c, hf, e⟩ := father_at hN hy h0
    obtain ⟨k, _, hk, e2⟩ := hS.forth f (Nat.zero_le _) hf
    exact h y hy (.inr ⟨k, hk, c, by rw [← e2]; exact e⟩)

/-- Three new blocks behind w6: the two rows, and what holds them. -/
theorem lk_new {w w6 : World} {p n go gf gu : Nat} {O : Nat → Nat} (hb : Below w.heap.size w w6) (ho : w6.rowIs go 3 n (fun i => .int .i64 (O i : Int))) (hog : w.heap.size ≤ go) (hc : (gf = w6.heap.size ∧ gu = w6.heap.size + 1) ∨ (gf = w6.heap.size + 1 ∧ gu = w6.heap.size)) :
    LkAt w (((w6.alloc (.cells (madeCells #[.int .i64 0] n) 3)).alloc (.cells (madeCells #[.int .i64 0] n) 3)).alloc (.cells #[.pointer (some ⟨p, 0, none⟩), .slice (some ⟨go, 0, none⟩) n n, .slice (some ⟨gf, 0, none⟩) n n, .slice (some ⟨gu, 0, none⟩) n n] 95)) (w6.heap.size + 1 + 1) p n go gf gu O (fun _ => 0) (fun _ => 0) := by
  have hs := hb.size
  have hlt := ho.lt
  have r1 := ((World.rowIs_made w6 (.int .i64 0) n 3).alloc (.cells (madeCells #[.int .i64 0] n) 3)).alloc (.cells #[.pointer (some ⟨p, 0, none⟩), .slice (some ⟨go, 0, none⟩) n n, .slice (some ⟨gf, 0, none⟩) n n, .slice (some ⟨gu, 0, none⟩) n n] 95)
  have r2 := (World.rowIs_made (w6.alloc (.cells (madeCells #[.int .i64 0] n) 3)) (.int .i64 0) n 3).alloc (.cells #[.pointer (some ⟨p, 0, none⟩), .slice (some ⟨go, 0, none⟩) n n, .slice (some ⟨gf, 0, none⟩) n n, .slice (some ⟨gu, 0, none⟩) n n] 95)
  have e1 : (w6.alloc (.cells (madeCells #[.int .i64 0] n) 3)).heap.size = w6.heap.size + 1 := by simp
  rw [e1] at r2
  refine { below := ((hb.alloc hs _).alloc (by simp; omega) _).alloc (by simp; omega) _, ptr := ?_, ro := ((ho.alloc _).alloc _).alloc _, rf := ?_, ru := ?_, lB := by omega, fB := by omega, uB := by omega, oB := hog, lf := by omega, lu := by omega, of' := by omega, ou := by omega, fu := by omega }
  · have h1 := heap_alloc_new ((w6.alloc (.cells (madeCells #[.int .i64 0] n) 3)).alloc (.cells (madeCells #[.int .i64 0] n) 3)) (.cells #[.pointer (some ⟨p, 0, none⟩), .slice (some ⟨go, 0, none⟩) n n, .slice (some ⟨gf, 0, none⟩) n n, .slice (some ⟨gu, 0, none⟩) n n] 95)
    simpa using h1
  · rcases hc with ⟨h1, h2⟩ | ⟨h1, h2⟩
    · rw [h1]; rw [h1] at r1; exact r1
    · rw [h1]; rw [h1] at r2; exact r2
  · rcases hc with ⟨h1, h2⟩ | ⟨h1, h2⟩
    · rw [h2]; rw [h2] at r2; exact r2
    · rw [h2]; rw [h2] at r1; exact r1

set_option maxRecDepth 20000 in
set_option maxHeartbeats 8000000 in
theorem links_new {w : World} {B p : Nat} {A P : List (List Nat)} {wd : List Nat → Int} (h : TrieAt w B p A wd) (hA : ∀ s c, s ++ [c] ∈ A → s ∈ A) (hP : ∀ s ∈ P, s ∈ A) (hw : ∀ x, wd x = -1 ↔ x ∉ P) :
    Calls Try.prog 37 #[.pointer (some ⟨p, 0, none⟩)] w fun e w' => ∃ l go gf gu O F U, e = .returned (.pointer (some ⟨l, 0, none⟩)) ∧ LkAt w w' l p A.length go gf gu O F U ∧ Srt (depN A) O 0 A.length ∧ Same (fun k => k) O 0 A.length ∧ ∀ y, y < A.length → Rt A P F U y := by
  have hn := h.few
  have hpos := h.nodes.pos
  have H := hid h
  have HA := hid hA
  have HP := hid hP
  have HW := hid hw
  clear h hA hP hw
  obtain ⟨n, hnA⟩ : ∃ n, n = A.length := ⟨_, rfl⟩
  rw [← hnA] at hn hpos
  have HN := hid hnA
  clear hnA
  have hmk := run_make_row' (P := Try.prog) 31 3 (.int .i64 0) 8 Try.underlying31 Try.infoI rfl .i64 .i64 n (by omega) (by omega)
  have hb0 : Below w.heap.size w w := Below.refl _ _
  go_enter Try.func37, Try.ntmps37
  go_wp2_with fail
  go_region_held_law (fun w' => Below w.heap.size w w') (repeat (first | assumption | refine Below.drew ?_ | refine below_alloc ?_ _ (Below.size (by assumption)))) (first
    | (go_at_call 45; refine (byDepth_from H.out HN.out (by assumption)).mono ?_; rintro e w5 ⟨g, f, rfl, h1, h2, h3, h4, h5⟩; have HG1 := hid h1; have HG2 := hid h2; have HG3 := hid h3; have HG4 := hid h4; clear h1 h2 h3 h4)
    | (go_at_call 46; refine (len_from H.out HN.out (by assumption)).mono ?_; rintro e w6 ⟨rfl, rfl⟩))
  all_goals (first
    | (obtain ⟨w8, hW8⟩ : ∃ w8, (((w6.alloc (.cells (madeCells #[.int .i64 0] n) 3)).alloc (.cells (madeCells #[.int .i64 0] n) 3)).alloc (.cells #[.pointer (some ⟨p, 0, none⟩), .slice (some ⟨g, 0, none⟩) n n, .slice (some ⟨w6.heap.size, 0, none⟩) n n, .slice (some ⟨w6.heap.size + 1, 0, none⟩) n n] 95)) = w8 := ⟨_, rfl⟩; rw [hW8]; have HL0 := hid (lk_new (p := p) (gf := w6.heap.size) (gu := w6.heap.size + 1) h5 HG2.out HG1.out (.inl ⟨rfl, rfl⟩)); rw [hW8] at HL0; generalize hgl : w6.heap.size + 1 + 1 = l at HL0 ⊢; generalize hg1 : w6.heap.size + 1 = gu at HL0 ⊢; generalize hg0 : w6.heap.size = gf at HL0 ⊢)
    | (obtain ⟨w8, hW8⟩ : ∃ w8, (((w6.alloc (.cells (madeCells #[.int .i64 0] n) 3)).alloc (.cells (madeCells #[.int .i64 0] n) 3)).alloc (.cells #[.pointer (some ⟨p, 0, none⟩), .slice (some ⟨g, 0, none⟩) n n, .slice (some ⟨w6.heap.size + 1, 0, none⟩) n n, .slice (some ⟨w6.heap.size, 0, none⟩) n n] 95)) = w8 := ⟨_, rfl⟩; rw [hW8]; have HL0 := hid (lk_new (p := p) (gf := w6.heap.size + 1) (gu := w6.heap.size) h5 HG2.out HG1.out (.inr ⟨rfl, rfl⟩)); rw [hW8] at HL0; generalize hgl : w6.heap.size + 1 + 1 = l at HL0 ⊢; generalize hg1 : w6.heap.size + 1 = gf at HL0 ⊢; generalize hg0 : w6.heap.size = gu at HL0 ⊢))
  all_goals clear hW8 hgl hg1 hg0 hmk HG2 hb0
  all_goals obtain ⟨l0, l1, l2, l3⟩ := HL0.out.cells
  all_goals go_wp2
  all_goals (
    go_loopw [24] (fun vi wr => ∃ (i : Nat) (F U : Nat → Nat), vi = .int .i64 i ∧ i ≤ n ∧ Hid (LkAt w wr l p n g gf gu f F U) ∧ Hid (RtTo A P f F U i)) (fun vi _ => n - (intOf vi).toNat)
    case atStart =>
      refine ⟨0, _, _, rfl, by omega, HL0.out, fun y hy h => ?_⟩
      rcases h with rfl | ⟨k, hk, _⟩
      · exact ⟨(RF_zero H.out.nodes).symm, (RU_zero H.out.nodes P).symm⟩
      · omega
    case round =>
      clear HL0 l0 l1 l2 l3
      obtain ⟨i, F, U, rfl, hi, hL, hR⟩ := hrel
      by_cases hlt : i < n
      · have ci := hL.out.ro.cell hlt
        obtain ⟨j, hj⟩ : ∃ j, j = f i := ⟨_, rfl⟩
        rw [← hj] at ci
        have hiA : i < A.length := by rw [← HN.out]; exact hlt
        have hjn : j < n := by
          obtain ⟨k', _, h2, e3⟩ := HG4.out.back i (Nat.zero_le _) hiA
          rw [hj, e3, HN.out]; exact h2
        have hx1 : decide ((0 : Int) ≤ (i : Int) ∧ (i : Int) < (n : Int)) = true := decide_eq_true ⟨by omega, by omega⟩
        have HD := hid (hR.out.deep H.out.nodes (by rw [← HN.out]; exact hn) HG3.out HG4.out hiA)
        have HJ := hid hj
        clear hj
        go_wp2_with (go_at_call 47; refine (linkSons_any H.out hL.out HN.out HA.out HP.out HW.out j hjn (fun y h1 h2 => HD.out y (by rw [← HN.out]; exact h1) (by rw [← HJ.out]; exact h2))).mono ?_; rintro e w5 ⟨rfl, F2, U2, hL2, hr1, hr2⟩; have HL2 := hid hL2; have HR1 := hid hr1; have HR2 := hid hr2; clear hL2 hr1 hr2)
        go_roundw
        case rel =>
          refine ⟨i + 1, F2, U2, by go_num, by omega, HL2.out, fun y hy h => ?_⟩
          have hyn : y < n := by rw [HN.out]; exact hy
          rcases h with h0 | ⟨k, hk, c, e⟩
          · exact HR1.out y hyn (hR.out y hy (.inl h0))
          · rcases Nat.lt_or_ge k i with h2 | h2
            · exact HR1.out y hyn (hR.out y hy (.inr ⟨k, h2, c, e⟩))
            · have e2 : k = i := by omega
              rw [e2, ← HJ.out] at e
              exact HR2.out y hyn ⟨c, e⟩
        case measure => simp [intOf]; omega
      · have HALL : Hid (∀ y, y < A.length → Rt A P F U y) := by
          have h1 := hR.out
          have h2 := HN.out
          rw [show i = A.length by omega] at h1
          exact h1.all H.out.nodes HG4.out
        have HL3 : Hid (LkAt w wr l p A.length g gf gu f F U) := by have h1 := hL.out; rw [HN.out] at h1; exact h1
        go_wp2
        go_ret
        exact ⟨l, g, gf, gu, f, F, U, rfl, HL3.out, HG3.out, HG4.out, HALL.out⟩)
end Go.Proofs.Ytdplflcaanmmiaa
