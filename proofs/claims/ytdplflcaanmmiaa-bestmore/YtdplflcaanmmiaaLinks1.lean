/-
  Links in memory; longestEnd, firstPhrase.
-/
import Derived.Test.YtdplflcaanmmiaaByDepth
import Derived.Test.YtdplflcaanmmiaaLinksRight
namespace Go.Proofs.Ytdplflcaanmmiaa
open Go.ChangeShapes Go.WideShapes Go.ChangeAt Go.RowKit

/-- Links at block l: of the tree at t, the rows of the order, of where one goes on, of which phrase ends there, too. -/
structure LkAt (wb w : World) (l t n go gf gu : Nat) (O F U : Nat → Nat) : Prop where
  below : Below wb.heap.size wb w
  ptr : w.heap[l]? = some (.cells #[.pointer (some ⟨t, 0, none⟩), .slice (some ⟨go, 0, none⟩) n n, .slice (some ⟨gf, 0, none⟩) n n, .slice (some ⟨gu, 0, none⟩) n n] 95 (0, 0))
  ro : w.rowIs go 3 n (fun i => .int .i64 (O i : Int))
  rf : w.rowIs gf 3 n (fun i => .int .i64 (F i : Int))
  ru : w.rowIs gu 3 n (fun i => .int .i64 (U i : Int))
  lB : wb.heap.size ≤ l
  fB : wb.heap.size ≤ gf
  uB : wb.heap.size ≤ gu
  oB : wb.heap.size ≤ go
  lf : l ≠ gf
  lu : l ≠ gu
  of' : go ≠ gf
  ou : go ≠ gu
  fu : gf ≠ gu

/-- One place of a function turned. -/
def upd1 (F : Nat → Nat) (i v : Nat) : Nat → Nat := fun k => if k = i then v else F k

theorem LkAt.later {wb w w' : World} {l t n go gf gu : Nat} {O F U : Nat → Nat} (h : LkAt wb w l t n go gf gu O F U) (hb : Below w.heap.size w w') : LkAt wb w' l t n go gf gu O F U :=
  { h with
    below := h.below.trans (hb.mono h.below.size)
    ptr := (hb.block l (Array.getElem?_eq_some_iff.1 h.ptr).1).trans h.ptr
    ro := h.ro.of_block (hb.block go h.ro.lt)
    rf := h.rf.of_block (hb.block gf h.rf.lt)
    ru := h.ru.of_block (hb.block gu h.ru.lt) }

theorem LkAt.drewN {wb w : World} {l t n go gf gu : Nat} {O F U : Nat → Nat} (h : LkAt wb w l t n go gf gu O F U) (q : Nat) : LkAt wb (w.drewN q) l t n go gf gu O F U := h.later (drewN_below w q _)

theorem LkAt.setF {wb w : World} {l t n go gf gu : Nat} {O F U : Nat → Nat} (h : LkAt wb w l t n go gf gu O F U) (i v : Nat) : LkAt wb (w.setCell ⟨gf, i, none⟩ (.int .i64 (v : Int))) l t n go gf gu O (upd1 F i v) U :=
  { h with
    below := h.below.trans (((Kept.refl (· = gf) w).setCell gf i _ rfl).below h.below.size (by rintro k rfl; exact h.fB))
    ptr := (Below.heap_setCell _ _ _ _ (by intro e; exact h.lf e)).trans h.ptr
    ro := h.ro.setOther (by exact h.of') _
    rf := (h.rf.set i _).congr (fun k _ => by unfold upd1; split <;> rfl)
    ru := h.ru.setOther (by exact fun e => h.fu e.symm) _ }

theorem LkAt.setU {wb w : World} {l t n go gf gu : Nat} {O F U : Nat → Nat} (h : LkAt wb w l t n go gf gu O F U) (i v : Nat) : LkAt wb (w.setCell ⟨gu, i, none⟩ (.int .i64 (v : Int))) l t n go gf gu O F (upd1 U i v) :=
  { h with
    below := h.below.trans (((Kept.refl (· = gu) w).setCell gu i _ rfl).below h.below.size (by rintro k rfl; exact h.uB))
    ptr := (Below.heap_setCell _ _ _ _ (by intro e; exact h.lu e)).trans h.ptr
    ro := h.ro.setOther (by exact h.ou) _
    rf := h.rf.setOther (by exact h.fu) _
    ru := (h.ru.set i _).congr (fun k _ => by unfold upd1; split <;> rfl) }

theorem LkAt.cells {wb w : World} {l t n go gf gu : Nat} {O F U : Nat → Nat} (h : LkAt wb w l t n go gf gu O F U) :
    w.cell? ⟨l, 0, none⟩ = some (.pointer (some ⟨t, 0, none⟩)) ∧ w.cell? ⟨l, 1, none⟩ = some (.slice (some ⟨go, 0, none⟩) n n) ∧ w.cell? ⟨l, 2, none⟩ = some (.slice (some ⟨gf, 0, none⟩) n n) ∧ w.cell? ⟨l, 3, none⟩ = some (.slice (some ⟨gu, 0, none⟩) n n) := by
  refine ⟨?_, ?_, ?_, ?_⟩ <;> simp [World.cell?, h.ptr]

set_option maxRecDepth 20000 in
set_option maxHeartbeats 2000000 in
/-- The longest end of a node's text and c that is a beginning. -/
theorem longestEnd_any {wb w : World} {B l t n go gf gu : Nat} {A : List (List Nat)} {wd : List Nat → Int} {O F U : Nat → Nat} (hT : TrieAt wb B t A wd) (h : LkAt wb w l t n go gf gu O F U) (hn : n = A.length) (hA : ∀ s c, s ++ [c] ∈ A → s ∈ A) (j : Nat) (hj : j < n) (c : Nat) (hc : c < 256) (hF : ∀ y, y < n → depN A y ≤ depN A j → F y = RF A y) :
    Calls Try.prog 62 #[.pointer (some ⟨l, 0, none⟩), .int .i64 (j : Int), .int .u8 (c : Int)] w fun e w' => e = .returned (.int .i64 ((A.idxOf (failT A (txt A j ++ [c])) : Nat) : Int)) ∧ ∃ q, w' = w.drewN q := by
  have hN := hT.nodes
  have HT := hid hT
  have H := hid h
  have HF := hid hF
  have HN := hid hn
  have HA := hid hA
  have NN := hid hN
  have hnl : n ≤ 1000000 := by rw [hn]; exact hT.few
  have START : Hid ((txt A j ≠ [] → endT A c (failT A (txt A j)) = failT A (txt A j ++ [c])) ∧ (txt A j = [] → failT A (txt A j ++ [c]) = [])) :=
    ⟨fun h0 => (failT_by A (nodes_mem0 hN) hA _ h0 c).symm, fun h0 => by rw [h0]; exact failT_one A (nodes_mem0 hN) c⟩
  clear hT h hF hn hA hN
  go_enter Try.func62, Try.ntmps62
  go_wp2
  go_loopw [1] (fun vz wr => ∃ z q : Nat, vz = .int .i64 z ∧ z < n ∧ wr = w.drewN q ∧ Hid (depN A z ≤ depN A j) ∧ Hid ((txt A z ≠ [] → endT A c (failT A (txt A z)) = failT A (txt A j ++ [c])) ∧ (txt A z = [] → failT A (txt A j ++ [c]) = []))) (fun vz _ => depN A (intOf vz).toNat)
  case atStart => exact ⟨j, 0, rfl, hj, rfl, Nat.le_refl _, START.out⟩
  case round =>
    obtain ⟨z, q, rfl, hz, rfl, hd, hE⟩ := hrel
    obtain ⟨l0, l1, l2, l3⟩ := H.out.cells
    by_cases h0 : z = 0
    · subst h0
      go_wp2
      go_ret
      refine ⟨?_, _, rfl⟩
      rw [hE.out.2 (txt_zero NN.out), idx_nil NN.out]
      rfl
    · have hzA : z < A.length := by rw [← HN.out]; exact hz
      have hne : txt A z ≠ [] := fun e => h0 (txt_nil NN.out hzA e)
      obtain ⟨y, hy⟩ : ∃ y, y = RF A z := ⟨_, rfl⟩
      have hyA : y < A.length := by rw [hy]; exact RF_lt NN.out z
      have hyn : y < n := by rw [HN.out]; exact hyA
      have cy := H.out.rf.cell hz
      rw [HF.out z hz hd.out, ← hy] at cy
      have hty : txt A y = failT A (txt A z) := by rw [hy]; exact RF_txt NN.out z
      have hsh : (txt A y).length < (txt A z).length := by rw [hty]; exact failT_short A _ hne
      have hx1 : decide ((0 : Int) ≤ (z : Int) ∧ (z : Int) < (n : Int)) = true := decide_eq_true ⟨by omega, by omega⟩
      have hz0 : ¬ ((z : Int) = 0) := by omega
      have hTw := (HT.out.below H.out.below).drewN q
      have HTY := hid hty
      have HSH := hid hsh
      have HNE := hid hne
      clear hy hty hsh hne
      by_cases hm : txt A y ++ [c] ∈ A
      · have hm2 : A[y]'hyA ++ [c] ∈ A := by rw [← txt_at hyA]; exact hm
        have HTW := hid hTw
        clear hTw hm
        go_wp2_with (go_at_call 61; refine (next_in HTW.out y hyA c hc hm2).mono ?_; rintro e w1 ⟨rfl, q1, rfl⟩)
        go_ret
        refine ⟨?_, _, by first | rfl | rw [World.drewN_drewN]⟩
        rw [← hE.out.1 HNE.out, ← HTY.out, endT_at A c _ (by rw [txt_at hyA]; exact hm2), txt_at hyA]
        rfl
      · have hm2 : A[y]'hyA ++ [c] ∉ A := by rw [← txt_at hyA]; exact hm
        have HTW := hid hTw
        have HM := hid hm
        clear hTw hm
        go_wp2_with (go_at_call 61; refine (next_not HTW.out y hyA c hc hm2).mono ?_; rintro e w1 ⟨rfl, q1, rfl⟩)
        go_roundw
        case rel =>
          refine ⟨y, q + q1, rfl, hyn, by first | rfl | rw [World.drewN_drewN], ?_, ?_, ?_⟩
          · have h1 := hd.out; have h2 := HSH.out; show depN A y ≤ depN A j; unfold depN txt at *; omega
          · intro hy0
            rw [← hE.out.1 HNE.out, ← HTY.out, endT_skip A (nodes_mem0 NN.out) HA.out c _ hy0 HM.out]
          · intro hy0
            rw [← hE.out.1 HNE.out, ← HTY.out, hy0]
            have h3 := HM.out
            rw [hy0] at h3
            rw [endT, if_neg (by simpa using h3)]
        case measure => have h2 := HSH.out; simp [intOf]; unfold depN txt at *; omega

set_option maxRecDepth 20000 in
set_option maxHeartbeats 2000000 in
/-- A node that is a phrase. -/
theorem first_self {wb w : World} {B l t n go gf gu : Nat} {A : List (List Nat)} {wd : List Nat → Int} {O F U : Nat → Nat} (hT : TrieAt wb B t A wd) (h : LkAt wb w l t n go gf gu O F U) (hn : n = A.length) (j : Nat) (hj : j < n) (hw : wd (txt A j) ≠ -1) :
    Calls Try.prog 63 #[.pointer (some ⟨l, 0, none⟩), .int .i64 (j : Int)] w fun e w' => e = .returned (.int .i64 (j : Int)) ∧ ∃ q, w' = w.drewN q := by
  have hjA : j < A.length := by rw [← hn]; exact hj
  rw [txt_at hjA] at hw
  obtain ⟨l0, l1, l2, l3⟩ := h.cells
  have HT := hid (hT.below h.below)
  clear hT h hn
  go_enter Try.func63, Try.ntmps63
  go_wp2_with (go_at_call 71; refine (word_in HT.out j hjA).mono ?_; rintro e w1 ⟨rfl, rfl⟩)
  go_ret
  exact ⟨rfl, 0, rfl⟩

set_option maxRecDepth 20000 in
set_option maxHeartbeats 2000000 in
/-- A node that is none. -/
theorem first_next {wb w : World} {B l t n go gf gu : Nat} {A : List (List Nat)} {wd : List Nat → Int} {O F U : Nat → Nat} (hT : TrieAt wb B t A wd) (h : LkAt wb w l t n go gf gu O F U) (hn : n = A.length) (j : Nat) (hj : j < n) (hw : wd (txt A j) = -1) :
    Calls Try.prog 63 #[.pointer (some ⟨l, 0, none⟩), .int .i64 (j : Int)] w fun e w' => e = .returned (.int .i64 (U j : Int)) ∧ ∃ q, w' = w.drewN q := by
  have hjA : j < A.length := by rw [← hn]; exact hj
  rw [txt_at hjA] at hw
  obtain ⟨l0, l1, l2, l3⟩ := h.cells
  have cu := h.ru.cell hj
  have HT := hid (hT.below h.below)
  have hx1 : decide ((0 : Int) ≤ (j : Int) ∧ (j : Int) < (n : Int)) = true := decide_eq_true ⟨by omega, by omega⟩
  clear hT h hn
  go_enter Try.func63, Try.ntmps63
  go_wp2_with (go_at_call 71; refine (word_in HT.out j hjA).mono ?_; rintro e w1 ⟨rfl, rfl⟩)
  go_ret
  exact ⟨rfl, 0, rfl⟩
end Go.Proofs.Ytdplflcaanmmiaa
