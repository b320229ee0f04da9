/-
  Links in memory; longestEnd, firstPhrase. linkSons: the links of a node's sons. links.New: the links of a tree. Links that are right: what Fail, Out, Order, Trie answer; Make.
-/
import Derived.Test.YtdplflcaanmmiaaGreatByDepth
import Derived.Test.YtdplflcaanmmiaaGreatLinksRight
import Derived.Test.YtdplflcaanmmiaaGreatSonsL
import Derived.Deep.RegionHeldLaw
import Derived.Test.YtdplflcaanmmiaaGreatHelps
namespace Go.Proofs.YtdplflcaanmmiaaGreat
open Go.ChangeShapes Go.WideShapes Go.ChangeAt Go.RowKit

/-- Links at block l: of the tree at t, the rows of the order, of where one goes on, of which phrase ends there, too. -/
structure LkAt (wb w : World) (l t n go gf gu : Nat) (O F U : Nat → Nat) : Prop where
  below : Below wb.heap.size wb w
  ptr : w.heap[l]? = some (.cells #[.pointer (some ⟨t, 0, none⟩), .slice (some ⟨go, 0, none⟩) n n, .slice (some ⟨gf, 0, none⟩) n n, .slice (some ⟨gu, 0, none⟩) n n] 138 (0, 0))
  ro : w.rowIs go 3 n (fun i => .int .i64 (O i : Int))
  rf : w.rowIs gf 3 n (fun i => .int .i64 (F i : Int))
  ru : w.rowIs gu 3 n (fun i => .int .i64 (U i : Int))
  lB : wb.heap.size ≤ l
  fB : wb.heap.size ≤ gf
  uB : wb.heap.size ≤ gu
  oB : wb.heap.size ≤ go
  lf : l ≠ gf
  lu : l ≠ gu
  of' : go ≠ gf
  ou : go ≠ gu
  fu : gf ≠ gu

/-- One place of a function turned. -/
def upd1 (F : Nat → Nat) (i v : Nat) : Nat → Nat := fun k => if k = i then v else F k

theorem LkAt.later {wb w w' : World} {l t n go gf gu : Nat} {O F U : Nat → Nat} (h : LkAt wb w l t n go gf gu O F U) (hb : Below w.heap.size w w') : LkAt wb w' l t n go gf gu O F U :=
  { h with
    below := h.below.trans (hb.mono h.below.size)
    ptr := (hb.block l (Array.getElem?_eq_some_iff.1 h.ptr).1).trans h.ptr
    ro := h.ro.of_block (hb.block go h.ro.lt)
    rf := h.rf.of_block (hb.block gf h.rf.lt)
    ru := h.ru.of_block (hb.block gu h.ru.lt) }

theorem LkAt.drewN {wb w : World} {l t n go gf gu : Nat} {O F U : Nat → Nat} (h : LkAt wb w l t n go gf gu O F U) (q : Nat) : LkAt wb (w.drewN q) l t n go gf gu O F U := h.later (drewN_below w q _)

theorem LkAt.setF {wb w : World} {l t n go gf gu : Nat} {O F U : Nat → Nat} (h : LkAt wb w l t n go gf gu O F U) (i v : Nat) : LkAt wb (w.setCell ⟨gf, i, none⟩ (.int .i64 (v : Int))) l t n go gf gu O (upd1 F i v) U :=
  { h with
    below := h.below.trans (((Kept.refl (· = gf) w).setCell gf i _ rfl).below h.below.size (by rintro k rfl; exact h.fB))
    ptr := (Below.heap_setCell _ _ _ _ (by intro e; exact h.lf e)).trans h.ptr
    ro := h.ro.setOther (by exact h.of') _
    rf := (h.rf.set i _).congr (fun k _ => by unfold upd1; split <;> rfl)
    ru := h.ru.setOther (by exact fun e => h.fu e.symm) _ }

theorem LkAt.setU {wb w : World} {l t n go gf gu : Nat} {O F U : Nat → Nat} (h : LkAt wb w l t n go gf gu O F U) (i v : Nat) : LkAt wb (w.setCell ⟨gu, i, none⟩ (.int .i64 (v : Int))) l t n go gf gu O F (upd1 U i v) :=
  { h with
    below := h.below.trans (((Kept.refl (· = gu) w).setCell gu i _ rfl).below h.below.size (by rintro k rfl; exact h.uB))
    ptr := (Below.heap_setCell _ _ _ _ (by intro e; exact h.lu e)).trans h.ptr
    ro := h.ro.setOther (by exact h.ou) _
    rf := h.rf.setOther (by exact h.fu) _
    ru := (h.ru.set i _).congr (fun k _ => by unfold upd1; split <;> rfl) }

theorem LkAt.cells {wb w : World} {l t n go gf gu : Nat} {O F U : Nat → Nat} (h : LkAt wb w l t n go gf gu O F U) :
    w.cell? ⟨l, 0, none⟩ = some (.pointer (some ⟨t, 0, none⟩)) ∧ w.cell? ⟨l, 1, none⟩ = some (.slice (some ⟨go, 0, none⟩) n n) ∧ w.cell? ⟨l, 2, none⟩ = some (.slice (some ⟨gf, 0, none⟩) n n) ∧ w.cell? ⟨l, 3, none⟩ = some (.slice (some ⟨gu, 0, none⟩) n n) := by
  refine ⟨?_, ?_, ?_, ?_⟩ <;> simp [World.cell?, h.ptr]

set_option maxRecDepth 20000 in
set_option maxHeartbeats 2000000 in
/-- The longest end of a node's text and c that is a beginning. -/
theorem longestEnd_any {wb w : World} {B l t n go gf gu : Nat} {A : List (List Nat)} {wd : List Nat → Int} {O F U : Nat → Nat} (hT : TrieAt wb B t A wd) (h : LkAt wb w l t n go gf gu O F U) (hn : n = A.length) (hA : ∀ s c, s ++ [c] ∈ A → s ∈ A) (j : Nat) (hj : j < n) (c : Nat) (hc : c < 256) (hF : ∀ y, y < n → depN A y ≤ depN A j → F y = RF A y) :
    Calls Tryz.prog 109 #[.pointer (some ⟨l, 0, none⟩), .int .i64 (j : Int), .int .u8 (c : Int)] w fun e w' => e = .returned (.int .i64 ((A.idxOf (failT A (txt A j ++ [c])) : Nat) : Int)) ∧ ∃ q, w' = w.drewN q := by
  have hN := hT.nodes
  have HT := hid hT
  have H := hid h
  have HF := hid hF
  have HN := hid hn
  have HA := hid hA
  have NN := hid hN
  have hnl : n ≤ 1000000 := by rw [hn]; exact hT.few
  have START : Hid ((txt A j ≠ [] → endT A c (failT A (txt A j)) = failT A (txt A j ++ [c])) ∧ (txt A j = [] → failT A (txt A j ++ [c]) = [])) :=
    ⟨fun h0 => (failT_by A (nodes_mem0 hN) hA _ h0 c).symm, fun h0 => by rw [h0]; exact failT_one A (nodes_mem0 hN) c⟩
  clear hT h hF hn hA hN
  go_enter Tryz.func109, Tryz.ntmps109
  go_wp2
  go_loopw [1] (fun vz wr => ∃ z q : Nat, vz = .int .i64 z ∧ z < n ∧ wr = w.drewN q ∧ Hid (depN A z ≤ depN A j) ∧ Hid ((txt A z ≠ [] → endT A c (failT A (txt A z)) = failT A (txt A j ++ [c])) ∧ (txt A z = [] → failT A (txt A j ++ [c]) = []))) (fun vz _ => depN A (intOf vz).toNat)
  case atStart => exact ⟨j, 0, rfl, hj, rfl, Nat.le_refl _, START.out⟩
  case round =>
    obtain ⟨z, q, rfl, hz, rfl, hd, hE⟩ := hrel
    obtain ⟨l0, l1, l2, l3⟩ := H.out.cells
    by_cases h0 : z = 0
    · subst h0
      go_wp2
      go_ret
      refine ⟨?_, _, rfl⟩
      rw [hE.out.2 (txt_zero NN.out), idx_nil NN.out]
      rfl
    · have hzA : z < A.length := by rw [← HN.out]; exact hz
      have hne : txt A z ≠ [] := fun e => h0 (txt_nil NN.out hzA e)
      obtain ⟨y, hy⟩ : ∃ y, y = RF A z := ⟨_, rfl⟩
      have hyA : y < A.length := by rw [hy]; exact RF_lt NN.out z
      have hyn : y < n := by rw [HN.out]; exact hyA
      have cy := H.out.rf.cell hz
      rw [HF.out z hz hd.out, ← hy] at cy
      have hty : txt A y = failT A (txt A z) := by rw [hy]; exact RF_txt NN.out z
      have hsh : (txt A y).length < (txt A z).length := by rw [hty]; exact failT_short A _ hne
      have hx1 : decide ((0 : Int) ≤ (z : Int) ∧ (z : Int) < (n : Int)) = true := decide_eq_true ⟨by omega, by omega⟩
      have hz0 : ¬ ((z : Int) = 0) := by omega
      have hTw := (HT.out.below H.out.below).drewN q
      have HTY := hid hty
      have HSH := hid hsh
      have HNE := hid hne
      clear hy hty hsh hne
      by_cases hm : txt A y ++ [c] ∈ A
      · have hm2 : A[y]'hyA ++ [c] ∈ A := by rw [← txt_at hyA]; exact hm
        have HTW := hid hTw
        clear hTw hm
        go_wp2_with (go_at_call 108; refine (next_in HTW.out y hyA c hc hm2).mono ?_; rintro e w1 ⟨rfl, q1, rfl⟩)
        go_ret
        refine ⟨?_, _, by first | rfl | rw [World.drewN_drewN]⟩
        rw [← hE.out.1 HNE.out, ← HTY.out, endT_at A c _ (by rw [txt_at hyA]; exact hm2), txt_at hyA]
        rfl
      · have hm2 : A[y]'hyA ++ [c] ∉ A := by rw [← txt_at hyA]; exact hm
        have HTW := hid hTw
        have HM := hid hm
        clear hTw hm
        go_wp2_with (go_at_call 108; refine (next_not HTW.out y hyA c hc hm2).mono ?_; rintro e w1 ⟨rfl, q1, rfl⟩)
        go_roundw
        case rel =>
          refine ⟨y, q + q1, rfl, hyn, by first | rfl | rw [World.drewN_drewN], ?_, ?_, ?_⟩
          · have h1 := hd.out; have h2 := HSH.out; show depN A y ≤ depN A j; unfold depN txt at *; omega
          · intro hy0
            rw [← hE.out.1 HNE.out, ← HTY.out, endT_skip A (nodes_mem0 NN.out) HA.out c _ hy0 HM.out]
          · intro hy0
            rw [← hE.out.1 HNE.out, ← HTY.out, hy0]
            have h3 := HM.out
            rw [hy0] at h3
            rw [endT, if_neg (by simpa using h3)]
        case measure => have h2 := HSH.out; simp [intOf]; unfold depN txt at *; omega

set_option maxRecDepth 20000 in
set_option maxHeartbeats 2000000 in
/-- A node that is a phrase. -/
theorem first_self {wb w : World} {B l t n go gf gu : Nat} {A : List (List Nat)} {wd : List Nat → Int} {O F U : Nat → Nat} (hT : TrieAt wb B t A wd) (h : LkAt wb w l t n go gf gu O F U) (hn : n = A.length) (j : Nat) (hj : j < n) (hw : wd (txt A j) ≠ -1) :
    Calls Tryz.prog 110 #[.pointer (some ⟨l, 0, none⟩), .int .i64 (j : Int)] w fun e w' => e = .returned (.int .i64 (j : Int)) ∧ ∃ q, w' = w.drewN q := by
  have hjA : j < A.length := by rw [← hn]; exact hj
  rw [txt_at hjA] at hw
  obtain ⟨l0, l1, l2, l3⟩ := h.cells
  have HT := hid (hT.below h.below)
  clear hT h hn
  go_enter Tryz.func110, Tryz.ntmps110
  go_wp2_with (go_at_call 117; refine (word_in HT.out j hjA).mono ?_; rintro e w1 ⟨rfl, rfl⟩)
  go_ret
  exact ⟨rfl, 0, rfl⟩

set_option maxRecDepth 20000 in
set_option maxHeartbeats 2000000 in
/-- A node that is none. -/
theorem first_next {wb w : World} {B l t n go gf gu : Nat} {A : List (List Nat)} {wd : List Nat → Int} {O F U : Nat → Nat} (hT : TrieAt wb B t A wd) (h : LkAt wb w l t n go gf gu O F U) (hn : n = A.length) (j : Nat) (hj : j < n) (hw : wd (txt A j) = -1) :
    Calls Tryz.prog 110 #[.pointer (some ⟨l, 0, none⟩), .int .i64 (j : Int)] w fun e w' => e = .returned (.int .i64 (U j : Int)) ∧ ∃ q, w' = w.drewN q := by
  have hjA : j < A.length := by rw [← hn]; exact hj
  rw [txt_at hjA] at hw
  obtain ⟨l0, l1, l2, l3⟩ := h.cells
  have cu := h.ru.cell hj
  have HT := hid (hT.below h.below)
  have hx1 : decide ((0 : Int) ≤ (j : Int) ∧ (j : Int) < (n : Int)) = true := decide_eq_true ⟨by omega, by omega⟩
  clear hT h hn
  go_enter Tryz.func110, Tryz.ntmps110
  go_wp2_with (go_at_call 117; refine (word_in HT.out j hjA).mono ?_; rintro e w1 ⟨rfl, rfl⟩)
  go_ret
  exact ⟨rfl, 0, rfl⟩
end Go.Proofs.YtdplflcaanmmiaaGreat

namespace Go.Proofs.YtdplflcaanmmiaaGreat
open Go.ChangeShapes Go.WideShapes Go.ChangeAt Go.RowKit

theorem txt_inj {A : List (List Nat)} (h : Nodes A) {x y : Nat} (hx : x < A.length) (hy : y < A.length) (e : txt A x = txt A y) : x = y := by
  rw [txt_at hx, txt_at hy] at e
  have h1 := List.Nodup.idxOf_getElem h.once x hx
  have h2 := List.Nodup.idxOf_getElem h.once y hy
  rw [← h1, ← h2, e]

theorem reads_set {w : World} {g o n c p i : Nat} {v : Value} {cs : List Value} (h : Reads w (.slice (some ⟨g, o, none⟩) n c) cs) (hg : g ≠ p) : Reads (w.setCell ⟨p, i, none⟩ v) (.slice (some ⟨g, o, none⟩) n c) cs :=
  h.same (by simp [World.setCell]) (fun a n' c' e _ => by
    injection e with e1 e2 e3
    injection e1 with e1
    subst e1
    exact Below.heap_setCell w ⟨p, i, none⟩ v g (by exact hg))

/-- What is right stays so, and y becomes right. -/
theorem rt_upd {A P : List (List Nat)} {F U : Nat → Nat} {y z v : Nat} (hz : z = RF A y) (hv : v = RU A P y) (x : Nat) (h : x ≠ y → Rt A P F U x) : Rt A P (upd1 F y z) (upd1 U y v) x := by
  unfold Rt upd1
  by_cases hx : x = y
  · subst hx
    rw [if_pos rfl, if_pos rfl]
    exact ⟨hz, hv⟩
  · rw [if_neg hx, if_neg hx]
    exact h hx

theorem cell_set_far {w : World} {p o q r : Nat} {v : Value} (h : q ≠ p) : (w.setCell ⟨p, o, none⟩ v).cell? ⟨q, r, none⟩ = w.cell? ⟨q, r, none⟩ := by
  have hb := Below.heap_setCell w ⟨p, o, none⟩ v q (by exact h)
  exact World.cell?_of_block (a := ⟨q, r, none⟩) hb

set_option maxRecDepth 20000 in
set_option maxHeartbeats 4000000 in
theorem linkSons_any {wb w : World} {B l t n go gf gu : Nat} {A P : List (List Nat)} {wd : List Nat → Int} {O F U : Nat → Nat} (hT : TrieAt wb B t A wd) (h : LkAt wb w l t n go gf gu O F U) (hn : n = A.length) (hA : ∀ s c, s ++ [c] ∈ A → s ∈ A) (hP : ∀ s ∈ P, s ∈ A) (hw : ∀ x, wd x = -1 ↔ x ∉ P) (j : Nat) (hj : j < n) (hF : ∀ y, y < n → depN A y ≤ depN A j → Rt A P F U y) :
    Calls Tryz.prog 95 #[.pointer (some ⟨l, 0, none⟩), .int .i64 (j : Int)] w fun e w' => e = .returned (.tuple #[]) ∧ ∃ F' U', LkAt wb w' l t n go gf gu O F' U' ∧ (∀ y, y < n → Rt A P F U y → Rt A P F' U' y) ∧ (∀ y, y < n → (∃ c, txt A y = txt A j ++ [c]) → Rt A P F' U' y) := by
  have hjA : j < A.length := by rw [← hn]; exact hj
  have hnl : n ≤ 1000000 := by rw [hn]; exact hT.few
  have HT := hid hT
  have H := hid h
  have HF := hid hF
  have HN := hid hn
  have HA := hid hA
  have HP := hid hP
  have HW := hid hw
  obtain ⟨bl, hbl⟩ : ∃ bl, bl = byOf A (A[j]'hjA) := ⟨_, rfl⟩
  obtain ⟨m, hm⟩ : ∃ m, m = bl.length := ⟨_, rfl⟩
  have hm2 : m ≤ 256 := by rw [hm, hbl]; exact byOf_length A _
  have HBL := hid hbl
  have HM := hid hm
  obtain ⟨l0, l1, l2, l3⟩ := h.cells
  clear hT h hF hn hA hP hw hbl hm
  go_enter Tryz.func95, Tryz.ntmps95
  go_wp2_with (go_at_call 107; refine (sons_list (HT.out.below H.out.below) j hjA HBL.out HM.out).mono ?_; rintro e w2 ⟨a, cp, rfl, hrd, hown, hb2⟩; have HRD := hid hrd; have HOWN := hid hown; have HB2 := hid hb2; clear hrd hown hb2)
  have HL2 := hid (H.out.later HB2.out)
  have HNEW : Hid (∀ a' n' c', (Value.slice a m cp) = .slice (some a') n' c' → n' ≠ 0 → a'.block ≠ gf ∧ a'.block ≠ gu ∧ a'.block < w2.heap.size) := by
    intro a' n' c' e hn0
    obtain ⟨a2, cap2, e2, hor⟩ := HRD.out
    injection e with e3 e4 e5
    rw [octs_length] at e2 hor
    injection e2 with e6 e7 e8
    rcases hor with h0 | ⟨b, off, rfl, hlt, _⟩
    · omega
    · rw [e6] at e3
      injection e3 with e3
      subst e3
      have h1 := HOWN.out b (by rw [e6]; rfl)
      have h2 := H.out.rf.lt
      have h3 := H.out.ru.lt
      exact ⟨by show b ≠ gf; omega, by show b ≠ gu; omega, hlt⟩
  clear H l0 l1 l2 l3
  go_loopw [15] (fun vi wr => ∃ (k : Nat) (Fk Uk : Nat → Nat), vi = .int .i64 k ∧ k ≤ m ∧ Hid (LkAt wb wr l t n go gf gu O Fk Uk) ∧ Hid (Reads wr (.slice a m cp) (octs bl)) ∧ Hid (∀ y, y < n → Rt A P F U y → Rt A P Fk Uk y) ∧ Hid (∀ y, y < n → (∃ c ∈ bl.take k, txt A y = txt A j ++ [c]) → Rt A P Fk Uk y)) (fun vi _ => m - (intOf vi).toNat)
  case atStart => exact ⟨0, F, U, rfl, by omega, HL2.out, HRD.out, (fun y _ h => h), (fun y _ ⟨c, hc, _⟩ => by simp at hc)⟩
  case round =>
    clear HL2 HRD
    obtain ⟨k, Fk, Uk, rfl, hk, hL, hRd, hR1, hR2⟩ := hrel
    by_cases hlt : k < m
    · obtain ⟨g, o, rfl, hg, hcell⟩ := reads_byte hRd.out HM.out k hlt
      obtain ⟨c, hc⟩ : ∃ c, c = bl[k]'(by rw [← HM.out]; exact hlt) := ⟨_, rfl⟩
      rw [← hc] at hcell
      have hcm : c ∈ byOf A (A[j]'hjA) := by rw [← HBL.out, hc]; exact List.getElem_mem _
      obtain ⟨hc256, hmem⟩ := (byOf_mem A _ c).1 hcm
      obtain ⟨y, hy⟩ : ∃ y, y = A.idxOf (A[j]'hjA ++ [c]) := ⟨_, rfl⟩
      have hyA : y < A.length := by rw [hy]; exact idx_lt hmem
      have hyn : y < n := by rw [HN.out]; exact hyA
      have hty : txt A y = txt A j ++ [c] := by rw [hy, txt_idx hmem, txt_at hjA]
      have hgood : ∀ z, z < n → depN A z ≤ depN A j → Rt A P Fk Uk z := fun z hz hd => hR1.out z hz (HF.out z hz hd)
      obtain ⟨l0, l1, l2, l3⟩ := hL.out.cells
      obtain ⟨z, hz⟩ : ∃ z, z = RF A y := ⟨_, rfl⟩
      have hzA : z < A.length := by rw [hz]; exact RF_lt HT.out.nodes y
      have hzn : z < n := by rw [HN.out]; exact hzA
      have hend : A.idxOf (failT A (txt A j ++ [c])) = z := by rw [← hty, hz]; rfl
      have hdz : depN A z ≤ depN A j := by
        have h1 : (txt A z).length < (txt A y).length := by rw [hz, RF_txt HT.out.nodes]; exact failT_short A _ (by rw [hty]; simp)
        rw [hty] at h1
        simp only [List.length_append, List.length_singleton] at h1
        unfold depN
        unfold txt at h1
        omega
      have HC := hid hc
      have HTY := hid hty
      have HGOOD := hid hgood
      have HEND := hid hend
      have HZ := hid hz
      have HDZ := hid hdz
      have HY := hid hy
      have cf := hL.out.rf.cell hyn
      have ff := hL.out.rf.frozen y
      have hx1 : decide ((0 : Int) ≤ (k : Int) ∧ (k : Int) < (m : Int)) = true := decide_eq_true ⟨by omega, by omega⟩
      have hx2 : decide ((0 : Int) ≤ (y : Int) ∧ (y : Int) < (n : Int)) = true := decide_eq_true ⟨by omega, by omega⟩
      have hlf := hL.out.lf
      clear hc hty hgood hend hz hdz hcm hy
      go_wp2_with (go_at_call 108; refine (next_in (HT.out.below hL.out.below) j hjA c hc256 hmem).mono ?_; rintro e w3 ⟨rfl, q3, rfl⟩; rw [← HY.out])
      have HL3 := hid (hL.out.drewN q3)
      have HRd3 := hid (hRd.out.below (drewN_below wr q3 _))
      clear hL hRd l0 l1 l2 l3 cf ff hcell hg
      generalize wr.drewN q3 = w3 at HL3 HRd3 ⊢
      obtain ⟨l0, l1, l2, l3⟩ := HL3.out.cells
      have cf := HL3.out.rf.cell hyn
      have ff := HL3.out.rf.frozen y
      go_region_held_law (fun w' => w'.cell? ⟨l, 2, none⟩ = some (.slice (some ⟨gf, 0, none⟩) n n)) (first | go_keep | exact (cell_set_far hlf).trans ((HL3.out.drewN _).cells.2.2.1)) (first
        | (go_at_call 109; refine (longestEnd_any HT.out (HL3.out.drewN _) HN.out HA.out j hj c hc256 (fun z h1 h2 => (HGOOD.out z h1 h2).1)).mono ?_; rw [HEND.out]; rintro e w4 ⟨rfl, q4, rfl⟩))
      have hgne := HNEW.out ⟨g, o, none⟩ m cp rfl (by omega)
      have hg1 : g ≠ gf := hgne.1
      have hg2 : g ≠ gu := hgne.2.1
      clear hgne
      have HL4 := hid ((HL3.out.drewN (1 + q4)).setF y z)
      have HRd4 := hid (reads_set (p := gf) (i := y) (v := .int .i64 (z : Int)) (HRd3.out.below (drewN_below w3 (1 + q4) _)) hg1)
      clear HL3 HRd3 l0 l1 l2 l3 cf ff
      generalize (w3.drewN (1 + q4)).setCell ⟨gf, y, none⟩ (.int .i64 (z : Int)) = w4 at HL4 HRd4 ⊢
      obtain ⟨l0, l1, l2, l3⟩ := HL4.out.cells
      have cf := HL4.out.rf.cell hyn
      have cu := HL4.out.ru.cell hyn
      have fu := HL4.out.ru.frozen y
      have hup : upd1 Fk y z y = z := by unfold upd1; rw [if_pos rfl]
      rw [hup] at cf
      clear hup
      have hlu := HL4.out.lu
      have hfu := HL4.out.fu
      have hUz : Uk z = RU A P z := (HGOOD.out z hzn HDZ.out).2
      have hby := RU_by HT.out.nodes HP.out y (by rw [HTY.out]; simp)
      have htz : txt A z = failT A (txt A y) := by rw [HZ.out]; exact RF_txt HT.out.nodes y
      rw [← htz, ← HZ.out] at hby
      by_cases hin : txt A z ∈ P
      · rw [if_pos hin] at hby
        have hwz : wd (txt A z) ≠ -1 := fun e => (HW.out _).1 e hin
        have HBY := hid hby
        clear hby hUz htz
        go_wp2_with fail
        go_region_held_law (fun w' => w'.cell? ⟨l, 2, none⟩ = some (.slice (some ⟨gf, 0, none⟩) n n) ∧ w'.cell? ⟨l, 3, none⟩ = some (.slice (some ⟨gu, 0, none⟩) n n) ∧ w'.cell? ⟨gf, y, none⟩ = some (.int .i64 (z : Int))) (first | go_keep | exact ⟨(cell_set_far hlu).trans ((HL4.out.drewN _).cells.2.2.1), (cell_set_far hlu).trans ((HL4.out.drewN _).cells.2.2.2), (cell_set_far hfu).trans (by simpa using cf)⟩) (first
          | (go_at_call 110; refine (first_self HT.out (HL4.out.drewN _) HN.out z hzn hwz).mono ?_; rintro e w5 ⟨rfl, q5, rfl⟩))
        have HL5 := hid ((HL4.out.drewN (1 + q5)).setU y z)
        have HRd5 := hid (reads_set (p := gu) (i := y) (v := .int .i64 (z : Int)) (HRd4.out.below (drewN_below w4 (1 + q5) _)) hg2)
        clear HL4 HRd4 l0 l1 l2 l3 cf cu fu
        generalize (w4.drewN (1 + q5)).setCell ⟨gu, y, none⟩ (.int .i64 (z : Int)) = w5 at HL5 HRd5 ⊢
        go_wp2
        go_roundw
        case rel =>
          refine ⟨k + 1, _, _, by go_num, by omega, HL5.out, HRd5.out, fun x hx hr => rt_upd HZ.out HBY.out.symm x (fun _ => hR1.out x hx hr), fun x hx ⟨c', hc', ex⟩ => rt_upd HZ.out HBY.out.symm x (fun hne => ?_)⟩
          have hkb : k < bl.length := by rw [← HM.out]; exact hlt
          rw [List.take_succ_eq_append_getElem hkb, List.mem_append] at hc'
          rcases hc' with h1 | h1
          · exact hR2.out x hx ⟨c', h1, ex⟩
          · simp only [List.mem_singleton] at h1
            rw [← HC.out] at h1
            rw [h1] at ex
            exact absurd (txt_inj HT.out.nodes (by rw [← HN.out]; exact hx) hyA (ex.trans HTY.out.symm)) hne
        case measure => simp [intOf]; omega
      · rw [if_neg hin, ← hUz] at hby
        have hwz : wd (txt A z) = -1 := (HW.out _).2 hin
        have HBY := hid hby.symm
        clear hby hUz htz
        obtain ⟨V, hV⟩ : ∃ V, V = Uk z := ⟨_, rfl⟩
        have HVE := hid hV
        clear hV
        go_wp2_with fail
        go_region_held_law (fun w' => w'.cell? ⟨l, 2, none⟩ = some (.slice (some ⟨gf, 0, none⟩) n n) ∧ w'.cell? ⟨l, 3, none⟩ = some (.slice (some ⟨gu, 0, none⟩) n n) ∧ w'.cell? ⟨gf, y, none⟩ = some (.int .i64 (z : Int))) (first | go_keep | exact ⟨(cell_set_far hlu).trans ((HL4.out.drewN _).cells.2.2.1), (cell_set_far hlu).trans ((HL4.out.drewN _).cells.2.2.2), (cell_set_far hfu).trans (by simpa using cf)⟩) (first
          | (go_at_call 110; refine (first_next HT.out (HL4.out.drewN _) HN.out z hzn hwz).mono ?_; rw [← HVE.out]; rintro e w5 ⟨rfl, q5, rfl⟩))
        have HL5 := hid ((HL4.out.drewN (1 + q5)).setU y V)
        have HRd5 := hid (reads_set (p := gu) (i := y) (v := .int .i64 (V : Int)) (HRd4.out.below (drewN_below w4 (1 + q5) _)) hg2)
        clear HL4 HRd4 l0 l1 l2 l3 cf cu fu
        generalize (w4.drewN (1 + q5)).setCell ⟨gu, y, none⟩ (.int .i64 (V : Int)) = w5 at HL5 HRd5 ⊢
        go_wp2
        go_roundw
        case rel =>
          refine ⟨k + 1, _, _, by go_num, by omega, HL5.out, HRd5.out, fun x hx hr => rt_upd HZ.out (HVE.out.trans HBY.out) x (fun _ => hR1.out x hx hr), fun x hx ⟨c', hc', ex⟩ => rt_upd HZ.out (HVE.out.trans HBY.out) x (fun hne => ?_)⟩
          have hkb : k < bl.length := by rw [← HM.out]; exact hlt
          rw [List.take_succ_eq_append_getElem hkb, List.mem_append] at hc'
          rcases hc' with h1 | h1
          · exact hR2.out x hx ⟨c', h1, ex⟩
          · simp only [List.mem_singleton] at h1
            rw [← HC.out] at h1
            rw [h1] at ex
            exact absurd (txt_inj HT.out.nodes (by rw [← HN.out]; exact hx) hyA (ex.trans HTY.out.symm)) hne
        case measure => simp [intOf]; omega
    · obtain rfl : k = m := by omega
      go_wp2
      refine bodyPost_end (v := .tuple #[]) (by simp [results, Tryz.results95, go_sem]) rfl ⟨rfl, Fk, Uk, hL.out, hR1.out, fun x hx ⟨c, ex⟩ => hR2.out x hx ⟨c, ?_, ex⟩⟩
      rw [HM.out, List.take_length, HBL.out, byOf_mem]
      have hmem : txt A x ∈ A := txt_mem (by rw [← HN.out]; exact hx)
      have h2 := HT.out.bytes _ hmem c (by rw [ex]; simp)
      rw [ex, txt_at hjA] at hmem
      exact ⟨h2, hmem⟩
end Go.Proofs.YtdplflcaanmmiaaGreat

namespace Go.Proofs.YtdplflcaanmmiaaGreat
open Go.ChangeShapes Go.WideShapes Go.ChangeAt Go.RowKit

theorem below_alloc {B : Nat} {w w' : World} (h : Below B w w') (o : Obj) (hB : B ≤ w'.heap.size) : Below B w (w'.alloc o) := h.alloc hB o

theorem byDepth_from {w0 w : World} {B p n : Nat} {A : List (List Nat)} {wd : List Nat → Int} (h : TrieAt w0 B p A wd) (hn : n = A.length) (hb : Below w0.heap.size w0 w) :
    Calls Tryz.prog 93 #[.pointer (some ⟨p, 0, none⟩)] w fun e w' => ∃ g f, e = .returned (.slice (some ⟨g, 0, none⟩) n n) ∧ w0.heap.size ≤ g ∧ w'.rowIs g 3 n (fun i => .int .i64 (f i : Int)) ∧ Srt (depN A) f 0 A.length ∧ Same (fun k => k) f 0 A.length ∧ Below w0.heap.size w0 w' := by
  subst hn
  refine (byDepth_any (h.below hb)).mono ?_
  rintro e w' ⟨g, f, rfl, h1, h2, h3, h4, h5⟩
  exact ⟨g, f, rfl, Nat.le_trans hb.size h1, h2, h3, h4, hb.trans (h5.mono hb.size)⟩

theorem len_from {w0 w : World} {B p n : Nat} {A : List (List Nat)} {wd : List Nat → Int} (h : TrieAt w0 B p A wd) (hn : n = A.length) (hb : Below w0.heap.size w0 w) :
    Calls Tryz.prog 94 #[.pointer (some ⟨p, 0, none⟩)] w fun e w' => e = .returned (.int .i64 (n : Int)) ∧ w' = w := by
  subst hn
  exact len_trie (h.below hb)

/-- A node that is not the root has a father. -/
theorem father_at {A : List (List Nat)} (h : Nodes A) {y : Nat} (hy : y < A.length) (h0 : y ≠ 0) : ∃ f c, f < A.length ∧ txt A y = txt A f ++ [c] := by
  have hne : txt A y ≠ [] := fun e => h0 (txt_nil h hy e)
  have hg : A[y]? = some (txt A y) := by rw [txt_at hy]; exact List.getElem?_eq_getElem hy
  obtain ⟨f, hf, ef⟩ := h.father y _ hg hne
  have hfA := (List.getElem?_eq_some_iff.1 ef).1
  refine ⟨f, (txt A y).getLast hne, hfA, ?_⟩
  have e2 : txt A f = (txt A y).dropLast := by
    rw [txt_at hfA]
    exact (List.getElem?_eq_some_iff.1 ef).2
  rw [e2]
  exact (List.dropLast_concat_getLast hne).symm

/-- In the order a father stands ahead of all that are deeper. -/
theorem order_ahead {A : List (List Nat)} {O : Nat → Nat} (hA : A.length ≤ 1000000) (hs : Srt (depN A) O 0 A.length) (hS : Same (fun k => k) O 0 A.length) {f i : Nat} (hf : f < A.length) (hi : i < A.length) (hd : depN A f < depN A (O i)) : ∃ k, k < i ∧ O k = f := by
  obtain ⟨k, _, hk, e⟩ := hS.forth f (Nat.zero_le _) hf
  refine ⟨k, ?_, e.symm⟩
  rcases Nat.lt_or_ge k i with h1 | h1
  · exact h1
  · exfalso
    have e2 : O k = f := e.symm
    have hOi : O i < A.length := by
      obtain ⟨k', _, h2, e3⟩ := hS.back i (Nat.zero_le _) hi
      rw [e3]; exact h2
    rcases Nat.eq_or_lt_of_le h1 with h2 | h2
    · subst h2; rw [e2] at hd; omega
    · have h3 := hs i k (Nat.zero_le _) h2 hk
      rw [e2] at h3
      unfold rk at h3
      omega

/-- What is right by the order, up to place i. -/
def RtTo (A P : List (List Nat)) (O F U : Nat → Nat) (i : Nat) : Prop := ∀ y, y < A.length → (y = 0 ∨ ∃ k, k < i ∧ ∃ c, txt A y = txt A (O k) ++ [c]) → Rt A P F U y

theorem RtTo.deep {A P : List (List Nat)} {O F U : Nat → Nat} {i : Nat} (h : RtTo A P O F U i) (hN : Nodes A) (hA : A.length ≤ 1000000) (hs : Srt (depN A) O 0 A.length) (hS : Same (fun k => k) O 0 A.length) (hi : i < A.length) : ∀ y, y < A.length → depN A y ≤ depN A (O i) → Rt A P F U y := by
  intro y hy hd
  by_cases h0 : y = 0
  · exact h y hy (.inl h0)
  · obtain ⟨f, c, hf, e⟩ := father_at hN hy h0
    have hdf : depN A f < depN A (O i) := by
      have h1 : (txt A y).length = (txt A f).length + 1 := by rw [e]; simp
      unfold depN at *
      unfold txt at h1
      omega
    obtain ⟨k, hk, e2⟩ := order_ahead hA hs hS hf hi hdf
    exact h y hy (.inr ⟨k, hk, c, by rw [e2]; exact e⟩)

theorem RtTo.all {A P : List (List Nat)} {O F U : Nat → Nat} (h : RtTo A P O F U A.length) (hN : Nodes A) (hS : Same (fun k => k) O 0 A.length) : ∀ y, y < A.length → Rt A P F U y := by
  intro y hy
  by_cases h0 : y = 0
  · exact h y hy (.inl h0)
  · obtain ⟨f, c, hf, e⟩ := father_at hN hy h0
    obtain ⟨k, _, hk, e2⟩ := hS.forth f (Nat.zero_le _) hf
    exact h y hy (.inr ⟨k, hk, c, by rw [← e2]; exact e⟩)

/-- Three new blocks behind w6: the two rows, and what holds them. -/
theorem lk_new {w w6 : World} {p n go gf gu : Nat} {O : Nat → Nat} (hb : Below w.heap.size w w6) (ho : w6.rowIs go 3 n (fun i => .int .i64 (O i : Int))) (hog : w.heap.size ≤ go) (hc : (gf = w6.heap.size ∧ gu = w6.heap.size + 1) ∨ (gf = w6.heap.size + 1 ∧ gu = w6.heap.size)) :
    LkAt w (((w6.alloc (.cells (madeCells #[.int .i64 0] n) 3)).alloc (.cells (madeCells #[.int .i64 0] n) 3)).alloc (.cells #[.pointer (some ⟨p, 0, none⟩), .slice (some ⟨go, 0, none⟩) n n, .slice (some ⟨gf, 0, none⟩) n n, .slice (some ⟨gu, 0, none⟩) n n] 138)) (w6.heap.size + 1 + 1) p n go gf gu O (fun _ => 0) (fun _ => 0) := by
  have hs := hb.size
  have hlt := ho.lt
  have r1 := ((World.rowIs_made w6 (.int .i64 0) n 3).alloc (.cells (madeCells #[.int .i64 0] n) 3)).alloc (.cells #[.pointer (some ⟨p, 0, none⟩), .slice (some ⟨go, 0, none⟩) n n, .slice (some ⟨gf, 0, none⟩) n n, .slice (some ⟨gu, 0, none⟩) n n] 138)
  have r2 := (World.rowIs_made (w6.alloc (.cells (madeCells #[.int .i64 0] n) 3)) (.int .i64 0) n 3).alloc (.cells #[.pointer (some ⟨p, 0, none⟩), .slice (some ⟨go, 0, none⟩) n n, .slice (some ⟨gf, 0, none⟩) n n, .slice (some ⟨gu, 0, none⟩) n n] 138)
  have e1 : (w6.alloc (.cells (madeCells #[.int .i64 0] n) 3)).heap.size = w6.heap.size + 1 := by simp
  rw [e1] at r2
  refine { below := ((hb.alloc hs _).alloc (by simp; omega) _).alloc (by simp; omega) _, ptr := ?_, ro := ((ho.alloc _).alloc _).alloc _, rf := ?_, ru := ?_, lB := by omega, fB := by omega, uB := by omega, oB := hog, lf := by omega, lu := by omega, of' := by omega, ou := by omega, fu := by omega }
  · have h1 := heap_alloc_new ((w6.alloc (.cells (madeCells #[.int .i64 0] n) 3)).alloc (.cells (madeCells #[.int .i64 0] n) 3)) (.cells #[.pointer (some ⟨p, 0, none⟩), .slice (some ⟨go, 0, none⟩) n n, .slice (some ⟨gf, 0, none⟩) n n, .slice (some ⟨gu, 0, none⟩) n n] 138)
    simpa using h1
  · rcases hc with ⟨h1, h2⟩ | ⟨h1, h2⟩
    · rw [h1]; rw [h1] at r1; exact r1
    · rw [h1]; rw [h1] at r2; exact r2
  · rcases hc with ⟨h1, h2⟩ | ⟨h1, h2⟩
    · rw [h2]; rw [h2] at r2; exact r2
    · rw [h2]; rw [h2] at r1; exact r1

set_option maxRecDepth 20000 in
set_option maxHeartbeats 8000000 in
theorem links_new {w : World} {B p : Nat} {A P : List (List Nat)} {wd : List Nat → Int} (h : TrieAt w B p A wd) (hA : ∀ s c, s ++ [c] ∈ A → s ∈ A) (hP : ∀ s ∈ P, s ∈ A) (hw : ∀ x, wd x = -1 ↔ x ∉ P) :
    Calls Tryz.prog 82 #[.pointer (some ⟨p, 0, none⟩)] w fun e w' => ∃ l go gf gu O F U, e = .returned (.pointer (some ⟨l, 0, none⟩)) ∧ LkAt w w' l p A.length go gf gu O F U ∧ Srt (depN A) O 0 A.length ∧ Same (fun k => k) O 0 A.length ∧ ∀ y, y < A.length → Rt A P F U y := by
  have hn := h.few
  have hpos := h.nodes.pos
  have H := hid h
  have HA := hid hA
  have HP := hid hP
  have HW := hid hw
  clear h hA hP hw
  obtain ⟨n, hnA⟩ : ∃ n, n = A.length := ⟨_, rfl⟩
  rw [← hnA] at hn hpos
  have HN := hid hnA
  clear hnA
  have hmk := run_make_row' (P := Tryz.prog) 27 3 (.int .i64 0) 8 Tryz.underlying27 Tryz.infoI rfl .i64 .i64 n (by omega) (by omega)
  have hb0 : Below w.heap.size w w := Below.refl _ _
  go_enter Tryz.func82, Tryz.ntmps82
  go_wp2_with fail
  go_region_held_law (fun w' => Below w.heap.size w w') (repeat (first | assumption | refine Below.drew ?_ | refine below_alloc ?_ _ (Below.size (by assumption)))) (first
    | (go_at_call 93; refine (byDepth_from H.out HN.out (by assumption)).mono ?_; rintro e w5 ⟨g, f, rfl, h1, h2, h3, h4, h5⟩; have HG1 := hid h1; have HG2 := hid h2; have HG3 := hid h3; have HG4 := hid h4; clear h1 h2 h3 h4)
    | (go_at_call 94; refine (len_from H.out HN.out (by assumption)).mono ?_; rintro e w6 ⟨rfl, rfl⟩))
  all_goals (first
    | (obtain ⟨w8, hW8⟩ : ∃ w8, (((w6.alloc (.cells (madeCells #[.int .i64 0] n) 3)).alloc (.cells (madeCells #[.int .i64 0] n) 3)).alloc (.cells #[.pointer (some ⟨p, 0, none⟩), .slice (some ⟨g, 0, none⟩) n n, .slice (some ⟨w6.heap.size, 0, none⟩) n n, .slice (some ⟨w6.heap.size + 1, 0, none⟩) n n] 138)) = w8 := ⟨_, rfl⟩; rw [hW8]; have HL0 := hid (lk_new (p := p) (gf := w6.heap.size) (gu := w6.heap.size + 1) h5 HG2.out HG1.out (.inl ⟨rfl, rfl⟩)); rw [hW8] at HL0; generalize hgl : w6.heap.size + 1 + 1 = l at HL0 ⊢; generalize hg1 : w6.heap.size + 1 = gu at HL0 ⊢; generalize hg0 : w6.heap.size = gf at HL0 ⊢)
    | (obtain ⟨w8, hW8⟩ : ∃ w8, (((w6.alloc (.cells (madeCells #[.int .i64 0] n) 3)).alloc (.cells (madeCells #[.int .i64 0] n) 3)).alloc (.cells #[.pointer (some ⟨p, 0, none⟩), .slice (some ⟨g, 0, none⟩) n n, .slice (some ⟨w6.heap.size + 1, 0, none⟩) n n, .slice (some ⟨w6.heap.size, 0, none⟩) n n] 138)) = w8 := ⟨_, rfl⟩; rw [hW8]; have HL0 := hid (lk_new (p := p) (gf := w6.heap.size + 1) (gu := w6.heap.size) h5 HG2.out HG1.out (.inr ⟨rfl, rfl⟩)); rw [hW8] at HL0; generalize hgl : w6.heap.size + 1 + 1 = l at HL0 ⊢; generalize hg1 : w6.heap.size + 1 = gf at HL0 ⊢; generalize hg0 : w6.heap.size = gu at HL0 ⊢))
  all_goals clear hW8 hgl hg1 hg0 hmk HG2 hb0
  all_goals obtain ⟨l0, l1, l2, l3⟩ := HL0.out.cells
  all_goals go_wp2
  all_goals (
    go_loopw [24] (fun vi wr => ∃ (i : Nat) (F U : Nat → Nat), vi = .int .i64 i ∧ i ≤ n ∧ Hid (LkAt w wr l p n g gf gu f F U) ∧ Hid (RtTo A P f F U i)) (fun vi _ => n - (intOf vi).toNat)
    case atStart =>
      refine ⟨0, _, _, rfl, by omega, HL0.out, fun y hy h => ?_⟩
      rcases h with rfl | ⟨k, hk, _⟩
      · exact ⟨(RF_zero H.out.nodes).symm, (RU_zero H.out.nodes P).symm⟩
      · omega
    case round =>
      clear HL0 l0 l1 l2 l3
      obtain ⟨i, F, U, rfl, hi, hL, hR⟩ := hrel
      by_cases hlt : i < n
      · have ci := hL.out.ro.cell hlt
        obtain ⟨j, hj⟩ : ∃ j, j = f i := ⟨_, rfl⟩
        rw [← hj] at ci
        have hiA : i < A.length := by rw [← HN.out]; exact hlt
        have hjn : j < n := by
          obtain ⟨k', _, h2, e3⟩ := HG4.out.back i (Nat.zero_le _) hiA
          rw [hj, e3, HN.out]; exact h2
        have hx1 : decide ((0 : Int) ≤ (i : Int) ∧ (i : Int) < (n : Int)) = true := decide_eq_true ⟨by omega, by omega⟩
        have HD := hid (hR.out.deep H.out.nodes (by rw [← HN.out]; exact hn) HG3.out HG4.out hiA)
        have HJ := hid hj
        clear hj
        go_wp2_with (go_at_call 95; refine (linkSons_any H.out hL.out HN.out HA.out HP.out HW.out j hjn (fun y h1 h2 => HD.out y (by rw [← HN.out]; exact h1) (by rw [← HJ.out]; exact h2))).mono ?_; rintro e w5 ⟨rfl, F2, U2, hL2, hr1, hr2⟩; have HL2 := hid hL2; have HR1 := hid hr1; have HR2 := hid hr2; clear hL2 hr1 hr2)
        go_roundw
        case rel =>
          refine ⟨i + 1, F2, U2, by go_num, by omega, HL2.out, fun y hy h => ?_⟩
          have hyn : y < n := by rw [HN.out]; exact hy
          rcases h with h0 | ⟨k, hk, c, e⟩
          · exact HR1.out y hyn (hR.out y hy (.inl h0))
          · rcases Nat.lt_or_ge k i with h2 | h2
            · exact HR1.out y hyn (hR.out y hy (.inr ⟨k, h2, c, e⟩))
            · have e2 : k = i := by omega
              rw [e2, ← HJ.out] at e
              exact HR2.out y hyn ⟨c, e⟩
        case measure => simp [intOf]; omega
      · have HALL : Hid (∀ y, y < A.length → Rt A P F U y) := by
          have h1 := hR.out
          have h2 := HN.out
          rw [show i = A.length by omega] at h1
          exact h1.all H.out.nodes HG4.out
        have HL3 : Hid (LkAt w wr l p A.length g gf gu f F U) := by have h1 := hL.out; rw [HN.out] at h1; exact h1
        go_wp2
        go_ret
        exact ⟨l, g, gf, gu, f, F, U, rfl, HL3.out, HG3.out, HG4.out, HALL.out⟩)
end Go.Proofs.YtdplflcaanmmiaaGreat

namespace Go.Proofs.YtdplflcaanmmiaaGreat
open Go.ChangeShapes Go.WideShapes Go.ChangeAt Go.RowKit

/-- The links at block l, of the tree at t, are right. -/
def LinksAt (w : World) (l t : Nat) (A P : List (List Nat)) (wd : List Nat → Int) : Prop :=
  ∃ wb B go gf gu O F U, TrieAt wb B t A wd ∧ LkAt wb w l t A.length go gf gu O F U ∧ Srt (depN A) O 0 A.length ∧ Same (fun k => k) O 0 A.length ∧ ∀ y, y < A.length → Rt A P F U y

theorem LinksAt.later {w w' : World} {l t : Nat} {A P : List (List Nat)} {wd : List Nat → Int} (h : LinksAt w l t A P wd) (hb : Below w.heap.size w w') : LinksAt w' l t A P wd := by
  obtain ⟨wb, B, go, gf, gu, O, F, U, h1, h2, h3⟩ := h
  exact ⟨wb, B, go, gf, gu, O, F, U, h1, h2.later hb, h3⟩

theorem LinksAt.trie {w : World} {l t : Nat} {A P : List (List Nat)} {wd : List Nat → Int} (h : LinksAt w l t A P wd) : ∃ B, TrieAt w B t A wd := by
  obtain ⟨wb, B, go, gf, gu, O, F, U, h1, h2, h3⟩ := h
  exact ⟨B, h1.below h2.below⟩

theorem hasL_in {wb w : World} {l t n go gf gu : Nat} {O F U : Nat → Nat} (h : LkAt wb w l t n go gf gu O F U) (j : Nat) (hj : j < n) :
    Calls Tryz.prog 127 #[.pointer (some ⟨l, 0, none⟩), .int .i64 (j : Int)] w fun e w' => e = .returned (.bool true) ∧ ∃ q, w' = w.drewN q := by
  obtain ⟨l0, l1, l2, l3⟩ := h.cells
  have hd : decide ((j : Int) < (n : Int)) = true := decide_eq_true (by omega)
  go_enter Tryz.func127, Tryz.ntmps127
  go_wp2
  go_ret
  exact ⟨rfl, 0, rfl⟩

theorem hasL_out {wb w : World} {l t n go gf gu : Nat} {O F U : Nat → Nat} (h : LkAt wb w l t n go gf gu O F U) (i : Int) (hi : i < 0 ∨ (n : Int) ≤ i) :
    Calls Tryz.prog 127 #[.pointer (some ⟨l, 0, none⟩), .int .i64 i] w fun e w' => e = .returned (.bool false) ∧ ∃ q, w' = w.drewN q := by
  obtain ⟨l0, l1, l2, l3⟩ := h.cells
  by_cases h0 : i < 0
  · go_enter Tryz.func127, Tryz.ntmps127
    go_wp2
    all_goals go_ret
    all_goals exact ⟨by simp, 0, rfl⟩
  · have hd : decide (i < (n : Int)) = false := decide_eq_false (by omega)
    go_enter Tryz.func127, Tryz.ntmps127
    go_wp2
    go_ret
    exact ⟨rfl, 0, rfl⟩

theorem hasL_none (w : World) (i : Int) : Calls Tryz.prog 127 #[.pointer none, .int .i64 i] w fun e w' => e = .returned (.bool false) ∧ ∃ q, w' = w.drewN q := by
  go_enter Tryz.func127, Tryz.ntmps127
  go_wp2
  all_goals go_ret
  all_goals exact ⟨by simp, 0, rfl⟩

theorem fail_in {w : World} {l t : Nat} {A P : List (List Nat)} {wd : List Nat → Int} (h : LinksAt w l t A P wd) (j : Nat) (hj : j < A.length) :
    Calls Tryz.prog 116 #[.pointer (some ⟨l, 0, none⟩), .int .i64 (j : Int)] w fun e w' => e = .returned (.int .i64 (RF A j : Int)) ∧ ∃ q, w' = w.drewN q := by
  obtain ⟨wb, B, go, gf, gu, O, F, U, h1, h2, h3, h4, h5⟩ := h
  obtain ⟨l0, l1, l2, l3⟩ := h2.cells
  have cf := h2.rf.cell hj
  rw [(h5 j hj).1] at cf
  have H := hid h2
  have hx : decide ((0 : Int) ≤ (j : Int) ∧ (j : Int) < (A.length : Int)) = true := decide_eq_true ⟨by omega, by omega⟩
  clear h1 h2 h3 h4 h5
  go_enter Tryz.func116, Tryz.ntmps116
  go_wp2_with (go_at_call 127; refine (hasL_in H.out j hj).mono ?_; rintro e w1 ⟨rfl, q, rfl⟩)
  go_ret
  exact ⟨rfl, _, rfl⟩

theorem fail_out {w : World} {l t : Nat} {A P : List (List Nat)} {wd : List Nat → Int} (h : LinksAt w l t A P wd) (i : Int) (hi : i < 0 ∨ (A.length : Int) ≤ i) :
    Calls Tryz.prog 116 #[.pointer (some ⟨l, 0, none⟩), .int .i64 i] w fun e w' => e = .returned (.int .i64 0) ∧ ∃ q, w' = w.drewN q := by
  obtain ⟨wb, B, go, gf, gu, O, F, U, h1, h2, h3, h4, h5⟩ := h
  have H := hid h2
  clear h1 h2 h3 h4 h5
  go_enter Tryz.func116, Tryz.ntmps116
  go_wp2_with (go_at_call 127; refine (hasL_out H.out i hi).mono ?_; rintro e w1 ⟨rfl, q, rfl⟩)
  go_ret
  exact ⟨rfl, _, rfl⟩

theorem fail_none (w : World) (i : Int) : Calls Tryz.prog 116 #[.pointer none, .int .i64 i] w fun e w' => e = .returned (.int .i64 0) ∧ ∃ q, w' = w.drewN q := by
  go_enter Tryz.func116, Tryz.ntmps116
  go_wp2_with (go_at_call 127; refine (hasL_none _ i).mono ?_; rintro e w1 ⟨rfl, q, rfl⟩)
  go_ret
  exact ⟨rfl, _, rfl⟩

theorem out_in {w : World} {l t : Nat} {A P : List (List Nat)} {wd : List Nat → Int} (h : LinksAt w l t A P wd) (j : Nat) (hj : j < A.length) :
    Calls Tryz.prog 118 #[.pointer (some ⟨l, 0, none⟩), .int .i64 (j : Int)] w fun e w' => e = .returned (.int .i64 (RU A P j : Int)) ∧ ∃ q, w' = w.drewN q := by
  obtain ⟨wb, B, go, gf, gu, O, F, U, h1, h2, h3, h4, h5⟩ := h
  obtain ⟨l0, l1, l2, l3⟩ := h2.cells
  have cf := h2.ru.cell hj
  rw [(h5 j hj).2] at cf
  have H := hid h2
  have hx : decide ((0 : Int) ≤ (j : Int) ∧ (j : Int) < (A.length : Int)) = true := decide_eq_true ⟨by omega, by omega⟩
  clear h1 h2 h3 h4 h5
  go_enter Tryz.func118, Tryz.ntmps118
  go_wp2_with (go_at_call 127; refine (hasL_in H.out j hj).mono ?_; rintro e w1 ⟨rfl, q, rfl⟩)
  go_ret
  exact ⟨rfl, _, rfl⟩

theorem out_out {w : World} {l t : Nat} {A P : List (List Nat)} {wd : List Nat → Int} (h : LinksAt w l t A P wd) (i : Int) (hi : i < 0 ∨ (A.length : Int) ≤ i) :
    Calls Tryz.prog 118 #[.pointer (some ⟨l, 0, none⟩), .int .i64 i] w fun e w' => e = .returned (.int .i64 0) ∧ ∃ q, w' = w.drewN q := by
  obtain ⟨wb, B, go, gf, gu, O, F, U, h1, h2, h3, h4, h5⟩ := h
  have H := hid h2
  clear h1 h2 h3 h4 h5
  go_enter Tryz.func118, Tryz.ntmps118
  go_wp2_with (go_at_call 127; refine (hasL_out H.out i hi).mono ?_; rintro e w1 ⟨rfl, q, rfl⟩)
  go_ret
  exact ⟨rfl, _, rfl⟩

theorem out_none (w : World) (i : Int) : Calls Tryz.prog 118 #[.pointer none, .int .i64 i] w fun e w' => e = .returned (.int .i64 0) ∧ ∃ q, w' = w.drewN q := by
  go_enter Tryz.func118, Tryz.ntmps118
  go_wp2_with (go_at_call 127; refine (hasL_none _ i).mono ?_; rintro e w1 ⟨rfl, q, rfl⟩)
  go_ret
  exact ⟨rfl, _, rfl⟩

theorem trieL_in {w : World} {l t : Nat} {A P : List (List Nat)} {wd : List Nat → Int} (h : LinksAt w l t A P wd) :
    Calls Tryz.prog 115 #[.pointer (some ⟨l, 0, none⟩)] w fun e w' => e = .returned (.pointer (some ⟨t, 0, none⟩)) ∧ w' = w := by
  obtain ⟨wb, B, go, gf, gu, O, F, U, h1, h2, h3, h4, h5⟩ := h
  obtain ⟨l0, l1, l2, l3⟩ := h2.cells
  clear h1 h2 h3 h4 h5
  go_enter Tryz.func115, Tryz.ntmps115
  go_wp2
  go_ret
  exact ⟨rfl, rfl⟩

theorem trieL_none (w : World) : Calls Tryz.prog 115 #[.pointer none] w fun e w' => e = .returned (.pointer none) ∧ w' = w := by
  go_enter Tryz.func115, Tryz.ntmps115
  go_wp2
  go_ret
  exact ⟨rfl, rfl⟩

theorem newL_none (w : World) : Calls Tryz.prog 82 #[.pointer none] w fun e w' => e = .returned (.pointer none) ∧ w' = w := by
  go_enter Tryz.func82, Tryz.ntmps82
  go_wp2
  go_ret
  exact ⟨rfl, rfl⟩

@[go_sem] theorem nilI_some (ad : Addr) (n c : Nat) (w : World) : (binOp .eql 27 (.slice (some ad) n c) (.slice none 0 0)).run Tryz.prog w = .ok (.bool false) w := by kernel_rfl

theorem rowIs_reads {w : World} {g n : Nat} {O : Nat → Nat} (h : w.rowIs g 3 n (fun i => .int .i64 (O i : Int))) : Reads w (.slice (some ⟨g, 0, none⟩) n n) (numsI ((List.range n).map O)) := by
  have hl : (numsI ((List.range n).map O)).length = n := by rw [numsI_length]; simp
  refine ⟨_, n, by rw [hl], .inr ⟨g, 0, rfl, h.lt, fun i hi => ?_⟩⟩
  rw [hl] at hi
  rw [Nat.zero_add, h.cell hi, numsI]
  simp [hi]

/-- The links of phrases L. -/
def LinksOf (w : World) (l t : Nat) (L : List ByteArray) : Prop := LinksAt w l t (nodesN (L.map nums)) (L.map nums) (wordOf (L.map nums))

theorem wordOf_none (P : List (List Nat)) (x : List Nat) : wordOf P x = -1 ↔ x ∉ P := by
  unfold wordOf
  by_cases h : x ∈ P
  · rw [if_pos h]
    exact ⟨fun e => by omega, fun e => absurd h e⟩
  · rw [if_neg h]
    exact ⟨fun _ => h, fun _ => rfl⟩

theorem nodes_father {A : List (List Nat)} (h : Nodes A) : ∀ s c, s ++ [c] ∈ A → s ∈ A := by
  intro s c hm
  obtain ⟨i, hi⟩ := List.getElem?_of_mem hm
  obtain ⟨j, _, e⟩ := h.father i _ hi (by simp)
  rw [List.dropLast_concat] at e
  exact List.mem_of_getElem? e

end Go.Proofs.YtdplflcaanmmiaaGreat
