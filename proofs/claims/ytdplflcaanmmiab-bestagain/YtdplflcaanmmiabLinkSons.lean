/-
  linkSons: the links of a node's sons.
-/
import Derived.Test.YtdplflcaanmmiabLinks1
import Derived.Test.YtdplflcaanmmiabSonsL
import Derived.Deep.RegionHeldLaw
namespace Go.Proofs.Ytdplflcaanmmiab
open Go.ChangeShapes Go.WideShapes Go.ChangeAt Go.RowKit

theorem txt_inj {A : List (List Nat)} (h : Nodes A) {x y : Nat} (hx : x < A.length) (hy : y < A.length) (e : txt A x = txt A y) : x = y := by
  rw [txt_at hx, txt_at hy] at e
  have h1 := List.Nodup.idxOf_getElem h.once x hx
  have h2 := List.Nodup.idxOf_getElem h.once y hy
  rw [← h1, ← h2, e]

theorem reads_set {w : World} {g o n c p i : Nat} {v : Value} {cs : List Value} (h : Reads w (.slice (some ⟨g, o, none⟩) n c) cs) (hg : g ≠ p) : Reads (w.setCell ⟨p, i, none⟩ v) (.slice (some ⟨g, o, none⟩) n c) cs :=
  h.same (by simp [World.setCell]) (fun a n' c' e _ => by
    injection e with e1 e2 e3
    injection e1 with e1
    subst e1
    exact Below.heap_setCell w ⟨p, i, none⟩ v g (by exact hg))

/-- What is right stays so, and y becomes right. -/
theorem rt_upd {A P : List (List Nat)} {F U : Nat → Nat} {y z v : Nat} (hz : z = RF A y) (hv : v = RU A P y) (x : Nat) (h : x ≠ y → Rt A P F U x) : Rt A P (upd1 F y z) (upd1 U y v) x := by
  unfold Rt upd1
  by_cases hx : x = y
  · subst hx
    rw [if_pos rfl, if_pos rfl]
    exact ⟨hz, hv⟩
  · rw [if_neg hx, if_neg hx]
    exact h hx

theorem cell_set_far {w : World} {p o q r : Nat} {v : Value} (h : q ≠ p) : (w.setCell ⟨p, o, none⟩ v).cell? ⟨q, r, none⟩ = w.cell? ⟨q, r, none⟩ := by
  have hb := Below.heap_setCell w ⟨p, o, none⟩ v q (by exact h)
  exact World.cell?_of_block (a := ⟨q, r, none⟩) hb

set_option maxRecDepth 20000 in
set_option maxHeartbeats 4000000 in
theorem linkSons_any {wb w : World} {B l t n go gf gu : Nat} {A P : List (List Nat)} {wd : List Nat → Int} {O F U : Nat → Nat} (hT : TrieAt wb B t A wd) (h : LkAt wb w l t n go gf gu O F U) (hn : n = A.length) (hA : ∀ s c, s ++ [c] ∈ A → s ∈ A) (hP : ∀ s ∈ P, s ∈ A) (hw : ∀ x, wd x = -1 ↔ x ∉ P) (j : Nat) (hj : j < n) (hF : ∀ y, y < n → depN A y ≤ depN A j → Rt A P F U y) :
    Calls Try.prog 43 #[.pointer (some ⟨l, 0, none⟩), .int .i64 (j : Int)] w fun e w' => e = .returned (.tuple #[]) ∧ ∃ F' U', LkAt wb w' l t n go gf gu O F' U' ∧ (∀ y, y < n → Rt A P F U y → Rt A P F' U' y) ∧ (∀ y, y < n → (∃ c, txt A y = txt A j ++ [c]) → Rt A P F' U' y) := by
  have hjA : j < A.length := by rw [← hn]; exact hj
  have hnl : n ≤ 1000000 := by rw [hn]; exact hT.few
  have HT := hid hT
  have H := hid h
  have HF := hid hF
  have HN := hid hn
  have HA := hid hA
  have HP := hid hP
  have HW := hid hw
  obtain ⟨bl, hbl⟩ : ∃ bl, bl = byOf A (A[j]'hjA) := ⟨_, rfl⟩
  obtain ⟨m, hm⟩ : ∃ m, m = bl.length := ⟨_, rfl⟩
  have hm2 : m ≤ 256 := by rw [hm, hbl]; exact byOf_length A _
  have HBL := hid hbl
  have HM := hid hm
  obtain ⟨l0, l1, l2, l3⟩ := h.cells
  clear hT h hF hn hA hP hw hbl hm
  go_enter Try.func43, Try.ntmps43
  go_wp2_with (go_at_call 56; refine (sons_list (HT.out.below H.out.below) j hjA HBL.out HM.out).mono ?_; rintro e w2 ⟨a, cp, rfl, hrd, hown, hb2⟩; have HRD := hid hrd; have HOWN := hid hown; have HB2 := hid hb2; clear hrd hown hb2)
  have HL2 := hid (H.out.later HB2.out)
  have HNEW : Hid (∀ a' n' c', (Value.slice a m cp) = .slice (some a') n' c' → n' ≠ 0 → a'.block ≠ gf ∧ a'.block ≠ gu ∧ a'.block < w2.heap.size) := by
    intro a' n' c' e hn0
    obtain ⟨a2, cap2, e2, hor⟩ := HRD.out
    injection e with e3 e4 e5
    rw [octs_length] at e2 hor
    injection e2 with e6 e7 e8
    rcases hor with h0 | ⟨b, off, rfl, hlt, _⟩
    · omega
    · rw [e6] at e3
      injection e3 with e3
      subst e3
      have h1 := HOWN.out b (by rw [e6]; rfl)
      have h2 := H.out.rf.lt
      have h3 := H.out.ru.lt
      exact ⟨by show b ≠ gf; omega, by show b ≠ gu; omega, hlt⟩
  clear H l0 l1 l2 l3
  go_loopw [15] (fun vi wr => ∃ (k : Nat) (Fk Uk : Nat → Nat), vi = .int .i64 k ∧ k ≤ m ∧ Hid (LkAt wb wr l t n go gf gu O Fk Uk) ∧ Hid (Reads wr (.slice a m cp) (octs bl)) ∧ Hid (∀ y, y < n → Rt A P F U y → Rt A P Fk Uk y) ∧ Hid (∀ y, y < n → (∃ c ∈ bl.take k, txt A y = txt A j ++ [c]) → Rt A P Fk Uk y)) (fun vi _ => m - (intOf vi).toNat)
  case atStart => exact ⟨0, F, U, rfl, by omega, HL2.out, HRD.out, (fun y _ h => h), (fun y _ ⟨c, hc, _⟩ => by simp at hc)⟩
  case round =>
    clear HL2 HRD
    obtain ⟨k, Fk, Uk, rfl, hk, hL, hRd, hR1, hR2⟩ := hrel
    by_cases hlt : k < m
    · obtain ⟨g, o, rfl, hg, hcell⟩ := reads_byte hRd.out HM.out k hlt
      obtain ⟨c, hc⟩ : ∃ c, c = bl[k]'(by rw [← HM.out]; exact hlt) := ⟨_, rfl⟩
      rw [← hc] at hcell
      have hcm : c ∈ byOf A (A[j]'hjA) := by rw [← HBL.out, hc]; exact List.getElem_mem _
      obtain ⟨hc256, hmem⟩ := (byOf_mem A _ c).1 hcm
      obtain ⟨y, hy⟩ : ∃ y, y = A.idxOf (A[j]'hjA ++ [c]) := ⟨_, rfl⟩
      have hyA : y < A.length := by rw [hy]; exact idx_lt hmem
      have hyn : y < n := by rw [HN.out]; exact hyA
      have hty : txt A y = txt A j ++ [c] := by rw [hy, txt_idx hmem, txt_at hjA]
      have hgood : ∀ z, z < n → depN A z ≤ depN A j → Rt A P Fk Uk z := fun z hz hd => hR1.out z hz (HF.out z hz hd)
      obtain ⟨l0, l1, l2, l3⟩ := hL.out.cells
      obtain ⟨z, hz⟩ : ∃ z, z = RF A y := ⟨_, rfl⟩
      have hzA : z < A.length := by rw [hz]; exact RF_lt HT.out.nodes y
      have hzn : z < n := by rw [HN.out]; exact hzA
      have hend : A.idxOf (failT A (txt A j ++ [c])) = z := by rw [← hty, hz]; rfl
      have hdz : depN A z ≤ depN A j := by
        have h1 : (txt A z).length < (txt A y).length := by rw [hz, RF_txt HT.out.nodes]; exact failT_short A _ (by rw [hty]; simp)
        rw [hty] at h1
        simp only [List.length_append, List.length_singleton] at h1
        unfold depN
        unfold txt at h1
        omega
      have HC := hid hc
      have HTY := hid hty
      have HGOOD := hid hgood
      have HEND := hid hend
      have HZ := hid hz
      have HDZ := hid hdz
      have HY := hid hy
      have cf := hL.out.rf.cell hyn
      have ff := hL.out.rf.frozen y
      have hx1 : decide ((0 : Int) ≤ (k : Int) ∧ (k : Int) < (m : Int)) = true := decide_eq_true ⟨by omega, by omega⟩
      have hx2 : decide ((0 : Int) ≤ (y : Int) ∧ (y : Int) < (n : Int)) = true := decide_eq_true ⟨by omega, by omega⟩
      have hlf := hL.out.lf
      clear hc hty hgood hend hz hdz hcm hy
      go_wp2_with (go_at_call 57; refine (next_in (HT.out.below hL.out.below) j hjA c hc256 hmem).mono ?_; rintro e w3 ⟨rfl, q3, rfl⟩; rw [← HY.out])
      have HL3 := hid (hL.out.drewN q3)
      have HRd3 := hid (hRd.out.below (drewN_below wr q3 _))
      clear hL hRd l0 l1 l2 l3 cf ff hcell hg
      generalize wr.drewN q3 = w3 at HL3 HRd3 ⊢
      obtain ⟨l0, l1, l2, l3⟩ := HL3.out.cells
      have cf := HL3.out.rf.cell hyn
      have ff := HL3.out.rf.frozen y
      go_region_held_law (fun w' => w'.cell? ⟨l, 2, none⟩ = some (.slice (some ⟨gf, 0, none⟩) n n)) (first | go_keep | exact (cell_set_far hlf).trans ((HL3.out.drewN _).cells.2.2.1)) (first
        | (go_at_call 58; refine (longestEnd_any HT.out (HL3.out.drewN _) HN.out HA.out j hj c hc256 (fun z h1 h2 => (HGOOD.out z h1 h2).1)).mono ?_; rw [HEND.out]; rintro e w4 ⟨rfl, q4, rfl⟩))
      have hgne := HNEW.out ⟨g, o, none⟩ m cp rfl (by omega)
      have hg1 : g ≠ gf := hgne.1
      have hg2 : g ≠ gu := hgne.2.1
      clear hgne
      have HL4 := hid ((HL3.out.drewN (1 + q4)).setF y z)
      have HRd4 := hid (reads_set (p := gf) (i := y) (v := .int .i64 (z : Int)) (HRd3.out.below (drewN_below w3 (1 + q4) _)) hg1)
      clear HL3 HRd3 l0 l1 l2 l3 cf ff
      generalize (w3.drewN (1 + q4)).setCell ⟨gf, y, none⟩ (.int .i64 (z : Int)) = w4 at HL4 HRd4 ⊢
      obtain ⟨l0, l1, l2, l3⟩ := HL4.out.cells
      have cf := HL4.out.rf.cell hyn
      have cu := HL4.out.ru.cell hyn
      have fu := HL4.out.ru.frozen y
      have hup : upd1 Fk y z y = z := by unfold upd1; rw [if_pos rfl]
      rw [hup] at cf
      clear hup
      have hlu := HL4.out.lu
      have hfu := HL4.out.fu
      have hUz : Uk z = RU A P z := (HGOOD.out z hzn HDZ.out).2
      have hby := RU_by HT.out.nodes HP.out y (by rw [HTY.out]; simp)
      have htz : txt A z = failT A (txt A y) := by rw [HZ.out]; exact RF_txt HT.out.nodes y
      rw [← htz, ← HZ.out] at hby
      by_cases hin : txt A z ∈ P
      · rw [if_pos hin] at hby
        have hwz : wd (txt A z) ≠ -1 := fun e => (HW.out _).1 e hin
        have HBY := hid hby
        clear hby hUz htz
        go_wp2_with fail
        go_region_held_law (fun w' => w'.cell? ⟨l, 2, none⟩ = some (.slice (some ⟨gf, 0, none⟩) n n) ∧ w'.cell? ⟨l, 3, none⟩ = some (.slice (some ⟨gu, 0, none⟩) n n) ∧ w'.cell? ⟨gf, y, none⟩ = some (.int .i64 (z : Int))) (first | go_keep | exact ⟨(cell_set_far hlu).trans ((HL4.out.drewN _).cells.2.2.1), (cell_set_far hlu).trans ((HL4.out.drewN _).cells.2.2.2), (cell_set_far hfu).trans (by simpa using cf)⟩) (first
          | (go_at_call 59; refine (first_self HT.out (HL4.out.drewN _) HN.out z hzn hwz).mono ?_; rintro e w5 ⟨rfl, q5, rfl⟩))
        have HL5 := hid ((HL4.out.drewN (1 + q5)).setU y z)
        have HRd5 := hid (reads_set (p := gu) (i := y) (v := .int .i64 (z : Int)) (HRd4.out.below (drewN_below w4 (1 + q5) _)) hg2)
        clear HL4 HRd4 l0 l1 l2 l3 cf cu fu
        generalize (w4.drewN (1 + q5)).setCell ⟨gu, y, none⟩ (.int .i64 (z : Int)) = w5 at HL5 HRd5 ⊢
        go_wp2
        go_roundw
        case rel =>
          refine ⟨k + 1, _, _, by go_num, by omega, HL5.out, HRd5.out, fun x hx hr => rt_upd HZ.out HBY.out.symm x (fun _ => hR1.out x hx hr), fun x hx ⟨c', hc', ex⟩ => rt_upd HZ.out HBY.out.symm x (fun hne => ?_)⟩
          have hkb : k < bl.length := by rw [← HM.out]; exact hlt
          rw [List.take_succ_eq_append_getElem hkb, List.mem_append] at hc'
          rcases hc' with h1 | h1
          · exact hR2.out x hx ⟨c', h1, ex⟩
          · simp only [List.mem_singleton] at h1
            rw [← HC.out] at h1
            rw [h1] at ex
            exact absurd (txt_inj HT.out.nodes (by rw [← HN.out]; exact hx) hyA (ex.trans HTY.out.symm)) hne
        case measure => simp [intOf]; omega
      · rw [if_neg hin, ← hUz] at hby
        have hwz : wd (txt A z) = -1 := (HW.out _).2 hin
        have HBY := hid hby.symm
        clear hby hUz htz
        obtain ⟨V, hV⟩ : ∃ V, V = Uk z := ⟨_, rfl⟩
        have HVE := hid hV
        clear hV
        go_wp2_with fail
        go_region_held_law (fun w' => w'.cell? ⟨l, 2, none⟩ = some (.slice (some ⟨gf, 0, none⟩) n n) ∧ w'.cell? ⟨l, 3, none⟩ = some (.slice (some ⟨gu, 0, none⟩) n n) ∧ w'.cell? ⟨gf, y, none⟩ = some (.int .i64 (z : Int))) (first | go_keep | exact ⟨(cell_set_far hlu).trans ((HL4.out.drewN _).cells.2.2.1), (cell_set_far hlu).trans ((HL4.out.drewN _).cells.2.2.2), (cell_set_far hfu).trans (by simpa using cf)⟩) (first
          | (go_at_call 59; refine (first_next HT.out (HL4.out.drewN _) HN.out z hzn hwz).mono ?_; rw [← HVE.out]; rintro e w5 ⟨rfl, q5, rfl⟩))
        have HL5 := hid ((HL4.out.drewN (1 + q5)).setU y V)
        have HRd5 := hid (reads_set (p := gu) (i := y) (v := .int .i64 (V : Int)) (HRd4.out.below (drewN_below w4 (1 + q5) _)) hg2)
        clear HL4 HRd4 l0 l1 l2 l3 cf cu fu
        generalize (w4.drewN (1 + q5)).setCell ⟨gu, y, none⟩ (.int .i64 (V : Int)) = w5 at HL5 HRd5 ⊢
        go_wp2
        go_roundw
        case rel =>
          refine ⟨k + 1, _, _, by go_num, by omega, HL5.out, HRd5.out, fun x hx hr => rt_upd HZ.out (HVE.out.trans HBY.out) x (fun _ => hR1.out x hx hr), fun x hx ⟨c', hc', ex⟩ => rt_upd HZ.out (HVE.out.trans HBY.out) x (fun hne => ?_)⟩
          have hkb : k < bl.length := by rw [← HM.out]; exact hlt
          rw [List.take_succ_eq_append_getElem hkb, List.mem_append] at hc'
          rcases hc' with h1 | h1
          · exact hR2.out x hx ⟨c', h1, ex⟩
          · simp only [List.mem_singleton] at h1
            rw [← HC.out] at h1
            rw [h1] at ex
            exact absurd (txt_inj HT.out.nodes (by rw [← HN.out]; exact hx) hyA (ex.trans HTY.out.symm)) hne
        case measure => simp [intOf]; omega
    · obtain rfl : k = m := by omega
      go_wp2
      refine bodyPost_end (v := .tuple #[]) (by simp [results, Try.results43, go_sem]) rfl ⟨rfl, Fk, Uk, hL.out, hR1.out, fun x hx ⟨c, ex⟩ => hR2.out x hx ⟨c, ?_, ex⟩⟩
      rw [HM.out, List.take_length, HBL.out, byOf_mem]
      have hmem : txt A x ∈ A := txt_mem (by rw [← HN.out]; exact hx)
      have h2 := HT.out.bytes _ hmem c (by rw [ex]; simp)
      rw [ex, txt_at hjA] at hmem
      exact ⟨h2, hmem⟩
end Go.Proofs.Ytdplflcaanmmiab
