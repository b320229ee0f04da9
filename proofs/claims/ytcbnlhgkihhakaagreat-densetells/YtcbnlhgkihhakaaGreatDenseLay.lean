/-
  dense.layRow: a node's steps laid out.
-/
import Derived.Test.YtcbnlhgkihhakaaGreatDenseTab
import Derived.Deep.RegionHeldLaw
namespace Go.Proofs.YtcbnlhgkihhakaaGreat
open Go.ChangeShapes Go.WideShapes Go.ChangeAt Go.RowKit

theorem Rows256.drewN {w : World} {rp n : Nat} {R : Nat → Nat → Nat} (h : Rows256 w rp n R) (q : Nat) : Rows256 (w.drewN q) rp n R :=
  h.block ((Kept.drewN (fun _ => False) w q).block rp h.lt (fun e => e))

theorem TbAt.lay {w : World} {p l rp n : Nat} {R : Nat → Nat → Nat} (h : TbAt w p l rp n R) (j : Nat) (f : Nat → Nat) : TbAt (w.setCells rp (j * 256) (cells256 f)) p l rp n (fun a b => if a = j then f b else R a b) :=
  ⟨(setCells_block rp p h.ne _ _ _).trans h.ptr, h.rows.lay j f, h.ne⟩

theorem TbAt.set {w : World} {p l rp n : Nat} {R : Nat → Nat → Nat} (h : TbAt w p l rp n R) (j c v : Nat) (hc : c < 256) : TbAt (w.setCell ⟨rp, j * 256 + c, none⟩ (.int .i64 (v : Int))) p l rp n (fun a b => if a = j ∧ b = c then v else R a b) :=
  ⟨(Below.heap_setCell _ _ _ _ (by intro e; exact h.ne e)).trans h.ptr, h.rows.set j c v hc, h.ne⟩

/-- What the first statement of layRow reads and writes. -/
theorem lay_held {w : World} {p l rp n : Nat} {R : Nat → Nat → Nat} (h : TbAt w p l rp n R) (f j : Nat) (hf : f < n) (hj : j < n) :
    w.cell? ⟨p, 0, none⟩ = some (.pointer (some ⟨l, 0, none⟩)) ∧ w.cell? ⟨p, 1, none⟩ = some (.slice (some ⟨rp, 0, none⟩) n n) ∧ w.rangeAt rp (f * 256) (cells256 (R f)) ∧ w.there rp (j * 256) 256 :=
  ⟨h.cells.1, h.cells.2, h.rows.range hf, h.rows.there hj⟩

theorem held_drewN {w : World} {p rp o1 o2 : Nat} {a b : Value} {cs : List Value} (q : Nat) (h : w.cell? ⟨p, 0, none⟩ = some a ∧ w.cell? ⟨p, 1, none⟩ = some b ∧ w.rangeAt rp o1 cs ∧ w.there rp o2 256) :
    (w.drewN q).cell? ⟨p, 0, none⟩ = some a ∧ (w.drewN q).cell? ⟨p, 1, none⟩ = some b ∧ (w.drewN q).rangeAt rp o1 cs ∧ (w.drewN q).there rp o2 256 := by
  induction q generalizing w with
  | zero => exact h
  | succ q ih => exact ih (w := w.drew) h

theorem held_store {w : World} {p rp o1 o2 : Nat} {a b : Value} {cs : List Value} (h : w.cell? ⟨p, 0, none⟩ = some a ∧ w.cell? ⟨p, 1, none⟩ = some b ∧ w.rangeAt rp o1 cs ∧ w.there rp o2 256) (hne : p ≠ rp) (hl : cs.length = 256) (ho : o1 = o2 ∨ o1 + 256 ≤ o2 ∨ o2 + 256 ≤ o1) :
    (w.setCells rp o2 cs).cell? ⟨p, 0, none⟩ = some a ∧ (w.setCells rp o2 cs).cell? ⟨p, 1, none⟩ = some b ∧ (w.setCells rp o2 cs).rangeAt rp o1 cs ∧ (w.setCells rp o2 cs).there rp o2 256 := by
  obtain ⟨h1, h2, h3, h4⟩ := h
  refine ⟨?_, ?_, ?_, World.there_setCells h4 _ _ _⟩
  · rw [World.cell?_setCells_out rp cs o2 w _ (fun e => absurd e hne)]; exact h1
  · rw [World.cell?_setCells_out rp cs o2 w _ (fun e => absurd e hne)]; exact h2
  · rcases ho with rfl | ho
    · exact World.rangeAt_setCells_same w rp o1 cs (by rw [hl]; exact h4)
    · exact World.rangeAt_setCells_apart h3 rp o2 cs (.inr (by rw [hl]; exact ho))

set_option maxRecDepth 20000 in
set_option maxHeartbeats 4000000 in
theorem layRow_any {w0 w : World} {p l t rp n : Nat} {A P : List (List Nat)} {wd : List Nat → Int} {R : Nat → Nat → Nat} (hL : LinksAt w0 l t A P wd) (hb : Below w0.heap.size w0 w) (hr0 : w0.heap.size ≤ rp) (h : TbAt w p l rp n R) (hn : n = A.length) (hp : ∀ s c, s ++ [c] ∈ A → s ∈ A) (j : Nat) (hj : j < n) (hR : ∀ c, c < 256 → R (RF A j) c = if j = 0 then 0 else stepN A (RF A j) c) :
    Calls Tryz.prog 26 #[.pointer (some ⟨p, 0, none⟩), .int .i64 (j : Int)] w fun e w' => e = .returned (.tuple #[]) ∧ ∃ R2, TbAt w' p l rp n R2 ∧ (∀ c, c < 256 → R2 j c = stepN A j c) ∧ (∀ k, k ≠ j → ∀ c, c < 256 → R2 k c = R k c) ∧ Below w0.heap.size w0 w' := by
  have hjA : j < A.length := by omega
  obtain ⟨f, hf⟩ : ∃ f, f = RF A j := ⟨_, rfl⟩
  rw [← hf] at hR
  obtain ⟨B, ht⟩ := (hL.later hb).trie
  have hfn : f < n := by rw [hf, hn]; exact RF_lt ht.nodes j
  have hfew : n ≤ 1000000 := by rw [hn]; exact ht.few
  obtain ⟨cs, hcs⟩ : ∃ cs, cs = cells256 (R f) := ⟨_, rfl⟩
  have hlen : cs.length = 256 := by rw [hcs, cells256_length]
  have hone : ∀ v ∈ cs, v.oneCell' = true := by rw [hcs]; exact cells256_one _
  have hu := Tryz.underlying70
  have hi : (Tryz.prog.info? 70).map (·.size) = some cs.length := by rw [hlen]; kernel_rfl
  have hx1 : decide ((0 : Int) ≤ (j : Int) ∧ (j : Int) < (n : Int)) = true := decide_eq_true ⟨by omega, by omega⟩
  have hx2 : decide ((0 : Int) ≤ (f : Int) ∧ (f : Int) < (n : Int)) = true := decide_eq_true ⟨by omega, by omega⟩
  have hh := lay_held h f j hfn hj
  rw [← hcs] at hh
  have H := hid h
  have HL := hid hL
  have HB := hid hb
  have HP := hid hp
  have HR := hid hR
  have HF := hid hf
  have HCS := hid hcs
  have HN := hid ht.nodes
  have HNA := hid hn
  have HNE : Hid (p ≠ rp) := h.ne
  have HOO : Hid (f * 256 = j * 256 ∨ f * 256 + 256 ≤ j * 256 ∨ j * 256 + 256 ≤ f * 256) := by show _ ∨ _ ∨ _; omega
  have HFL : Hid (Calls Tryz.prog 56 #[.pointer (some ⟨l, 0, none⟩), .int .i64 (j : Int)] w.drew fun e w' => e = .returned (.int .i64 (f : Int)) ∧ ∃ q2, w' = w.drew.drewN q2) := by
    rw [hf]
    exact fail_in ((hL.later hb).later (Below.drew (Below.refl _ _))) j hjA
  clear h hL hb hp hR hf hcs hn ht
  obtain ⟨hh1, hh2, hh3, hh4⟩ := hh
  go_enter Tryz.func26, Tryz.ntmps26
  go_wp2_with fail
  go_region_held_law (fun w' => w'.cell? ⟨p, 0, none⟩ = some (.pointer (some ⟨l, 0, none⟩)) ∧ w'.cell? ⟨p, 1, none⟩ = some (.slice (some ⟨rp, 0, none⟩) n n) ∧ w'.rangeAt rp (f * 256) cs ∧ w'.there rp (j * 256) 256) (first
    | exact ⟨hh1, hh2, hh3, hh4⟩
    | assumption
    | (refine held_drewN _ ?_; assumption)
    | (refine held_store ?_ HNE.out hlen HOO.out; assumption))
    ((go_at_call 56; refine (HFL.out).mono ?_; rintro e w5 ⟨rfl, q5, rfl⟩))
  have hT1 : TbAt (w.drewN (1 + q5)) p l rp n R := H.out.drewN _
  have hT2 := hT1.lay j (R f)
  rw [← HCS.out] at hT2
  have hB2 : Below w0.heap.size w0 ((w.drewN (1 + q5)).setCells rp (j * 256) cs) := HB.out.trans ((kept_setCells (S := (· = rp)) (w := w) (Kept.drewN _ w _) rp _ cs rfl).below HB.out.size (by rintro k rfl; exact hr0))
  generalize (w.drewN (1 + q5)).setCells rp (j * 256) cs = w5 at *
  have HT2 := hid hT2
  have HB2 := hid hB2
  obtain ⟨g1, g2⟩ := hT2.cells
  have HL5 := hid (HL.out.later hB2)
  obtain ⟨B5, ht5⟩ := HL5.out.trie
  have HTR := hid ht5
  obtain ⟨bl, hbl⟩ : ∃ bl, bl = byOf A (A[j]'hjA) := ⟨_, rfl⟩
  obtain ⟨m, hm⟩ : ∃ m, m = bl.length := ⟨_, rfl⟩
  have HBL := hid hbl
  have HM := hid hm
  have hm256 : m ≤ 1000000 := by rw [hm, hbl]; exact Nat.le_trans (byOf_length A _) (by decide)
  have HIN : Hid (∀ c, c < 256 → (c ∈ bl ↔ txt A j ++ [c] ∈ A)) := fun c hc => by
    rw [hbl, byOf_mem, txt_at hjA]
    exact ⟨fun h => h.2, fun h => ⟨hc, h⟩⟩
  have HLT : Hid (∀ c ∈ bl, c < 256) := fun c hc => by rw [hbl] at hc; exact byOf_byte A _ c hc
  clear hT1 hT2 hB2 hh1 hh2 hh3 hh4 ht5 hbl hm
  go_wp2_with (first
    | (go_at_call 57; refine (trieL_in HL5.out).mono ?_; rintro e w6 ⟨rfl, rfl⟩)
    | (go_at_call 58; refine (sons_list HTR.out j hjA HBL.out HM.out).mono ?_; rintro e w7 ⟨a7, c7, rfl, hr7, ho7, hb7⟩; have HR7 := hid hr7; have HO7 := hid ho7; have HB7 := hid hb7; clear hr7 ho7 hb7))
  go_loopw [34] (fun vk wr => ∃ (k : Nat) (R3 : Nat → Nat → Nat), vk = .int .i64 k ∧ k ≤ m ∧ Hid (TbAt wr p l rp n R3) ∧ Hid (∀ c, c < 256 → R3 j c = overN A j bl k (R f) c) ∧ Hid (∀ i, i ≠ j → ∀ c, c < 256 → R3 i c = R i c) ∧ Hid (Kept (· = rp) w7 wr)) (fun vk _ => m - (intOf vk).toNat)
  case atStart =>
    refine ⟨0, _, rfl, by omega, HT2.out.later HB7.out, fun c hc => ?_, fun i hi c hc => ?_, Kept.refl _ _⟩
    · rw [overN_zero]; simp
    · simp [hi]
  case round =>
    clear g1 g2
    obtain ⟨k, R3, rfl, hk, hT, h1, h2, hK⟩ := hrel
    have hrpw : rp < w6.heap.size := HT2.out.rows.lt
    by_cases hlt : k < m
    · obtain ⟨g, o, rfl, hg, hcell⟩ := reads_byte HR7.out HM.out k hlt
      have hgrp : ¬ g = rp := by
        have := HO7.out g rfl
        omega
      have hcr : wr.cell? ⟨g, o + k, none⟩ = some (.int .u8 ((bl[k]'(by have := HM.out; omega) : Nat) : Int)) := (World.cell?_of_block (w := w7) (a := ⟨g, o + k, none⟩) (hK.out.block g hg hgrp)).trans hcell
      obtain ⟨c, hcE⟩ : ∃ c, c = bl[k]'(by have := HM.out; omega) := ⟨_, rfl⟩
      rw [← hcE] at hcr
      have hcm : c ∈ bl := by rw [hcE]; exact List.getElem_mem _
      have hc : c < 256 := HLT.out c hcm
      have hson : txt A j ++ [c] ∈ A := (HIN.out c hc).1 hcm
      have hx3 : decide ((0 : Int) ≤ (k : Int) ∧ (k : Int) < (m : Int)) = true := decide_eq_true ⟨by omega, by omega⟩
      have hx4 : decide ((0 : Int) ≤ (c : Int) ∧ (c : Int) < 256) = true := decide_eq_true ⟨by omega, by omega⟩
      have HBr : Hid (Below w0.heap.size w0 wr) := (below_more HB2.out HB7.out).trans (hK.out.below (by have h7 := (below_more HB2.out HB7.out).size; exact h7) (by rintro q rfl; exact hr0))
      obtain ⟨Br, htr⟩ := (HL.out.later HBr.out).trie
      have hnx := next_in (htr.below (Below.drew (Below.refl _ _))) j hjA c hc (by rw [← txt_at hjA]; exact hson)
      rw [← txt_at hjA] at hnx
      obtain ⟨d, hd⟩ : ∃ d, d = A.idxOf (txt A j ++ [c]) := ⟨_, rfl⟩
      rw [← hd] at hnx
      have HNX : Hid (Calls Tryz.prog 59 #[.pointer (some ⟨t, 0, none⟩), .int .i64 (j : Int), .int .u8 (c : Int)] wr.drew fun e w' => e = .returned (.tuple #[.int .i64 (d : Int), .bool true]) ∧ ∃ q, w' = wr.drew.drewN q) := hnx
      have hnow : overN A j bl (k + 1) (R f) = fun x => if x = c then d else overN A j bl k (R f) x := by
        rw [overN_succ A j bl k (R f) (by have := HM.out; omega), ← hcE, hd]
      have HNOW := hid hnow
      have k1 := hT.out.cells.2
      clear hcell hcE hson htr hnx hd hnow
      go_wp2_with fail
      go_region_held_law (fun w' => w'.cell? ⟨p, 1, none⟩ = some (.slice (some ⟨rp, 0, none⟩) n n)) (first
        | assumption
        | (refine (cell_set_far HNE.out).trans ?_; assumption))
        ((go_at_call 59; refine (HNX.out).mono ?_; rintro e w8 ⟨rfl, q8, hq8⟩; have hT8 : TbAt w8 p l rp n R3 := (by rw [hq8]; exact hT.out.later ((Below.drew (Below.refl _ _)).trans (drewN_below _ _ _))); have hK8 : Kept (· = rp) w7 w8 := (by rw [hq8]; exact (hK.out.trans (Kept.drewN _ _ 1)).trans (Kept.drewN _ _ q8)); have HT8 := hid hT8; have HK8 := hid hK8; have k8 := hT8.cells.2; have c8 := hT8.rows.cell hj hc; have f8 := World.rowIs.frozen hT8.rows (j * 256 + c); clear hq8 hT8 hK8))
      have HT9 := hid (HT8.out.set j c d hc)
      have HK9 := hid (HK8.out.setCell rp (j * 256 + c) (.int .i64 (d : Int)) rfl)
      clear k8 c8 f8 k1 hT hK
      generalize w8.setCell ⟨rp, j * 256 + c, none⟩ (.int .i64 (d : Int)) = w9 at *
      go_wp2
      go_roundw
      case rel =>
        refine ⟨k + 1, _, by go_num, by omega, HT9.out, fun x hx => ?_, fun i hi x hx => ?_, HK9.out⟩
        · rw [HNOW.out]
          dsimp only
          by_cases e : x = c
          · rw [if_pos ⟨rfl, e⟩, if_pos e]
          · rw [if_neg (fun e2 => e e2.2), if_neg e, h1.out x hx]
        · rw [if_neg (fun e2 => hi e2.1)]
          exact h2.out i hi x hx
      case measure => simp [intOf]; omega
    · obtain rfl : k = m := by omega
      go_wp2
      have HBr : Hid (Below w0.heap.size w0 wr) := (below_more HB2.out HB7.out).trans (hK.out.below (by have h7 := (below_more HB2.out HB7.out).size; exact h7) (by rintro q rfl; exact hr0))
      refine bodyPost_end (v := .tuple #[]) (by simp [results, Tryz.results26, go_sem]) rfl ⟨rfl, R3, hT.out, fun c hc => ?_, h2.out, HBr.out⟩
      rw [h1.out c hc, HM.out]
      exact overN_all HN.out HP.out hjA HIN.out (R f) (fun x hx => by rw [HR.out x hx, HF.out]) c hc

end Go.Proofs.YtcbnlhgkihhakaaGreat
