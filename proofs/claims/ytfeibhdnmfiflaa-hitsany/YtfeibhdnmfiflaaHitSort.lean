/-
  Contract of package hits: a row of phrases sorted, the longest first.
-/
import Derived.Test.YtfeibhdnmfiflaaHitPieces
import Derived.Test.YtfeibhdnmfiflaaSortV
import Derived.Test.YtfeibhdnmfiflaaByDepth
namespace Go.Proofs.Ytfeibhdnmfiflaa
open Go.ChangeShapes Go.WideShapes Go.ChangeAt Go.RowKit

theorem DictV.pointer {w : World} {d : Value} {L : List ByteArray} (h : DictV w d L) : ∃ a, d = .pointer a := by
  rcases h with ⟨h, _⟩ | ⟨B, p, h, _⟩
  · exact ⟨_, h⟩
  · exact ⟨_, h⟩

theorem DictV.drewN {w : World} {d : Value} {L : List ByteArray} (h : DictV w d L) (q : Nat) : DictV (w.drewN q) d L := h.below (drewN_below _ _ _)

set_option maxRecDepth 20000 in
set_option maxHeartbeats 2000000 in
/-- The function that compares two phrases by how long they are. -/
theorem longer_any {w : World} {d : Value} {bx : Nat} {L : List ByteArray} (h : DictV w d L) (hl : L.length ≤ 1000000) (hb : w.cell? ⟨bx, 0, none⟩ = some d) (x y : Nat) (hx : x < L.length) (hy : y < L.length) :
    Calls Try.prog 35 #[.int .i64 (x : Int), .int .i64 (y : Int), .pointer (some ⟨bx, 0, none⟩)] w fun e w' => e = .returned (.int .i64 (c3 (lenL L y) (lenL L x))) ∧ ∃ q, w' = w.drewN q := by
  obtain ⟨a, rfl⟩ := h.pointer
  have H := hid h
  clear h
  go_enter Try.func35, Try.ntmps35
  go_wp2_with fail
  go_quiet (first
    | (go_at_call 36; exact Calls.quiet_of_same (compare_any _ _ _))
    | (go_at_call 24; exact Calls.quiet_of_same (lengthH_ok (H.out.drewN _) hl _ (by assumption))))
  go_wp2
  go_ret
  exact ⟨rfl, _, rfl⟩

theorem c3_turned {a b : Nat} (ha : a ≤ 40) (hb : b ≤ 40) : c3 (40 - a) (40 - b) = c3 b a := by
  unfold c3
  by_cases h1 : b < a
  · rw [if_pos h1, if_pos (by omega)]
  · rw [if_neg h1, if_neg (by omega)]
    by_cases h2 : a < b
    · rw [if_pos h2, if_pos (by omega)]
    · rw [if_neg h2, if_neg (by omega)]

set_option maxRecDepth 20000 in
set_option maxHeartbeats 2000000 in
theorem insertion_none (W : World) (bx : Nat) : Calls Try.prog 62 #[.slice none 0 0, .int .i64 0, .int .i64 0, Ids.cmpV bx] W fun e w' => e = .returned (.tuple #[]) ∧ w' = W := by
  unfold Ids.cmpV
  go_enter Try.func62, Try.ntmps62
  go_wp2
  refine wp_loop_rounds 1 ?_
  rw [rounds_succ]
  go_wp2
  exact bodyPost_end (v := .tuple #[]) (by simp [results, Try.results62, go_sem]) rfl ⟨rfl, rfl⟩

set_option maxRecDepth 20000 in
set_option maxHeartbeats 2000000 in
theorem stable_none (W : World) (bx : Nat) : Calls Try.prog 47 #[.slice none 0 0, .int .i64 0, Ids.cmpV bx] W fun e w' => e = .returned (.tuple #[]) ∧ w' = W := by
  unfold Ids.cmpV
  go_enter Try.func47, Try.ntmps47
  go_wp2
  refine wp_loop_rounds 1 ?_
  rw [rounds_succ]
  go_wp2_with (go_at_call 62; refine (insertion_none _ bx).mono ?_; rintro e w5 ⟨rfl, rfl⟩)
  refine wp_loop_rounds 1 ?_
  rw [rounds_succ]
  go_wp2
  exact bodyPost_end (v := .tuple #[]) (by simp [results, Try.results47, go_sem]) rfl ⟨rfl, rfl⟩

set_option maxRecDepth 20000 in
set_option maxHeartbeats 2000000 in
theorem sort_none (W : World) (bx : Nat) : Calls Try.prog 34 #[.slice none 0 0, Ids.cmpV bx] W fun e w' => e = .returned (.tuple #[]) ∧ w' = W := by
  unfold Ids.cmpV
  go_enter Try.func34, Try.ntmps34
  go_wp2_with (go_at_call 47; refine (stable_none _ bx).mono ?_; rintro e w5 ⟨rfl, rfl⟩)
  exact bodyPost_end (v := .tuple #[]) (by simp [results, Try.results34, go_sem]) rfl ⟨rfl, rfl⟩

theorem hnd_inj {L : List Nat} (h : L.Nodup) {i j : Nat} (hi : i < L.length) (hj : j < L.length) (e : L[i]'hi = L[j]'hj) : i = j := by
  rcases Nat.lt_trichotomy i j with h1 | h1 | h1
  · exact absurd e (List.pairwise_iff_getElem.1 h i j hi hj h1)
  · exact h1
  · exact absurd e.symm (List.pairwise_iff_getElem.1 h j i hj hi h1)

/-- A row as its places: the numbers that are read there, sorted by their keys. -/
theorem sorted_ids {key f : Nat → Nat} {ids : List Nat} (hm : ids.length ≤ 1000000) (hs : Srt key f 0 ids.length) (hS : Same (fun k => k) f 0 ids.length) (hnd : ids.Nodup) :
    ((List.range ids.length).map (fun k => ids.getD (f k) 0)).length = ids.length ∧ (∀ x, x ∈ (List.range ids.length).map (fun k => ids.getD (f k) 0) ↔ x ∈ ids) ∧ ((List.range ids.length).map (fun k => ids.getD (f k) 0)).Nodup ∧ ((List.range ids.length).map (fun k => ids.getD (f k) 0)).Pairwise (fun a b => ∃ i j, i < ids.length ∧ j < ids.length ∧ a = ids.getD i 0 ∧ b = ids.getD j 0 ∧ key i ≤ key j) := by
  have hsm : ∀ k, k < ids.length → f k < ids.length := fun k hk => by
    obtain ⟨k', _, h2, e⟩ := hS.back k (Nat.zero_le _) hk
    rw [e]; exact h2
  have hat : ∀ i, i < ids.length → ∃ h : i < ids.length, ids.getD i 0 = ids[i]'h := fun i hi => ⟨hi, by simp [List.getD, hi]⟩
  refine ⟨by simp, fun x => ?_, ?_, ?_⟩
  · rw [List.mem_map]
    constructor
    · rintro ⟨k, hk, rfl⟩
      obtain ⟨h, e⟩ := hat (f k) (hsm k (List.mem_range.1 hk))
      rw [e]; exact List.getElem_mem _
    · intro hx
      obtain ⟨i, hi, rfl⟩ := List.getElem_of_mem hx
      obtain ⟨k, _, hk, e⟩ := hS.forth i (Nat.zero_le _) hi
      refine ⟨k, List.mem_range.2 hk, ?_⟩
      obtain ⟨h, e2⟩ := hat (f k) (hsm k hk)
      rw [e2]
      have e3 : f k = i := e.symm
      simp [e3]
  · unfold List.Nodup
    rw [List.pairwise_map]
    refine List.Pairwise.imp_of_mem (fun {i j} hi hj hij => ?_) (List.pairwise_lt_range (n := ids.length))
    have hi2 := List.mem_range.1 hi
    have hj2 := List.mem_range.1 hj
    obtain ⟨h1, e1⟩ := hat (f i) (hsm i hi2)
    obtain ⟨h2, e2⟩ := hat (f j) (hsm j hj2)
    rw [e1, e2]
    intro e
    have e3 : f i = f j := hnd_inj hnd h1 h2 e
    have := hs i j (Nat.zero_le _) hij hj2
    rw [e3] at this
    omega
  · rw [List.pairwise_map]
    refine List.Pairwise.imp_of_mem (fun {i j} hi hj hij => ?_) (List.pairwise_lt_range (n := ids.length))
    have hi2 := List.mem_range.1 hi
    have hj2 := List.mem_range.1 hj
    refine ⟨f i, f j, hsm i hi2, hsm j hj2, rfl, rfl, ?_⟩
    have h3 := hs i j (Nat.zero_le _) hij hj2
    have h4 := hsm i hi2
    have h5 := hsm j hj2
    unfold rk at h3
    omega

set_option maxRecDepth 20000 in
set_option maxHeartbeats 2000000 in
/-- A row of phrases, the longest first. -/
theorem longestFirst_any {w0 w : World} {d : Value} {L : List ByteArray} (h : DictV w0 d L) (hbw : Below w0.heap.size w0 w) (hl : L.length ≤ 1000000) (h40 : ∀ s ∈ L, s.size ≤ 40) {B m : Nat} {v : Value} {ids : List Nat} (hB : w0.heap.size ≤ B) (hv : w.ownsRow B 3 1 v m (numsI ids)) (hids : ∀ x ∈ ids, x < L.length) (hnd : ids.Nodup) (hm : m ≤ 1000000) :
    Calls Try.prog 21 #[d, v] w fun e w' => e = .returned (.tuple #[]) ∧ ∃ ids', w'.ownsRow B 3 1 v m (numsI ids') ∧ (∀ x, x ∈ ids' ↔ x ∈ ids) ∧ ids'.length = ids.length ∧ ids'.Nodup ∧ ids'.Pairwise (fun a b => lenL L b ≤ lenL L a) ∧ Kept (fun b => v.ownBlock = some b) w w' := by
  obtain ⟨ad, rfl⟩ := h.pointer
  have hil : ids.length = m := by have := hv.1; rw [numsI_length] at this; omega
  subst hil
  have hm1 : Below w.heap.size w (w.alloc (.cells #[.pointer ad] 29)) := (Below.refl _ _).alloc (Nat.le_refl _) _
  rcases hv.2 with ⟨rfl, h0⟩ | ⟨g, cap, cur, rfl, hBg, hg, hnc, hcm, hcs, htk⟩
  · have hids0 : ids = [] := List.eq_nil_of_length_eq_zero h0
    subst hids0
    have HM := hid hm1
    have HV := hid hv
    clear hv hm1 h hbw
    go_enter Try.func21, Try.ntmps21
    go_wp2_with (go_at_call 34; refine (sort_none _ w.heap.size).mono ?_; rintro e w5 ⟨rfl, rfl⟩)
    exact bodyPost_end (v := .tuple #[]) (by simp [results, Try.results21, go_sem]) rfl ⟨rfl, [], ownsRow_below HV.out HM.out, fun x => Iff.rfl, rfl, List.nodup_nil, List.Pairwise.nil, below_kept HM.out _⟩
  · obtain ⟨Q, hQ⟩ : ∃ Q : Ids.Rw, Q = ⟨cap, fun k => ids.getD k 0, fun i => (cur[i]?).getD default⟩ := ⟨_, rfl⟩
    have hgl : g < w.heap.size := (Array.getElem?_eq_some_iff.1 hg).1
    have hg1 : (w.alloc (.cells #[.pointer ad] 29)).heap[g]? = some (.cells cur 3 (0, 0)) := (hm1.block g hgl).trans hg
    have hR : Ids.RowAt Q (w.alloc (.cells #[.pointer ad] 29)) g ids.length (fun k => k) (w.alloc (.cells #[.pointer ad] 29)) := by
      subst hQ
      refine ⟨hnc, ⟨cur, hg1, by simpa using hcs, fun i hi => ?_⟩, Kept.refl _ _⟩
      show cur[i]? = some (if i < ids.length then _ else _)
      by_cases hin : i < ids.length
      · rw [if_pos hin]
        have h1 : cur.toList[i]? = (numsI ids)[i]? := by
          rw [← htk, List.getElem?_take]
          simp [hin]
        rw [numsI_at ids i hin] at h1
        rw [← Array.getElem?_toList, h1]
        simp [List.getD, hin]
      · rw [if_neg hin]
        have hic : i < cur.size := by simpa [hcs] using hi
        simp [hic]
    have hbox : (w.alloc (.cells #[.pointer ad] 29)).heap[w.heap.size]? = some (.cells #[.pointer ad] 29 (0, 0)) := heap_alloc_new w _
    have hC : Ids.CmpAt Q (w.alloc (.cells #[.pointer ad] 29)) g ids.length w.heap.size (fun k => 40 - lenL L (ids.getD k 0)) := by
      intro W hW x y hx hy
      have hbW : Below w0.heap.size w0 W := (hbw.trans (hm1.mono hbw.size)).trans (hW.below (by have := hbw.size; have := hm1.size; omega) (by rintro k rfl; omega))
      have hid2 : ∀ i, i < ids.length → ids.getD i 0 < L.length ∧ lenL L (ids.getD i 0) ≤ 40 := fun i hi => by
        have e : ids.getD i 0 = ids[i]'hi := by simp [List.getD, hi]
        have h1 := hids _ (List.getElem_mem hi)
        rw [e]
        exact ⟨h1, by rw [lenL_at h1]; exact h40 _ (List.getElem_mem _)⟩
      rw [c3_turned (hid2 x hx).2 (hid2 y hy).2]
      subst hQ
      refine longer_any (h.below hbW) hl ?_ _ _ (hid2 x hx).1 (hid2 y hy).1
      have hb2 := (hW.block w.heap.size (by simp) (by omega)).trans hbox
      simp [World.cell?, hb2]
    have HR := hid hR
    have HC := hid hC
    have HND := hid hnd
    have HI := hid hids
    have H40 := hid h40
    have HQ := hid hQ
    have HB := hid hBg
    have HCM := hid hcm
    have hca : cap = Q.cap := by rw [hQ]
    have HM := hid hm1
    clear hR hC hnd hids h40 hQ hBg hcm h hbw hg hg1 hbox hcs htk hv hm1
    subst hca
    go_enter Try.func21, Try.ntmps21
    go_wp2_with (go_at_call 34; refine (Ids.sortStable_any HR.out HC.out hm).mono ?_; rintro e w5 ⟨rfl, f2, hr2, ht2, hs2⟩; have HR2 := hid hr2; have HT2 := hid ht2; have HS2 := hid hs2; clear hr2 ht2 hs2)
    obtain ⟨q1, q2, q3, q4⟩ := sorted_ids hm HT2.out HS2.out HND.out
    refine bodyPost_end (v := .tuple #[]) (by simp [results, Try.results21, go_sem]) rfl ⟨rfl, _, ?_, q2, q1, q3, ?_, ?_⟩
    · obtain ⟨c, hc, hcz, hci⟩ := HR2.out.row
      refine ⟨by rw [numsI_length, q1]; omega, .inr ⟨g, _, c, rfl, HB.out, hc, hnc, HCM.out, by omega, ?_⟩⟩
      have hroom := HR2.out.room
      refine List.ext_getElem? (fun i => ?_)
      rw [List.getElem?_take, Nat.mul_one]
      by_cases hi : i < ids.length
      · rw [if_pos hi, Array.getElem?_toList, hci i (by omega)]
        show some (if i < ids.length then _ else _) = _
        rw [if_pos hi, HQ.out]
        simp [numsI, hi]
      · rw [if_neg hi, List.getElem?_eq_none (by rw [numsI_length, q1]; omega)]
    · refine q4.imp (fun {a b} h4 => ?_)
      obtain ⟨i, j, hi, hj, rfl, rfl, hk⟩ := h4
      have hlen : lenL L (ids.getD j 0) ≤ 40 := by
        have e : ids.getD j 0 = ids[j]'hj := by simp [List.getD, hj]
        have h1 := HI.out _ (List.getElem_mem hj)
        rw [e, lenL_at h1]
        exact H40.out _ (List.getElem_mem _)
      omega
    · have hk := (below_kept HM.out (· = g)).trans HR2.out.kept
      exact ⟨hk.os, hk.tape, hk.output, hk.size, fun k h1 h2 => hk.block k h1 (fun e => h2 (by rw [e]; rfl))⟩
end Go.Proofs.Ytfeibhdnmfiflaa
