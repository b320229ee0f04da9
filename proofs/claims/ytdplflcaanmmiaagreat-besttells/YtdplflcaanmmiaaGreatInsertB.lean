/-
  Contract of slices.Insert, one byte into a row of the call's own.
-/
import Derived.Test.YtdplflcaanmmiaaGreatCopies
namespace Go.Proofs.YtdplflcaanmmiaaGreat
open Go.ChangeShapes Go.WideShapes Go.ChangeAt Go.RowKit

theorem Tryz.infoB : (Tryz.prog.info? 5).map (fun i => (i.zero, i.size, i.bytes)) = some (some (.int .u8 0), 1, 1) := by kernel_rfl
theorem Tryz.sizeB : (Tryz.prog.info? 5).map (·.size) = some 1 := by kernel_rfl

set_option maxRecDepth 100000 in
set_option maxHeartbeats 4000000 in
/-- At the end. -/
theorem insertB_end {w : World} {B : Nat} {v : Value} {n : Nat} {cs : List Value} (h : w.ownsRow B 5 1 v n cs) (hn : n ≤ 1000000) {x : Value} (h1x : x.oneCell' = true) {vb : Nat} (hvb : w.heap[vb]? = some (.cells #[x] 5 (0, 0))) (hB : B ≤ w.heap.size) :
    Calls Tryz.prog 125 #[v, .int .i64 (n : Int), .slice (some ⟨vb, 0, none⟩) 1 1] w fun e w' => ∃ v', e = .returned v' ∧ w'.ownsRow B 5 1 v' (n + 1) (cs ++ [x]) ∧ w.grownBy w' v.ownBlock ∧ (v'.ownBlock = v.ownBlock ∨ v'.ownBlock = some w.heap.size) := by
  obtain ⟨i0, hi0, hz0, hz1, hz2⟩ := info_parts Tryz.infoB
  obtain ⟨ao, cap, rfl⟩ := ownsRow_slice h
  have hcap : n ≤ cap := by
    rcases h.2 with ⟨e, rfl⟩ | ⟨g, cap', cur, e, _, _, h3, _⟩
    · omega
    · injection e with e1 e2 e3; omega
  have H := hid h
  have HV := hid hvb
  clear h hvb
  by_cases hcn : cap = n
  · subst hcn
    go_enter Tryz.func125, Tryz.ntmps125
    go_wp2_with (at_builtin; refine wpList_append_keeps _ rfl _ _ 105 rfl B 5 i0 (.int .u8 0) 1 1 Tryz.underlying105 hi0 hz0 hz1 hz2 rfl (by decide) (.slice ao cap cap) cap cs rfl H.out ⟨vb, 0, none⟩ 1 1 [x] rfl rfl (World.news_of_block HV.out) (by intro u hu; simp at hu; subst hu; exact h1x) (by decide) (by unfold maxLen; omega) (by omega) hB ?_; intro g cap' w4 hownY hgrow hat hlt4 hk4)
    go_ret
    exact ⟨_, rfl, hownY, hgrow, hat.elim (fun e => .inl (by rw [e]; rfl)) (fun e => .inr (by rw [e]; rfl))⟩
  · go_enter Tryz.func125, Tryz.ntmps125
    go_wp2_with (at_builtin; refine wpList_append_keeps _ rfl _ _ 105 rfl B 5 i0 (.int .u8 0) 1 1 Tryz.underlying105 hi0 hz0 hz1 hz2 rfl (by decide) (.slice ao n cap) n cs rfl H.out ⟨vb, 0, none⟩ 1 1 [x] rfl rfl (World.news_of_block HV.out) (by intro u hu; simp at hu; subst hu; exact h1x) (by decide) (by unfold maxLen; omega) (by omega) hB ?_; intro g cap' w4 hownY hgrow hat hlt4 hk4)
    go_ret
    exact ⟨_, rfl, hownY, hgrow, hat.elim (fun e => .inl (by rw [e]; rfl)) (fun e => .inr (by rw [e]; rfl))⟩

set_option maxRecDepth 100000 in
set_option maxHeartbeats 4000000 in
/-- Amid, where there is room. -/
theorem insertB_room {w : World} {B g n cap k : Nat} {cs : List Value} (h : w.ownsRow B 5 1 (.slice (some ⟨g, 0, none⟩) n cap) n cs) (h1c : ∀ u ∈ cs, u.oneCell' = true) (hk : k < n) (hroom : n + 1 ≤ cap) (hn : n ≤ 1000000) {x : Value} (h1x : x.oneCell' = true) {vb : Nat} (hvb : w.heap[vb]? = some (.cells #[x] 5 (0, 0))) (hne : vb ≠ g) :
    Calls Tryz.prog 125 #[.slice (some ⟨g, 0, none⟩) n cap, .int .i64 (k : Int), .slice (some ⟨vb, 0, none⟩) 1 1] w fun e w' => ∃ v', e = .returned v' ∧ w'.ownsRow B 5 1 v' (n + 1) (cs.take k ++ x :: cs.drop k) ∧ w.grownBy w' (some g) ∧ v'.ownBlock = some g := by
  obtain ⟨i0, hi0, hz0, hz1, hz2⟩ := info_parts Tryz.infoB
  obtain ⟨hl, hh⟩ := h
  rw [Nat.mul_one] at hl
  obtain ⟨cur, hBg, hg, hcm, hcs, htake⟩ : ∃ cur, B ≤ g ∧ w.heap[g]? = some (.cells cur 5 (0, 0)) ∧ cap ≤ maxLen ∧ cur.size = cap ∧ cur.toList.take n = cs := by
    rcases hh with ⟨e, _⟩ | ⟨g', cap', cur, e, h1, h2, h3, h4, h5, h6⟩
    · cases e
    · injection e with e1 e2 e3
      injection e1 with e1
      injection e1 with e1 e4 e5
      subst e1; subst e3
      exact ⟨cur, h1, h2, h4, by omega, by simpa using h6⟩
  have hcell : ∀ j v, cs[j]? = some v → w.cell? ⟨g, j, none⟩ = some v := fun j v hj => by
    rw [cell_of_row _ _ _ _ _ _ hg, ← Array.getElem?_toList]
    rw [← htake, List.getElem?_take] at hj
    split at hj
    · exact hj
    · cases hj
  have hov : ∀ lb cb, (callFunc 132 #[.slice (some ⟨vb, 0, none⟩) 1 1, .slice (some ⟨g, k + 1, none⟩) lb cb]).run Tryz.prog w = .ok (.value (.bool false)) w := fun lb cb => by
    rw [run_callFunc_extern Tryz.func132 (by kernel_rfl) (by kernel_rfl) (by kernel_rfl) (e := Extern.SlicesOverlaps.overlaps #[105, 105] #[4]) (by kernel_rfl),
      Lib.run_overlaps_apart w 105 4 5 Tryz.underlying105 1 Tryz.sizeOf5 ⟨vb, 0, none⟩ ⟨g, k + 1, none⟩ 1 1 lb cb hne 5 5 1 cap (by simp [World.shape?, hvb]) (by simp [World.shape?, hg, hcs]) (by omega) (by simp [World.frozen?, hvb]) (by simp [World.frozen?, hvb])]
    rfl
  have HG : Hid (w.heap[g]? = some (.cells cur.toList.toArray 5 (0, 0))) := by rw [Array.toArray_toList]; exact hg
  have HV := hid hvb
  have HC := hid hcell
  have HT := hid htake
  have hdl : (cs.drop k).length = n - k := by rw [List.length_drop, hl]
  obtain ⟨D, hD⟩ : ∃ D, D = cs.drop k := ⟨_, rfl⟩
  rw [← hD] at hdl
  have HD := hid hD
  have HS := hid hcs
  have hw1 : IntKind.i64.wrap ((k : Int) + 1) = (k : Int) + 1 := by rw [IntKind.wrap_i64]; omega
  have hb1 : (0 : Int) ≤ (k : Int) + 1 := by omega
  have hin : k ≤ n := by omega
  have htn : ((k : Int) + 1).toNat = k + 1 := by omega
  have hb2 : ¬ (cap = k + 1) := by omega
  have hb3 : (k : Int) ≤ (n : Int) + 1 := by omega
  have hb4 : ¬ (cap = k) := by omega
  have hcap : cap ≤ 9223372036854775807 := by simpa [maxLen] using hcm
  clear hg hvb hcell htake hD hcs hcm
  go_enter Tryz.func125, Tryz.ntmps125
  go_wp2_with (simp only [hov])
  go_region_law (refine step_copy_keeps rfl (.tmp 73) (.tmp 76) 105 105 rfl 5 Tryz.underlying105 Tryz.sizeB g (k + 1) (n - k) (cap - (k + 1)) ⟨g, k, none⟩ (n + 1 - k) (cap - k) (by simp [Act.eval, Act.put]) (by simp [Act.eval, Act.put]) cur.toList 5 HG D (by rw [hdl]; simp only [Nat.min_def]; split <;> omega) (fun j u hj => by rw [Go.WideShapes.add_plain]; exact HC.out (k + j) u (by rw [HD.out, List.getElem?_drop] at hj; exact hj)) (by rw [hdl, Array.length_toList, HS.out]; omega) (fun u hu => h1c u (by rw [HD.out] at hu; exact List.mem_of_mem_drop hu)) ?_; intro w2 HG2 hk2)
  have HV2 : Hid (∀ j u, ([x] : List Value)[j]? = some u → w2.cell? ((⟨vb, 0, none⟩ : Addr).add j) = some u) := fun j u hj => by
    have hb2 := hk2.block vb (by show vb < w.heap.size; exact (Array.getElem?_eq_some_iff.1 HV.out).1) hne
    exact World.news_of_block (hb2.trans HV.out) j u hj
  have hsl : (splice cur.toList (k + 1) D).length = cap := by rw [length_splice _ _ _ (by rw [hdl, Array.length_toList, HS.out]; omega), Array.length_toList, HS.out]
  obtain ⟨w3, hrun3, HG3, hk3⟩ := run_copy_keeps (P := Tryz.prog) w2 105 105 5 Tryz.underlying105 Tryz.sizeB g k (n + 1 - k) (cap - k) ⟨vb, 0, none⟩ 1 1 _ 5 HG2 [x] (by simp only [Nat.min_def, List.length_singleton]; split <;> omega) HV2.out (by rw [hsl, List.length_singleton]; omega) (by intro u hu; simp at hu; subst hu; exact h1x)
  go_wp2
  go_ret
  have hsp := splice_insert cur.toList cs n k x HT.out hl hk (by rw [Array.length_toList, HS.out]; exact hroom)
  rw [HD.out] at HG3
  have hk23 : Kept (· = g) w w3 := (Kept.drewN (· = g) w 1).trans (hk2.trans hk3)
  refine ⟨_, rfl, ⟨by simp; omega, .inr ⟨g, cap, _, rfl, hBg, HG3.out, hroom, by simpa [maxLen] using hcap, by simpa [HS.out] using hsp.2, by simpa using hsp.1⟩⟩, ⟨hk23.os, hk23.tape, hk23.output, hk23.size, fun q hq hqg => hk23.block q hq (fun e => hqg (by rw [e]))⟩, rfl⟩

set_option maxRecDepth 100000 in
set_option maxHeartbeats 4000000 in
/-- Amid, where there is no room: a new row. -/
theorem insertB_grow {w : World} {B g n cap k : Nat} {cs : List Value} (h : w.ownsRow B 5 1 (.slice (some ⟨g, 0, none⟩) n cap) n cs) (h1c : ∀ u ∈ cs, u.oneCell' = true) (hk : k < n) (hroom : cap < n + 1) (hn : n ≤ 1000000) {x : Value} (h1x : x.oneCell' = true) {vb : Nat} (hvb : w.heap[vb]? = some (.cells #[x] 5 (0, 0))) (hB : B ≤ w.heap.size) :
    Calls Tryz.prog 125 #[.slice (some ⟨g, 0, none⟩) n cap, .int .i64 (k : Int), .slice (some ⟨vb, 0, none⟩) 1 1] w fun e w' => ∃ v', e = .returned v' ∧ w'.ownsRow B 5 1 v' (n + 1) (cs.take k ++ x :: cs.drop k) ∧ Below w.heap.size w w' ∧ v'.ownBlock = some w.heap.size := by
  obtain ⟨i0, hi0, hz0, hz1, hz2⟩ := info_parts Tryz.infoB
  obtain ⟨hl, hh⟩ := h
  rw [Nat.mul_one] at hl
  obtain ⟨cur, hBg, hg, hnc, htake⟩ : ∃ cur, B ≤ g ∧ w.heap[g]? = some (.cells cur 5 (0, 0)) ∧ n ≤ cap ∧ cur.toList.take n = cs := by
    rcases hh with ⟨e, _⟩ | ⟨g', cap', cur, e, h1, h2, h3, h4, h5, h6⟩
    · cases e
    · injection e with e1 e2 e3
      injection e1 with e1
      injection e1 with e1 e4 e5
      subst e1; subst e3
      exact ⟨cur, h1, h2, h3, by simpa using h6⟩
  have hcell : ∀ j v, cs[j]? = some v → w.cell? ⟨g, j, none⟩ = some v := fun j v hj => by
    rw [cell_of_row _ _ _ _ _ _ hg, ← Array.getElem?_toList]
    rw [← htake, List.getElem?_take] at hj
    split at hj
    · exact hj
    · cases hj
  obtain rfl : cap = n := by omega
  clear hnc hroom
  have hold : (Builtin.firstCells i0.size k (.slice (some ⟨g, 0, none⟩) k cap)).run Tryz.prog w.drew = .ok (cs.take k).toArray w.drew := by
    rw [hz1]
    exact run_firstCells_some w.drew 1 k ⟨g, 0, none⟩ k cap (cs.take k) (by rw [List.length_take]; omega) (fun j v hj => by
      rw [Go.WideShapes.add_plain]
      rw [List.getElem?_take] at hj
      split at hj
      · simpa using hcell j v hj
      · cases hj)
  have hgr : k + (cap + 1 - k) = cap + 1 := by omega
  have hrz : ∀ ty, (Builtin.append_ #[105, 3] ty #[.slice (some ⟨g, 0, none⟩) k cap, .int .i64 ((cap : Int) + 1 - (k : Int))]).run Tryz.prog w =
      .ok (.slice (some ⟨w.heap.size, 0, none⟩) (cap + 1) (grownCap w (cap + 1) cap 5)) (w.drew.alloc (.cells ((cs.take k).toArray ++ Builtin.zeroCells (.int .u8 0 : Value).cells (cap + 1 - k) ++ Builtin.zeroCells (.int .u8 0 : Value).cells (grownCap w (cap + 1) cap 5 - (cap + 1))) 5)) := fun ty => by
    have h := Lib.run_append_grow_zeros w 105 3 ty 5 i0 _ .i64 .i64 Tryz.underlying105 Tryz.underlying3 hi0 hz0 (some ⟨g, 0, none⟩) k cap (cs.take k) hold (cap + 1 - k) (by omega) (by omega) (by omega) (by omega) (by rw [hz2]; omega) (by rw [hz2, hgr]; exact growslice_fits (by omega) (by omega))
    rw [hgr] at h
    rw [show (cap : Int) + 1 - (k : Int) = ((cap + 1 - k : Nat) : Int) by omega]
    exact h
  obtain ⟨G, hG⟩ : ∃ G, G = grownCap w (cap + 1) cap 5 := ⟨_, rfl⟩
  rw [← hG] at hrz
  have hGn : cap + 1 ≤ G := by rw [hG]; exact grownCap_ge w _ _ _
  have hG63 : G ≤ 9223372036854775807 := by
    have := grownCap_le_maxLen w (cap + 1) cap 5 (by unfold maxLen; omega)
    rw [← hG] at this
    simpa [maxLen] using this
  obtain ⟨ROW, hROW⟩ : ∃ ROW : Array Value, ROW = (cs.take k).toArray ++ Builtin.zeroCells (.int .u8 0 : Value).cells (cap + 1 - k) ++ Builtin.zeroCells (.int .u8 0 : Value).cells (G - (cap + 1)) := ⟨_, rfl⟩
  rw [← hROW] at hrz
  have hlk : (cs.take k).length = k := by rw [List.length_take]; omega
  have hRl : ROW.size = G := by
    rw [hROW]
    simp [Builtin.zeroCells, Value.cells]
    omega
  have hRt : ROW.toList.take k = cs.take k := by
    rw [hROW]
    simp only [Array.toList_append]
    rw [List.append_assoc, List.take_append_of_le_length (by simp; omega)]
    exact List.take_of_length_le (by simp; omega)
  obtain ⟨W1, hW1⟩ : ∃ W1, W1 = w.drew.alloc (.cells ROW 5) := ⟨_, rfl⟩
  rw [← hW1] at hrz
  have HG1 : Hid (W1.heap[w.heap.size]? = some (.cells ROW.toList.toArray 5 (0, 0))) := by rw [Array.toArray_toList, hW1]; exact heap_alloc_new w.drew _
  have hb1 : Below w.heap.size w W1 := by rw [hW1]; exact ((Below.refl w.heap.size w).drew).alloc (Nat.le_refl _) _
  have HB1 := hid hb1
  have HV := hid hvb
  have HC := hid hcell
  have HR := hid hRt
  have HL := hid hRl
  have hdl : (cs.drop k).length = cap - k := by rw [List.length_drop, hl]
  obtain ⟨D, hD⟩ : ∃ D, D = cs.drop k := ⟨_, rfl⟩
  rw [← hD] at hdl
  have HD := hid hD
  have hw1 : IntKind.i64.wrap ((k : Int) + 1) = (k : Int) + 1 := by rw [IntKind.wrap_i64]; omega
  have hp1 : (0 : Int) ≤ (k : Int) + 1 := by omega
  have hin : k ≤ cap := by omega
  have htn : ((k : Int) + 1).toNat = k + 1 := by omega
  have hb2 : ¬ (G = k + 1) := by omega
  have hb3 : (k : Int) ≤ (cap : Int) + 1 := by omega
  have hb4 : ¬ (G = k) := by omega
  have hb5 : ¬ (cap = k) := by omega
  clear hg hvb hcell htake hD hold hRt hRl hROW hG hb1 hW1 hgr
  go_enter Tryz.func125, Tryz.ntmps125
  have HV1 : Hid (∀ j u, ([x] : List Value)[j]? = some u → W1.cell? ((⟨vb, 0, none⟩ : Addr).add j) = some u) := fun j u hj =>
    World.news_of_block ((HB1.out.block vb (Array.getElem?_eq_some_iff.1 HV.out).1).trans HV.out) j u hj
  have hgw : g < w.heap.size := World.block_lt_of_cell? w ⟨g, 0, none⟩ (HC.out 0 _ (List.getElem?_eq_getElem (by omega)))
  have hsl : (splice ROW.toList k [x]).length = G := by rw [length_splice _ _ _ (by rw [List.length_singleton, Array.length_toList, HL.out]; omega), Array.length_toList, HL.out]
  obtain ⟨w2, hrun2, HG2, hk2⟩ := run_copy_keeps (P := Tryz.prog) W1 105 105 5 Tryz.underlying105 Tryz.sizeB w.heap.size k (cap + 1 - k) (G - k) ⟨vb, 0, none⟩ 1 1 _ 5 HG1 [x] (by simp only [Nat.min_def, List.length_singleton]; split <;> omega) HV1.out (by rw [List.length_singleton, Array.length_toList, HL.out]; omega) (by intro u hu; simp at hu; subst hu; exact h1x)
  have HB2 : Hid (Below w.heap.size w w2) := below_then HB1.out hk2 (Nat.le_refl _)
  have HC2 : Hid (∀ j u, D[j]? = some u → w2.cell? ((⟨g, k, none⟩ : Addr).add j) = some u) := fun j u hj => by
    rw [Go.WideShapes.add_plain]
    rw [HD.out, List.getElem?_drop] at hj
    rw [HB2.out.cell (p := ⟨g, k + j, none⟩) hgw]
    exact HC.out (k + j) u hj
  clear hk2
  go_wp2_with (at_builtin; refine wpList_append_known rfl _ _ _ _ rfl _ _ rfl rfl (hrz _) ?_)
  go_region_law (refine step_copy_keeps rfl (.tmp 50) (.tmp 53) 105 105 rfl 5 Tryz.underlying105 Tryz.sizeB w.heap.size (k + 1) (cap - k) (G - (k + 1)) ⟨g, k, none⟩ (cap - k) (cap - k) (by simp [Act.eval, Act.put]) (by simp [Act.eval, Act.put]) _ 5 HG2 D (by rw [hdl]; simp only [Nat.min_def]; split <;> omega) HC2.out (by rw [hdl, hsl]; omega) (fun u hu => h1c u (by rw [HD.out] at hu; exact List.mem_of_mem_drop hu)) ?_; intro w3 HG3 hk3)
  go_wp2
  go_ret
  have hsp := splice_fresh ROW.toList cs cap k x HR.out hl hk (by rw [Array.length_toList, HL.out]; exact hGn)
  rw [HD.out] at HG3
  have hb3 : Below w.heap.size w w3 := below_then HB2.out.drew hk3 (Nat.le_refl _)
  exact ⟨_, rfl, ⟨by simp; omega, .inr ⟨w.heap.size, G, _, rfl, hB, HG3.out, hGn, by simpa [maxLen] using hG63, by simpa [HL.out] using hsp.2, by simpa using hsp.1⟩⟩, hb3, rfl⟩

/-- One element into a row of one's own, at any place. -/
theorem insertB_any {w : World} {B n k : Nat} {v : Value} {cs : List Value} (h : w.ownsRow B 5 1 v n cs) (h1c : ∀ u ∈ cs, u.oneCell' = true) (hk : k ≤ n) (hn : n ≤ 1000000) {x : Value} (h1x : x.oneCell' = true) {vb : Nat} (hvb : w.heap[vb]? = some (.cells #[x] 5 (0, 0))) (hne : v.ownBlock ≠ some vb) (hB : B ≤ w.heap.size) :
    Calls Tryz.prog 125 #[v, .int .i64 (k : Int), .slice (some ⟨vb, 0, none⟩) 1 1] w fun e w' => ∃ v', e = .returned v' ∧ w'.ownsRow B 5 1 v' (n + 1) (cs.take k ++ x :: cs.drop k) ∧ w.grownBy w' v.ownBlock ∧ (v'.ownBlock = v.ownBlock ∨ v'.ownBlock = some w.heap.size) := by
  by_cases hkn : k = n
  · subst hkn
    refine (insertB_end h hn h1x hvb hB).mono ?_
    rintro e w' ⟨v', he, ho, hg, hb⟩
    have hl : cs.length = k := by have := h.1; omega
    refine ⟨v', he, ?_, hg, hb⟩
    rw [List.take_of_length_le (by omega), List.drop_of_length_le (by omega)]
    exact ho
  · have hlt : k < n := by omega
    obtain ⟨g, cap, rfl⟩ : ∃ g cap, v = .slice (some ⟨g, 0, none⟩) n cap := by
      rcases h.2 with ⟨_, rfl⟩ | ⟨g, cap, cur, e, _⟩
      · omega
      · exact ⟨g, cap, e⟩
    by_cases hroom : n + 1 ≤ cap
    · refine (insertB_room h h1c hlt hroom hn h1x hvb (fun e => hne (by rw [e]; rfl))).mono ?_
      rintro e w' ⟨v', he, ho, hg, hb⟩
      exact ⟨v', he, ho, hg, .inl hb⟩
    · refine (insertB_grow h h1c hlt (by omega) hn h1x hvb hB).mono ?_
      rintro e w' ⟨v', he, ho, hg, hb⟩
      exact ⟨v', he, ho, ⟨hg.os, hg.tape, hg.output, hg.size, fun q hq _ => hg.block q hq⟩, .inr hb⟩
end Go.Proofs.YtdplflcaanmmiaaGreat
