/-
  The Go function lexiphanelaw2.BitsBack returns true for every list of things that are done: numbers that are put are read as they were, in their order.
  No condition: whatever the input, in whatever memory; the argument reads as before.
-/
import Derived.Test.YtlnhfdcmnlinkaaBackMath
import Derived.Test.YtlnhfdcmnlinkaaOps
import Derived.ChangeOld
namespace Go.Proofs.Ytlnhfdcmnlinkaa
open Go.ChangeShapes Go.WideShapes Go.ChangeAt Go.RowKit

/-- What the first loop holds: the Writer, what was put, and where both lie. -/
structure Back (B : Nat) (w : World) (p : Nat) (v u : Value) (ps : List (Int × Nat × Nat)) : Prop where
  wr : WrAt B w p v (val ps) (tot ps)
  row : w.ownsRow B 33 3 u ps.length (opCells ps)
  off : u.ownBlock ≠ some p
  far : ∀ g, u.ownBlock = some g → v.ownBlock ≠ some g
  fit : Fits ps

theorem Back.alloc {B : Nat} {w : World} {p : Nat} {v u : Value} {ps : List (Int × Nat × Nat)} (h : Back B w p v u ps) (o : Obj) : Back B (w.alloc o) p v u ps :=
  ⟨h.wr.alloc o, h.row.alloc o, h.off, h.far, h.fit⟩

/-- Behind a Put the row of what was put is as it was, and still none of the Writer's. -/
theorem Back.put {B : Nat} {w w' : World} {p : Nat} {v v' u : Value} {ps : List (Int × Nat × Nat)} (h : Back B w p v u ps) (hk : Kept (Foot p v) w w') (ho : v'.ownBlock = v.ownBlock ∨ ∃ g, v'.ownBlock = some g ∧ w.heap.size ≤ g) :
    w'.ownsRow B 33 3 u ps.length (opCells ps) ∧ (∀ g, u.ownBlock = some g → v'.ownBlock ≠ some g) ∧ ∀ g, u.ownBlock = some g → g < w'.heap.size := by
  refine ⟨ownsRow_same h.row (fun g hg => hk.block g (h.row.lt g hg).2 (not_foot (fun e => h.off (by rw [hg, e])) (fun g' hg' e => h.far g hg (by rw [hg', e])))), fun g hg hv => ?_, fun g hg => Nat.lt_of_lt_of_le (h.row.lt g hg).2 hk.size⟩
  rcases ho with ho | ⟨g', ho, hge⟩
  · exact h.far g hg (by rw [← ho, hv])
  · have := (h.row.lt g hg).2
    rw [ho] at hv; injection hv with hv; omega

/-- Behind an append to what was put the Writer is as it was. -/
theorem back_append {B : Nat} {w w' : World} {p g n cap : Nat} {v u : Value} {N L : Nat} {o : Obj} (hW : WrAt B w p v N L) (hoff : u.ownBlock ≠ some p) (hfar : ∀ g, u.ownBlock = some g → v.ownBlock ≠ some g)
    (hgrow : (w.alloc o).grownBy w' u.ownBlock) (hat : u.ownBlock = some g ∨ g = w.heap.size + 1) :
    WrAt B w' p v N L ∧ (Value.slice (some ⟨g, 0, none⟩) n cap).ownBlock ≠ some p ∧ ∀ g', (Value.slice (some ⟨g, 0, none⟩) n cap).ownBlock = some g' → v.ownBlock ≠ some g' := by
  have hp := hW.lt
  refine ⟨⟨(hgrow.block p (by simp; omega) (Ne.symm hoff)).trans ((Below.heap_alloc w o p hp).trans hW.cells), ownsRow_same (hW.row.alloc o) (fun g' hg' => hgrow.block g' (by have := (hW.own g' hg').2; simp; omega) (fun e => hfar g' e.symm hg')), hW.base, hW.apart, hW.fits, hW.small⟩, ?_, ?_⟩
  · intro e
    simp [Value.ownBlock] at e
    rcases hat with h | h
    · exact hoff (by rw [h, e])
    · omega
  · intro g' hg' hv
    simp [Value.ownBlock] at hg'
    subst hg'
    rcases hat with h | h
    · exact hfar g h hv
    · have := (hW.own g hv).2
      omega

set_option maxHeartbeats 4000000 in
theorem back_walk (a : Option Addr) (len cap : Nat) (z : Nat → Int × Int × Int) (w : World) (hz : IsOps w a len cap z) : Calls Try.prog 4 #[.slice a len cap] w fun e w' => e = .returned (.bool true) ∧ Below w.heap.size w w' := by
  obtain ⟨i0, hi, hz0, hz1, hz2⟩ := info_parts Try.infoOp
  by_cases h1 : len ≤ 200
  · go_enter Try.func4, Try.ntmps4
    go_wp2_with (first
      | (go_at_call 9; refine (alive_any _).mono ?_; rintro e w1 ⟨rfl, hb1⟩))
    have hs1 := hb1.size
    go_loopw [4, 5, 25] (fun n u i wr => ∃ (k : Nat) (v : Value) (ps : List (Int × Nat × Nat)), k ≤ len ∧ ps.length ≤ k ∧ i = .int .i64 (k : Int) ∧ n = .int .i64 (tot ps : Int) ∧ Back w.heap.size wr w1.heap.size v u ps ∧ Below w.heap.size w wr)
      (fun _ _ i _ => len - (intOf i).toNat)
    case atStart => exact ⟨0, .slice none 0 0, [], by omega, by simp, rfl, rfl, ⟨WrAt.new w1 hs1, World.ownsRow_nil _ _ _ _, by simp [Value.ownBlock], by simp [Value.ownBlock], by simp [Fits]⟩, hb1.trans ((Below.refl _ _).alloc hs1 _)⟩
    case round =>
      obtain ⟨k, v, ps, hk, hpk, rfl, rfl, hB, hbl⟩ := hrel
      obtain ⟨hW, hrow, hoff, hfar, hfit⟩ := id hB
      have htl := tot_le ps hfit
      by_cases hlt : k < len
      · rcases hz with hz | ⟨b, off, rfl, hlc, hbw, hz⟩
        · omega
        obtain ⟨d0, d1, d2⟩ := hz k hlt
        obtain ⟨kd, hkd⟩ : ∃ kd, kd = (z k).1 := ⟨_, rfl⟩
        obtain ⟨x, hx⟩ : ∃ x, x = (z k).2.1 := ⟨_, rfl⟩
        obtain ⟨y, hy⟩ : ∃ y, y = (z k).2.2 := ⟨_, rfl⟩
        rw [← hkd] at d0
        rw [← hx] at d1
        rw [← hy] at d2
        clear hkd hx hy
        have e0 := (hbl.cell (p := ⟨b, off + k * 3, none⟩) hbw).trans d0
        have e1 := (hbl.cell (p := ⟨b, off + k * 3 + 1, none⟩) hbw).trans d1
        have e2 := (hbl.cell (p := ⟨b, off + k * 3 + 2, none⟩) hbw).trans d2
        clear d0 d1 d2 hz
        by_cases hno : y < 0 ∨ 32 < y ∨ x < 0 ∨ (2 : Int) ^ y.toNat ≤ x
        · go_wp2_with (go_at_call 11; refine (put_no x y hno).mono ?_; rintro e w4 ⟨rfl, rfl⟩)
          go_roundw
          case rel => exact ⟨k + 1, v, ps, by omega, by omega, by go_num, rfl, hB.alloc _, hbl.trans ((Below.refl _ _).alloc hbl.size _)⟩
          case measure => simp [intOf]; omega
        · obtain ⟨Y, rfl⟩ := Int.eq_ofNat_of_zero_le (show 0 ≤ y by omega)
          obtain ⟨X, rfl⟩ := Int.eq_ofNat_of_zero_le (show 0 ≤ x by omega)
          have hX : X < 2 ^ Y := by
            have : ¬ (2 : Int) ^ Y ≤ (X : Int) := fun h => hno (.inr (.inr (.inr (by simpa using h))))
            exact_mod_cast Int.not_le.1 this
          have hY : Y ≤ 32 := by omega
          clear hno
          have hBa := hB.alloc (.cells #[.int .i64 kd, .int .i64 (X : Int), .int .i64 (Y : Int)] 33)
          have hnf := not_foot (q := wr.heap.size) (p := w1.heap.size) (v := v) (by have := hW.lt; omega) (fun g hg => by have := (hW.own g hg).2; omega)
          go_wp2_with (first
            | (at_builtin; refine wpList_append_lies _ rfl (.tmp 35) (.tmp 37) 22 rfl w.heap.size 33 i0 (.agg #[.int .i64 0, .int .i64 0, .int .i64 0]) 3 24 Try.underlying22 hi hz0 hz1 hz2 (by rfl) (by decide) u5 ps.length (opCells ps) rfl (hP4.1.alloc _) ⟨w4.heap.size, 0, none⟩ 1 1 [.int .i64 kd, .int .i64 (X : Int), .int .i64 (Y : Int)] rfl rfl (World.news_of_block (heap_alloc_new w4 _)) (by intro u hu; simp at hu; rcases hu with rfl | rfl | rfl <;> rfl) (by decide) (by unfold maxLen; omega) (by omega) (by have := hk4.size; have := hbl.size; simp at *; omega) (w4.heap.size + 1) (by simp) ?_; intro g cap' w5 hown5 hgrow hat hlt5; have ob5 := (hgrow.block wr.heap.size (by have := hk4.size; simp at *; omega) hne4).trans ((Below.heap_alloc w4 _ _ hlt4).trans ob); have oc5 := (wr_cells ob5).2.2.1)
            | (go_at_call 11; refine (put_any hBa.wr X Y hY hX (by omega)).mono ?_; rintro e w4 ⟨rfl, v', hW4, hk4, ho4⟩; have hP4 := hBa.put hk4 ho4; have ob := (hk4.block wr.heap.size (by simp) hnf).trans (heap_alloc_new wr _); have oc0 := (wr_cells ob).1; have oc1 := (wr_cells ob).2.1; have oc2 := (wr_cells ob).2.2.1; have hlt4 : wr.heap.size < w4.heap.size := (Array.getElem?_eq_some_iff.1 ob).1; have hne4 : some wr.heap.size ≠ u5.ownBlock := fun e => by have := (hrow.lt _ e.symm).2; omega))
          have hA := back_append (n := ps.length + 1) (cap := cap') hW4 hoff hP4.2.1 hgrow hat
          have hz := hbl.size
          have hz4 := hk4.size
          simp at hz4
          go_roundw
          case rel => exact ⟨k + 1, v', ps ++ [(kd, X, Y)], by omega, by simp; omega, by go_num, by rw [tot_snoc]; go_num, ⟨by rw [val_snoc, tot_snoc]; exact hA.1, by rw [opCells_snoc, List.length_append]; exact hown5, hA.2.1, hA.2.2, fits_snoc hfit _ ⟨hY, hX⟩⟩, (((hbl.alloc hz _).trans (hk4.below (by simp; omega) hBa.wr.foot)).alloc (by omega) _).grown hgrow (by simp; omega) (fun g hg => (hrow.lt g hg).1)⟩
          case measure => simp [intOf]; omega
      · obtain ⟨ao, ucap, hu⟩ := ownsRow_slice hrow
        subst hu
        obtain ⟨T, hT⟩ : ∃ T, T = packB (val ps) (tot ps) := ⟨_, rfl⟩
        have hTs : T.size = (tot ps + 7) / 8 := by rw [hT, packB_size]
        have HT : Hid (T = packB (val ps) (tot ps)) := hT
        have hz := hbl.size
        have hbc := bytes_any hW
        rw [← hT] at hbc
        clear hT
        have hlf : (8 * ((((tot ps : Nat) : Int) + 7) / 8) != (((tot ps : Nat) : Int) + 7) / 8 * 8) = false := by rw [bne_eq_false_iff_eq]; omega
        go_wp2_with (first
          | (go_at_call 18; refine (left_any (hR4.same hs5)).mono ?_; rintro e w6 ⟨rfl, hs6⟩; change Same w5 w6 at hs6)
          | (go_at_call 15; refine (len_any (hW3.alloc _)).mono ?_; rintro e w5 ⟨rfl, hs5⟩; change Same (w3.alloc _) w5 at hs5)
          | (go_at_call 10; refine (newReader_any _ _).mono ?_; rintro e w4 ⟨rfl, rfl⟩; have hR4 := RdAt.new T (by omega) w3)
          | (go_at_call 16; refine hbc.mono ?_; rintro e w3 ⟨rfl, hb3⟩; have hW3 := hW.below hb3 (Nat.le_refl _)))
        have hz5 := hs5.size
        simp at hz5
        have hR6 := (hR4.same hs5).same hs6
        have hz3 := hb3.size
        have hrow6 : w6.ownsRow w.heap.size 33 3 (.slice ao ps.length ucap) ps.length (opCells ps) := ownsRow_same hrow (fun g hg => by
          have hg2 := (hrow.lt g hg).2
          rw [(hs6.kept (fun _ => False)).block g (by omega) id, (hs5.kept (fun _ => False)).block g (by simp; omega) id, Below.heap_alloc _ _ _ (by omega)]
          exact hb3.block g hg2)
        have hbl6 : Below w.heap.size w w6 := (((hbl.trans (hb3.mono hz)).alloc (by omega) _).trans (hs5.below _)).trans (hs6.below _)
        have hur : ∀ g, (Value.slice ao ps.length ucap).ownBlock = some g → g ≠ w3.heap.size := fun g hg => by have := (hrow.lt g hg).2; omega
        have hzz : w.heap.size ≤ w3.heap.size := by omega
        clear hbc hW3 hW hB hfar hoff hR4 hz
        go_loopw [66] (fun i wq => ∃ j : Nat, j ≤ ps.length ∧ i = .int .i64 (j : Int) ∧ RdAt wq w3.heap.size T (tot (ps.take j)) ∧ wq.ownsRow w.heap.size 33 3 (.slice ao ps.length ucap) ps.length (opCells ps) ∧ Below w.heap.size w wq)
          (fun i _ => ps.length - (intOf i).toNat)
        case atStart => exact ⟨0, by omega, rfl, hR6, hrow6, hbl6⟩
        case round =>
          obtain ⟨j, hj, rfl, hRq, hrq, hbq⟩ := hrel
          by_cases hjl : j < ps.length
          · obtain ⟨xs, q, ys, hps, hxl⟩ : ∃ xs q ys, ps = xs ++ q :: ys ∧ xs.length = j := ⟨ps.take j, ps[j], ps.drop (j + 1), by simp, by simp; omega⟩
            obtain ⟨kd, X, Y⟩ := q
            have htk : tot (ps.take j) = tot xs := by rw [hps, ← hxl]; simp
            have htk2 : tot (ps.take (j + 1)) = tot xs + Y := by rw [hps, ← hxl, show xs ++ (kd, X, Y) :: ys = (xs ++ [(kd, X, Y)]) ++ ys by simp, List.take_left' (by simp), tot_snoc]
            have hnum : num T (tot xs) Y = X := by rw [HT.out, hps]; exact num_back xs (kd, X, Y) ys (hps ▸ hfit)
            have htot : tot xs + Y ≤ tot ps := by rw [hps, tot_append]; simp [tot]
            have hfq := hfit (kd, X, Y) (by rw [hps]; simp)
            obtain ⟨g, cap', he, hgB, hgl⟩ := hrq.form (by omega)
            simp only [Value.slice.injEq, true_and] at he
            obtain ⟨rfl, rfl⟩ := he
            have c0 : wr.cell? ⟨g, j * 3, none⟩ = some (.int .i64 kd) := by rw [hrq.cellAt (j * 3) (by omega), hps, ← hxl]; exact opCells_get xs (kd, X, Y) ys 0 (by decide)
            have c1 : wr.cell? ⟨g, j * 3 + 1, none⟩ = some (.int .i64 (X : Int)) := by rw [hrq.cellAt (j * 3 + 1) (by omega), hps, ← hxl]; exact opCells_get xs (kd, X, Y) ys 1 (by decide)
            have c2 : wr.cell? ⟨g, j * 3 + 2, none⟩ = some (.int .i64 (Y : Int)) := by rw [hrq.cellAt (j * 3 + 2) (by omega), hps, ← hxl]; exact opCells_get xs (kd, X, Y) ys 2 (by decide)
            rw [htk] at hRq
            clear hps hxl
            obtain ⟨W, hW⟩ : ∃ W, W = wr.alloc (.cells #[.int .i64 kd, .int .i64 (X : Int), .int .i64 (Y : Int)] 33) := ⟨_, rfl⟩
            have hRW : RdAt W w3.heap.size T (tot xs) := by rw [hW]; exact hRq.alloc _
            have hrW : W.ownsRow w.heap.size 33 3 (.slice (some ⟨g, 0, none⟩) ps.length ucap) ps.length (opCells ps) := by rw [hW]; exact hrq.alloc _
            have hbW : Below w.heap.size w W := by rw [hW]; exact hbq.alloc hbq.size _
            have ob : W.heap[wr.heap.size]? = some (.cells #[.int .i64 kd, .int .i64 (X : Int), .int .i64 (Y : Int)] 33 (0, 0)) := by rw [hW]; exact heap_alloc_new wr _
            have hlr := hRq.lt
            have hgr := hur g rfl
            have HW : Hid (W = wr.alloc (.cells #[.int .i64 kd, .int .i64 (X : Int), .int .i64 (Y : Int)] 33)) := hW
            clear hW
            have oc0 := (wr_cells ob).1
            have oc1 := (wr_cells ob).2.1
            have oc2 := (wr_cells ob).2.2.1
            go_wp2
            rw [← HW.out]
            go_quiet ((go_at_call 13; exact Calls.quiet_of (peek_any (hRW.drewN _) Y hfq.1)))
            go_wp2_with (go_at_call 12; refine (get_any (hRW.drewN _) Y hfq.1 (by omega)).mono ?_; rintro e w7 ⟨rfl, hR7, hk7⟩; have ob7 := (hk7.block wr.heap.size (by have := (Array.getElem?_eq_some_iff.1 ob).1; have := (drewN_below W nq 0).size; omega) (by omega)).trans (((drewN_below W nq (wr.heap.size + 1)).block _ (by omega)).trans ob); have oc7 := (wr_cells ob7).2.1)
            have hz7 := (drewN_below W nq 0).size
            have hzW := (Array.getElem?_eq_some_iff.1 ob).1
            have hzq := hbq.size
            go_roundw
            case rel => exact ⟨j + 1, by omega, by go_num, by rw [htk2]; exact hR7, ownsRow_same hrW (fun g' hg' => (hk7.block g' (by have := (hrW.lt g' hg').2; omega) (hur g' hg')).trans ((drewN_below W nq (g' + 1)).block g' (by omega))), hbW.trans ((drewN_below W nq _).trans (hk7.below (by omega) (fun i hi => by omega)))⟩
            case measure => simp [intOf]; omega
          · obtain rfl : j = ps.length := by omega
            rw [List.take_length] at hRq
            have hrs : decide (8 * T.size - tot ps < 8 ∧ num T (tot ps) (8 * T.size - tot ps) = 0) = true := decide_eq_true ⟨by omega, by
              have := num_packB_rest (val ps) (tot ps) (val_lt ps hfit)
              rw [← HT.out] at this
              have hp := pad_eq (tot ps)
              rw [show 8 * T.size - tot ps = pad (tot ps) by omega]
              exact this⟩
            rw [hTs] at hrs
            have hl8 : decide (8 * ((((tot ps : Nat) : Int) + 7) / 8) - ((tot ps : Nat) : Int) < 8) = true := decide_eq_true (by omega)
            have hzq := hbq.size
            go_wp2_with (first
              | (go_at_call 18; refine (left_any (hRq.same hs7)).mono ?_; rintro e w8 ⟨rfl, hs8⟩; change Same w7 w8 at hs8)
              | (go_at_call 19; refine (rest_any hRq).mono ?_; rintro e w7 ⟨rfl, hs7⟩; change Same wr w7 at hs7))
            go_ret
            exact ⟨rfl, hbq.trans ((hs7.below _).trans (hs8.below _))⟩
  · go_enter Try.func4, Try.ntmps4
    go_wp2_with (go_at_call 9; refine (alive_any _).mono ?_; rintro e w1 ⟨rfl, hb1⟩)
    all_goals go_ret
    all_goals exact ⟨rfl, hb1⟩

set_option linter.unusedVariables false
theorem bitsBack_own : ownKnob Try.prog.godebug = none := by kernel_rfl

theorem bitsBack_laidOut : laidOutB Try.prog = true := by kernel_rfl

set_option maxRecDepth 100000 in
theorem bitsBack_lifted (os : Os) (started : os.Started) (H : Type) (enc : TypeId × Value → H) :
    ReturnsInHanded {} Try.checked os 4 .any (Rows.bitsBackSpec.pre6 enc Try.prog Try.f4 Rows.bitsBackRow.domain false) (Rows.bitsBackSpec.post enc Try.prog Try.f4 false true false false) := by
  refine returnsInHanded_of_change (C := Try.checked) bitsBack_own started (by kernel_rfl) Try.func4
    (ChangeSpec.witness6 (enc := enc) (C := Try.checked) false ⟨#[], #[.slice none 0 0], []⟩ 8 (by kernel_rfl) (by kernel_rfl) (by kernel_rfl) (by kernel_rfl)) ?_
  intro W base args ds gs before hval0 hW hcnd _
  have hval : ∀ (j : Nat) t v, Try.f4.params[j]? = some t → args[j]? = some v → Value.okWide Try.prog W .any base t v := hval0
  have hW' := hW
  obtain ⟨p, q, hA0, hV, rfl, hfz, hnd⟩ := hW
  have hA : DataW.TrodAll enc Try.prog W 0 (fun _ => true) true Try.f4.params.toList args.toList ds p := hA0
  rw [Try.params4] at hA hval
  obtain ⟨v0, vs0, d0, ds0, p0, q0, hargs, rfl, rfl, h0, r0⟩ := trodAll_cons hA
  obtain ⟨rfl, rfl, rfl⟩ := trodAll_nil r0
  obtain rfl : args = #[v0] := by cases args; simp_all
  obtain ⟨rfl, rfl⟩ := trodVars_none hV
  obtain ⟨a0, len0, cap0, rfl⟩ := okWide_slice Try.underlying22 (hval 0 22 v0 rfl rfl)
  have k0 := h0
  have lt0 : ∀ x ∈ p0, x.block < W.heap.size := by obtain ⟨m, hm⟩ := k0; exact DataW.trod_lt m _ _ _ hm
  obtain ⟨z0, w0⟩ := h0.elim (fun _ hf => open_ops hf)
  clear hA0 hval0
  refine (back_walk a0 len0 cap0 z0 W w0).mono fun e W' ⟨he, bel⟩ => ?_
  subst he
  exact ⟨_, rfl, _, _, _, [], _, [], hW', trodAll_mk1 (shut_bool Try.underlying4 _), (trodAll_cons_mk (Below.trod bitsBack_laidOut (by kernel_rfl) (of_decide_eq_true (by kernel_rfl)) k0 bel lt0) trodAll_mk0), rfl, bel.frame _, fun h => by cases h⟩

/-- THE STATEMENT. -/
theorem bitsBack_holds : Rows.BitsBackSaid :=
  OpenClaim.holds_of_wide 4 Try.f4 rfl rfl rfl rfl rfl rfl rfl ⟨rfl, rfl, rfl, rfl, rfl⟩ rfl rfl rfl rfl rfl (by kernel_rfl) Try.func4 (by kernel_rfl)
    (of_decide_eq_true (by kernel_rfl)) (by unfold Func.isWrapper; first | (rw [if_pos (by decide +kernel)]; kernel_rfl) | (rw [if_neg (by decide +kernel)]; exact ⟨rfl, rfl⟩))
    (fun os started H enc _ => bitsBack_lifted os started H enc)
#print axioms bitsBack_holds
end Go.Proofs.Ytlnhfdcmnlinkaa
