/-
  HistOrder: in whichever order tokens come, the counts are the same; counted in parts they are, too. For every list of numbers, every number.
  No condition: whatever the input, in whatever memory; the arguments read as before.
-/
import Derived.Test.YtgmfjgiakgoofaaAlive17
import Derived.ChangeOld
namespace Go.Proofs.Ytgmfjgiakgoofaa
open Go.ChangeShapes Go.WideShapes Go.ChangeAt Go.RowKit

/-- append of numbers, at a step of a region that draws its order. -/
theorem step_append_ints {ops : Array Oper} {o : Oper} {a : Act} {K : Act → World → Prop} {Q : Exit → Act → World → Prop} {E : Prop} (w : World) (hgd : o.guard = none) (s x : Operand)
    (ho : o.op = .call { callee := .builtin .append, args := #[s, x], argTypes := #[22, 22] })
    (base : Nat) (v : Value) (xs : List Int) (hs : a.eval s = v) (hown : w.ownsRow base 3 1 v xs.length (nats xs))
    (u : Value) (ys : List Int) (hx : a.eval x = u) (hu : Reads w u (nats ys)) (h63 : xs.length + ys.length ≤ 1000000) (hbase : base ≤ w.heap.size)
    (h : ∀ v' w', w'.ownsRow base 3 1 v' (xs ++ ys).length (nats (xs ++ ys)) → Below base w w' → K (a.put o.dst v') w') :
    if Region.wanted o (yielded ops a.tmps) = true then Oper.wp Try.prog o a w K Q else E := by
  have hw : Region.wanted o (yielded ops a.tmps) = true := by simp [Region.wanted, hgd]
  rw [if_pos hw]
  obtain ⟨v', w', hr, h2, h3⟩ := run_append_ints w o.type base v xs hown u ys hu h63 hbase
  unfold Oper.wp execOp
  simp only [ho, resolve, invoke, builtin, Sem.run_bind, Sem.run_pure, Result.andThen_ok, List.map_toArray, List.map_cons, List.map_nil, hs, hx, hr]
  exact h v' w' h2 h3

theorem Try.elemInts : Try.prog.underlying 22 = some (.slice (Try.prog.elem 22)) := by kernel_rfl
theorem Try.sizeInts (w : World) : (sizeOf (Try.prog.elem 22)).run Try.prog w = .ok 1 w := by kernel_rfl

/-- Two parts of a list of numbers. -/
theorem parts {w : World} {K cv : Nat} {av : Option Addr} {X : List Int} (h : Reads w (.slice av K cv) (nats X)) (hcap : K ≤ cv) (n : Nat) (hn : n ≤ K) :
    ∃ u1 u2, (∀ W : World, (Instr.slice 22 (.slice av K cv) (some (.int .i64 (n : Int))) none none).run Try.prog W = .ok u1 W) ∧ (∀ W : World, (Instr.slice 22 (.slice av K cv) none (some (.int .i64 (n : Int))) none).run Try.prog W = .ok u2 W) ∧ Reads w u1 (nats (X.drop n)) ∧ Reads w u2 (nats (X.take n)) := by
  obtain ⟨a2, c2, e, h2⟩ := h
  simp only [Value.slice.injEq] at e
  obtain ⟨rfl, hK, _⟩ := e
  rw [nats_length] at hK h2
  refine ⟨sliced av n K cv 1, sliced av 0 n cv 1, fun W => ?_, fun W => ?_, ?_⟩
  · rw [run_slice_l W _ av K cv Try.elemInts .i64 (n : Int) (by omega) (by omega), Try.sizeInts, Int.toNat_natCast]
    rfl
  · rw [run_slice_h W _ av K cv Try.elemInts .i64 (n : Int) (by omega) (by omega), Try.sizeInts, Int.toNat_natCast]
    rfl
  · unfold sliced
    refine ⟨⟨_, _, by rw [nats_length, List.length_drop, ← hK], ?_⟩, ⟨_, _, by rw [nats_length, List.length_take, ← hK, Nat.min_eq_left hn, Nat.sub_zero], ?_⟩⟩
    · rcases h2 with h0 | ⟨b, off, rfl, hb, hc⟩
      · exact .inl (by rw [nats_length, List.length_drop]; omega)
      · by_cases hz : n = K
        · exact .inl (by rw [nats_length, List.length_drop]; omega)
        · rw [if_neg (by omega)]
          refine .inr ⟨b, off + n * 1, by simp [Addr.add], hb, fun i hi => ?_⟩
          rw [nats_length, List.length_drop] at hi
          rw [show off + n * 1 + i = off + (n + i) by omega, hc (n + i) (by omega), nats_at _ (n + i) (by omega), nats_at _ i (by rw [List.length_drop]; omega), List.getElem_drop]
    · rcases h2 with h0 | ⟨b, off, rfl, hb, hc⟩
      · exact .inl (by rw [nats_length, List.length_take]; omega)
      · by_cases hz : cv = 0
        · exact .inl (by rw [nats_length, List.length_take]; omega)
        · rw [if_neg hz]
          refine .inr ⟨b, off, by simp [Addr.add], hb, fun i hi => ?_⟩
          rw [nats_length, List.length_take] at hi
          rw [hc i (by omega), nats_at _ i (by omega), nats_at _ i (by rw [List.length_take]; omega), List.getElem_take]

/-- Where the list is cut. -/
theorem cut_at (k : Int) (K : Nat) : ∃ r : Int, r = Int.tmod k ((K : Int) + 1) ∧ ∃ n : Nat, n ≤ K ∧ Int.tmod (r + (K : Int) + 1) ((K : Int) + 1) = (n : Int) ∧ -(K : Int) ≤ r ∧ r ≤ (K : Int) := by
  refine ⟨_, rfl, ?_⟩
  have h1 : Int.tmod k ((K : Int) + 1) < (K : Int) + 1 := Int.tmod_lt_of_pos k (by omega)
  have h2 : -((K : Int) + 1) < Int.tmod k ((K : Int) + 1) := by
    have h3 := Int.tmod_lt_of_pos (-k) (b := (K : Int) + 1) (by omega)
    rw [Int.neg_tmod] at h3
    omega
  obtain ⟨r, hr⟩ : ∃ r, r = Int.tmod k ((K : Int) + 1) := ⟨_, rfl⟩
  rw [← hr] at h1 h2 ⊢
  have h4 : 0 ≤ r + (K : Int) + 1 := by omega
  have h5 := Int.tmod_nonneg ((K : Int) + 1) h4
  have h6 := Int.tmod_lt_of_pos (r + (K : Int) + 1) (b := (K : Int) + 1) (by omega)
  exact ⟨(Int.tmod (r + (K : Int) + 1) ((K : Int) + 1)).toNat, by omega, by omega, by omega, by omega⟩

/-- The cut, as it is reckoned. -/
theorem cut_wrap (k : Int) (K : Nat) (hK : K ≤ 6000) : ∃ n : Nat, n ≤ K ∧ (wrap64 (wrap64 (k.tmod ((K : Int) + 1) + (K : Int)) + 1)).tmod ((K : Int) + 1) = (n : Int) := by
  obtain ⟨r, hr, n, h1, h2, h3, h4⟩ := cut_at k K
  rw [← hr]
  have e1 : wrap64 (r + (K : Int)) = r + (K : Int) := by unfold wrap64; omega
  have e2 : wrap64 (r + (K : Int) + 1) = r + (K : Int) + 1 := by unfold wrap64; omega
  rw [e1, e2]
  exact ⟨n, h1, h2⟩

/-- Turned, and in parts. -/
theorem order_math (X : List Int) (n : Nat) : ofL 356 ([] ++ X.drop n ++ X.take n) = ofL 356 X ∧ ofE 356 ([] ++ X.drop n ++ X.take n) = ofE 356 X ∧
    (ofE 356 (X.take n) = 0 ∧ ofL 356 (X.take n) = natI (cntH 356 (X.take n)) ∧ addE 356 (X.drop n) = ofE 356 X ∧ addH 356 (X.take n) (X.drop n) = ofL 356 X ∨ ofE 356 (X.take n) = 9 ∧ ofE 356 X = 9) := by
  have h356 : (356 : Int) = ((356 : Nat) : Int) := rfl
  have hin : inH 356 ([] ++ X.drop n ++ X.take n) ↔ inH 356 X := by
    rw [List.nil_append, inH_turn, List.take_append_drop]
  have hpa : inH 356 X ↔ inH 356 (X.take n) ∧ inH 356 (X.drop n) := by rw [← inH_append, List.take_append_drop]
  have hcn : cntH 356 ([] ++ ([] ++ X.drop n ++ X.take n)) = cntH 356 X := by
    rw [List.nil_append, List.nil_append, cntH_turn, List.take_append_drop]
  simp only [h356, ofL_fits _ (show 356 ≤ 356 by decide), ofE_fits _ (show 356 ≤ 356 by decide)]
  refine ⟨?_, ?_, ?_⟩
  · by_cases h : inH 356 X
    · rw [addH_in (hin.2 h), addH_in h, hcn, List.nil_append]
    · rw [addH_out (fun h2 => h (hin.1 h2)), addH_out h]
  · by_cases h : inH 356 X
    · rw [addE_in (hin.2 h), addE_in h]
    · rw [addE_out (fun h2 => h (hin.1 h2)), addE_out h]
  · by_cases h1 : inH 356 (X.take n)
    · left
      rw [addE_in h1, addH_in h1, List.nil_append]
      refine ⟨rfl, rfl, ?_, ?_⟩
      · by_cases h : inH 356 (X.drop n)
        · rw [addE_in h, addE_in (hpa.2 ⟨h1, h⟩)]
        · rw [addE_out h, addE_out (fun h2 => h (hpa.1 h2).2)]
      · by_cases h : inH 356 (X.drop n)
        · rw [addH_in h, addH_in (hpa.2 ⟨h1, h⟩), List.take_append_drop, List.nil_append]
        · rw [addH_out h, addH_out (fun h2 => h (hpa.1 h2).2)]
    · right
      rw [addE_out h1, addE_out (fun h2 => h1 (hpa.1 h2).1)]
      exact ⟨rfl, rfl⟩

theorem ofL_length (s : Int) (ys : List Int) : (ofL s ys).length ≤ 356 := by
  unfold ofL addH
  split
  · split
    · rw [natH_length]; omega
    · simp
  · simp

set_option maxRecDepth 20000 in
set_option maxHeartbeats 8000000 in
theorem order_walk (a : Option Addr) (len cap : Nat) (z : Nat → Int) (k : Int) (w : World) (hin : IsInts w a len z ∧ len ≤ cap) :
    Calls Try.prog 4 #[.slice a len cap, .int .i64 k] w fun e w' => e = .returned (.bool true) ∧ Below w.heap.size w w' := by
  obtain ⟨hin, hcap⟩ := hin
  by_cases h300 : len ≤ 300
  · have hd1 : decide ((300 : Int) < (len : Int)) = false := decide_eq_false (by omega)
    have hd2 : decide (300 < len) = false := decide_eq_false (by omega)
    obtain ⟨X, hX⟩ : ∃ X, X = (List.range len).map z := ⟨_, rfl⟩
    have hXl : X.length = len := by rw [hX]; simp
    have hr := isInts_reads (cap := cap) hin
    rw [← hX] at hr
    obtain ⟨n, hn, hcut⟩ := cut_wrap k len (by omega)
    obtain ⟨u1, u2, hsl1, hsl2, hru1, hru2⟩ := parts hr hcap n hn
    obtain ⟨m1, m2, m3⟩ := order_math X n
    have hl1 : (X.drop n).length ≤ 300 := by rw [List.length_drop]; omega
    have hl2 : (X.take n).length ≤ 300 := by rw [List.length_take]; omega
    have hl3 : ([] ++ X.drop n ++ X.take n).length ≤ 300 := by simp; omega
    have HR := hid hr
    have HU1 := hid hru1
    have HU2 := hid hru2
    have HXL := hid hXl
    obtain ⟨H, hH⟩ : ∃ H, H = ofL 356 X := ⟨_, rfl⟩
    obtain ⟨E, hE⟩ : ∃ E, E = ofE 356 X := ⟨_, rfl⟩
    have hHl : H.length ≤ 1000000 := by rw [hH]; have := ofL_length 356 X; omega
    rw [← hH] at m1 m3
    rw [← hE] at m2 m3
    obtain ⟨X1, hX1⟩ : ∃ X1, X1 = X.drop n := ⟨_, rfl⟩
    obtain ⟨X2, hX2⟩ : ∃ X2, X2 = X.take n := ⟨_, rfl⟩
    rw [← hX1, ← hX2] at m1 m2 m3
    rw [← hX1] at HU1 hl1
    rw [← hX2] at HU2 hl2
    rw [← hX1, ← hX2] at hl3
    have HH := hid hH
    have HE := hid hE
    have M1 := hid m1
    have M2 := hid m2
    have eE : (E != E) = false := by simp
    have eE2 : (E == E) = true := by simp
    clear hr hru1 hru2 hX hXl hin hH hE m1 m2 hX1 hX2
    rcases m3 with ⟨n1, n2, n3, n4⟩ | ⟨n1, n2⟩
    · have N1 := hid n1
      have N2 := hid n2
      have N3 := hid n3
      have N4 := hid n4
      clear n1 n2 n3 n4
      go_enter Try.func4, Try.ntmps4
      go_wp2_with (first
        | (go_at_call 6; refine (alive_17 _).mono ?_; rintro e w1 ⟨rfl, hb1⟩; have HB1 := hid hb1; have HR1 := hid (HR.out.below hb1); clear hb1)
        | (go_at_call 8; refine (of_any 356 HR1.out (by rw [HXL.out]; omega)).mono ?_; rintro e w2 ⟨v2, rfl, ho2, hb2⟩; rw [← HE.out]; rw [← HH.out] at ho2; have HO2 := hid ho2; have HB2 := hid (below_more HB1.out hb2); have hdr : Below w2.heap.size w2 w2.drew := (Below.refl _ _).drew; have HU1d := hid ((HU1.out.below HB2.out).below hdr); have HU2d := hid ((HU2.out.below HB2.out).below hdr); clear ho2 hb2))
      go_region_law (first
        | (have _h := HH1; refine step_append_ints _ (by rfl) (.tmp 46) (.tmp 49) (by rfl) w2.heap.size v7 ([] ++ X1) (by simp [Act.eval]) HO7.out u2 X2 (by simp [Act.eval]) (HU2d.out.below HH1.out) (by simp; omega) HH1.out.size ?_; intro v8 w8 hown8 hb8; have HO8 := hid hown8; have HH2 : Hid (Below w2.heap.size w2 w8) := hdr.trans (HH1.out.trans hb8); clear hown8 hb8 _h)
        | (refine step_append_ints _ (by rfl) (.const (.slice none 0 0)) (.tmp 45) (by rfl) w2.heap.size (.slice none 0 0) [] (by rfl) (World.ownsRow_nil _ _ _ _) u1 X1 (by first | rfl | (simp [Act.eval]; done)) HU1d.out (by simp; omega) (Nat.le_refl _) ?_; intro v7 w7 hown7 hb7; have HO7 := hid hown7; have HH1 : Hid (Below w2.drew.heap.size w2.drew w7) := hb7; clear hown7 hb7))
      have HB8 := hid (below_more HB2.out HH2.out)
      have HR2' := hid ((ownsRow_reads HO2.out).below HH2.out)
      have HR8 := hid (ownsRow_reads HO8.out)
      have HU1' := hid (HU1.out.below HB8.out)
      have HU2' := hid (HU2.out.below HB8.out)
      clear HO8 HO7 HH1 HH2 hdr HU1d HU2d HO2 HR1 HB2 HB1
      go_wp2_with (first
        | (have _h := HB12; go_at_call 12; refine (sameInts_any (xs := H) (ys := H) HR12.out HH12.out hHl hHl).mono ?_; rintro e w13 ⟨rfl, hb13⟩; rw [decide_eq_true rfl]; have HB13 := hid (below_more HB12.out hb13); clear hb13 HB12 _h)
        | (go_at_call 10; refine (add_any (n := 356) HC11.out HU111.out (by omega) (by omega)).mono ?_; rintro e w12 ⟨v12, rfl, ho12, hb12⟩; rw [N3.out]; rw [N4.out] at ho12; have HR12 := hid (ownsRow_reads ho12); have HH12 := hid (HH11.out.below hb12); have HB12 := hid (below_more HB11.out hb12); clear ho12 hb12 HB11)
        | (have _h := HB10; go_at_call 12; refine (sameInts_any (xs := H) (ys := H) HH10.out HR9b.out hHl hHl).mono ?_; rintro e w11 ⟨rfl, hb11⟩; rw [decide_eq_true rfl]; have HC11 := hid (HC10.out.below hb11); have HU111 := hid (HU110.out.below hb11); have HB11 := hid (below_more HB10.out hb11); have HH11 := hid (HH10.out.below hb11); clear hb11 HB10 _h)
        | (have _h := HR9; go_at_call 8; refine (of_any 356 HU29.out (by omega)).mono ?_; rintro e w10 ⟨v10, rfl, ho10, hb10⟩; rw [N1.out]; rw [N2.out] at ho10; have HC10 := hid (ownsRow_reads ho10); have HR9b := hid (HR9.out.below hb10); have HU110 := hid (HU19.out.below hb10); have HH10 := hid (HH9.out.below hb10); have HB10 := hid (below_more HB9.out hb10); clear ho10 hb10 _h HR9)
        | (go_at_call 8; refine (of_any 356 HR8.out (by omega)).mono ?_; rintro e w9 ⟨v9, rfl, ho9, hb9⟩; rw [M2.out]; rw [M1.out] at ho9; have HR9 := hid (ownsRow_reads ho9); have HB9 := hid (below_more HB8.out hb9); have HU19 := hid (HU1'.out.below hb9); have HU29 := hid (HU2'.out.below hb9); have HH9 := hid (HR2'.out.below hb9); clear ho9 hb9))
      all_goals go_ret
      all_goals exact ⟨by simp, HB13.out⟩
    · have N1 := hid n1
      subst n2
      clear n1
      go_enter Try.func4, Try.ntmps4
      go_wp2_with (first
        | (go_at_call 6; refine (alive_17 _).mono ?_; rintro e w1 ⟨rfl, hb1⟩; have HB1 := hid hb1; have HR1 := hid (HR.out.below hb1); clear hb1)
        | (go_at_call 8; refine (of_any 356 HR1.out (by rw [HXL.out]; omega)).mono ?_; rintro e w2 ⟨v2, rfl, ho2, hb2⟩; rw [← HE.out]; rw [← HH.out] at ho2; have HO2 := hid ho2; have HB2 := hid (below_more HB1.out hb2); have hdr : Below w2.heap.size w2 w2.drew := (Below.refl _ _).drew; have HU1d := hid ((HU1.out.below HB2.out).below hdr); have HU2d := hid ((HU2.out.below HB2.out).below hdr); clear ho2 hb2))
      go_region_law (first
        | (have _h := HH1; refine step_append_ints _ (by rfl) (.tmp 46) (.tmp 49) (by rfl) w2.heap.size v7 ([] ++ X1) (by simp [Act.eval]) HO7.out u2 X2 (by simp [Act.eval]) (HU2d.out.below HH1.out) (by simp; omega) HH1.out.size ?_; intro v8 w8 hown8 hb8; have HO8 := hid hown8; have HH2 : Hid (Below w2.heap.size w2 w8) := hdr.trans (HH1.out.trans hb8); clear hown8 hb8 _h)
        | (refine step_append_ints _ (by rfl) (.const (.slice none 0 0)) (.tmp 45) (by rfl) w2.heap.size (.slice none 0 0) [] (by rfl) (World.ownsRow_nil _ _ _ _) u1 X1 (by first | rfl | (simp [Act.eval]; done)) HU1d.out (by simp; omega) (Nat.le_refl _) ?_; intro v7 w7 hown7 hb7; have HO7 := hid hown7; have HH1 : Hid (Below w2.drew.heap.size w2.drew w7) := hb7; clear hown7 hb7))
      have HB8 := hid (below_more HB2.out HH2.out)
      have HR2' := hid ((ownsRow_reads HO2.out).below HH2.out)
      have HR8 := hid (ownsRow_reads HO8.out)
      have HU1' := hid (HU1.out.below HB8.out)
      have HU2' := hid (HU2.out.below HB8.out)
      clear HO8 HO7 HH1 HH2 hdr HU1d HU2d HO2 HR1 HB2 HB1
      go_wp2_with (first
        | (have _h := HB10; go_at_call 12; refine (sameInts_any (xs := H) (ys := H) HH10.out HR9b.out hHl hHl).mono ?_; rintro e w11 ⟨rfl, hb11⟩; rw [decide_eq_true rfl]; have _k := HB10; have HB11 := hid (below_more HB10.out hb11); have HH11 := hid (HH10.out.below hb11); clear hb11 HB10 _h)
        | (have _h := HR9; go_at_call 8; refine (of_any 356 HU29.out (by omega)).mono ?_; rintro e w10 ⟨v10, rfl, ho10, hb10⟩; rw [N1.out]; obtain ⟨a10, c10, rfl⟩ := ownsRow_slice ho10; have HR9b := hid (HR9.out.below hb10); have HU110 := hid (HU19.out.below hb10); have HH10 := hid (HH9.out.below hb10); have HB10 := hid (below_more HB9.out hb10); clear ho10 hb10 _h HR9)
        | (go_at_call 8; refine (of_any 356 HR8.out (by omega)).mono ?_; rintro e w9 ⟨v9, rfl, ho9, hb9⟩; rw [M2.out]; rw [M1.out] at ho9; have HR9 := hid (ownsRow_reads ho9); have HB9 := hid (below_more HB8.out hb9); have HU19 := hid (HU1'.out.below hb9); have HU29 := hid (HU2'.out.below hb9); have HH9 := hid (HR2'.out.below hb9); clear ho9 hb9))
      all_goals go_ret
      all_goals exact ⟨by simp, HB11.out⟩
  · have hd1 : decide ((300 : Int) < (len : Int)) = true := decide_eq_true (by omega)
    have hd2 : decide (300 < len) = true := decide_eq_true (by omega)
    clear hin
    go_enter Try.func4, Try.ntmps4
    go_wp2_with (first
      | (go_at_call 6; refine (alive_17 _).mono ?_; rintro e w1 ⟨rfl, hb1⟩))
    all_goals go_ret
    all_goals exact ⟨by simp, hb1⟩

set_option linter.unusedVariables false
theorem histOrder_own : ownKnob Try.prog.godebug = none := by kernel_rfl

theorem histOrder_laidOut : laidOutB Try.prog = true := by kernel_rfl

set_option maxRecDepth 100000 in
theorem histOrder_lifted (os : Os) (started : os.Started) (H : Type) (enc : TypeId × Value → H) :
    ReturnsInHanded {} Try.checked os 4 .any (Rows.histOrderSpec.pre6 enc Try.prog Try.f4 Rows.histOrderRow.domain false) (Rows.histOrderSpec.post enc Try.prog Try.f4 false true false false) := by
  refine returnsInHanded_of_change (C := Try.checked) histOrder_own started (by kernel_rfl) Try.func4
    (ChangeSpec.witness6 (enc := enc) (C := Try.checked) false ⟨#[], #[.slice none 0 0, .int .i64 0], []⟩ 8 (by kernel_rfl) (by kernel_rfl) (by kernel_rfl) (by kernel_rfl)) ?_
  intro W base args ds gs before hval0 hW hcnd _
  have hval : ∀ (j : Nat) t v, Try.f4.params[j]? = some t → args[j]? = some v → Value.okWide Try.prog W .any base t v := hval0
  have hW' := hW
  obtain ⟨p, q, hA0, hV, rfl, hfz, hnd⟩ := hW
  have hA : DataW.TrodAll enc Try.prog W 0 (fun _ => true) true Try.f4.params.toList args.toList ds p := hA0
  rw [Try.params4] at hA hval
  obtain ⟨v0, vs0, d0, ds0, p0, q0, hargs, rfl, rfl, h0, r0⟩ := trodAll_cons hA
  obtain ⟨v1, vs1, d1, ds1, p1, q1, rfl, rfl, rfl, h1, r1⟩ := trodAll_cons r0
  obtain ⟨rfl, rfl, rfl⟩ := trodAll_nil r1
  obtain rfl : args = #[v0, v1] := by cases args; simp_all
  obtain ⟨rfl, rfl⟩ := trodVars_none hV
  obtain ⟨a0, len0, cap0, rfl⟩ := okWide_slice Try.underlying22 (hval 0 22 v0 rfl rfl)
  have k0 := h0
  have lt0 : ∀ x ∈ p0, x.block < W.heap.size := by obtain ⟨m, hm⟩ := k0; exact DataW.trod_lt m _ _ _ hm
  obtain ⟨z0, w0⟩ := h0.elim (fun _ hf => open_numbersC hf)
  obtain ⟨a1, rfl, rfl, rfl, w1⟩ := open_int Try.underlying3 (hval 1 3 v1 rfl rfl) h1
  clear hA0 hval0
  refine (order_walk a0 len0 cap0 z0 a1 W w0).mono fun e W' ⟨he, bel⟩ => ?_
  subst he
  exact ⟨_, rfl, _, _, _, [], _, [], hW', trodAll_mk1 (shut_bool Try.underlying4 _), (trodAll_cons_mk (Below.trod histOrder_laidOut (by kernel_rfl) (of_decide_eq_true (by kernel_rfl)) k0 bel lt0) (trodAll_cons_mk (shut_int Try.underlying3 w1) trodAll_mk0)), rfl, bel.frame _, fun h => by cases h⟩

/-- THE STATEMENT. -/
theorem histOrder_holds : Rows.HistOrderSaid :=
  OpenClaim.holds_of_wide 4 Try.f4 rfl rfl rfl rfl rfl rfl rfl ⟨rfl, rfl, rfl, rfl, rfl⟩ rfl rfl rfl rfl rfl (by kernel_rfl) Try.func4 (by kernel_rfl)
    (of_decide_eq_true (by kernel_rfl)) (by unfold Func.isWrapper; first | (rw [if_pos (by decide +kernel)]; kernel_rfl) | (rw [if_neg (by decide +kernel)]; exact ⟨rfl, rfl⟩))
    (fun os started H enc _ => histOrder_lifted os started H enc)
#print axioms histOrder_holds
end Go.Proofs.Ytgmfjgiakgoofaa
