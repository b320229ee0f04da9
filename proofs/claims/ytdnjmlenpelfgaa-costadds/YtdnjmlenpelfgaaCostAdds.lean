/-
  CostAdds: costs are added part by part; one token more always costs more. For every list of integers, every token.
  No condition: whatever the input, in whatever memory; the arguments read as before.
-/
import Derived.Test.YtdnjmlenpelfgaaAlive12
import Derived.ChangeOld
namespace Go.Proofs.Ytdnjmlenpelfgaa
open Go.ChangeShapes Go.WideShapes Go.ChangeAt Go.RowKit

theorem size_more (w : World) (o : Obj) : w.heap.size < (w.alloc o).heap.size := by simp

set_option maxRecDepth 100000 in
set_option maxHeartbeats 2000000 in
theorem adds_walk (a : Option Addr) (len cap : Nat) (z : Nat → Int) (x : Int) (w : World) (hin : IsInts w a len z) : Calls Try.prog 5 #[.slice a len cap, .int .i64 x] w fun e w' => e = .returned (.bool true) ∧ Below w.heap.size w w' := by
  by_cases hl : len ≤ 1000
  · have hd0 : decide ((1000 : Int) < (len : Int)) = false := decide_eq_false (by omega)
    have hd1 : decide (1000 < len) = false := decide_eq_false (by omega)
    have hr := isInts_reads (cap := cap) hin
    obtain ⟨xs, hxs⟩ : ∃ xs, xs = (List.range len).map z := ⟨_, rfl⟩
    rw [← hxs] at hr
    have hxl : xs.length = len := by rw [hxs]; simp
    clear hxs hin
    subst hxl
    have hfew : Hid (xs.length + [x].length ≤ 1000000) := by show xs.length + [x].length ≤ 1000000; simp; omega
    have hfew0 : Hid (([] : List Int).length + xs.length ≤ 1000000) := by show ([] : List Int).length + xs.length ≤ 1000000; simp; omega
    have hT := tks_le xs
    have hB := bts_le xs
    have hTx := tk_le x
    have hBx := bt_le x
    have HS := hid (fun (W : World) (v : Value) (hv : Reads W v (nats xs)) => sum_any hv (by omega))
    have HS2 := hid (fun (W : World) (v : Value) (hv : Reads W v (nats (xs ++ [x]))) => sum_any hv (by rw [List.length_append]; simp; omega))
    rw [tks_snoc, bts_snoc] at HS2
    have HO := hid (fun W => of_any x W)
    have hcase : (tk x = 1 ∧ 8 ≤ bt x ∧ 0 ≤ x ∧ x ≤ 4294967295) ∨ (tk x = 0 ∧ bt x = 0 ∧ (x < 0 ∨ 0 ≤ x ∧ 4294967295 < x)) := by
      rcases in_or_out x with ⟨n, rfl, hn⟩ | h
      · rcases tk_bt (n : Int) with h1 | h1
        · exact .inl ⟨h1.1, h1.2, by omega, by omega⟩
        · rw [tk_in n hn] at h1; omega
      · exact .inr ⟨tk_out x h, bt_out x h, by omega⟩
    obtain ⟨t, ht⟩ : ∃ t, t = tks xs := ⟨_, rfl⟩
    obtain ⟨b, hb⟩ : ∃ b, b = bts xs := ⟨_, rfl⟩
    obtain ⟨p, hp⟩ : ∃ p, p = tk x := ⟨_, rfl⟩
    obtain ⟨q, hq⟩ : ∃ q, q = bt x := ⟨_, rfl⟩
    obtain ⟨T, hTe⟩ : ∃ T, T = t + p := ⟨_, rfl⟩
    obtain ⟨B, hBe⟩ : ∃ B, B = b + q := ⟨_, rfl⟩
    rw [← ht, ← hb] at HS
    rw [← ht, ← hb, ← hp, ← hq, ← hTe, ← hBe] at HS2
    rw [← hp, ← hq] at HO
    rw [← hp, ← hq] at hcase
    rw [← ht] at hT
    rw [← hb] at hB
    rw [← hp] at hTx
    rw [← hq] at hBx
    clear ht hb hp hq
    have s1 : (t : Int) + (p : Int) = (T : Int) := by omega
    have s2 : (b : Int) + (q : Int) = (B : Int) := by omega
    have e1 := eq_self T (by omega)
    have e2 := eq_self B (by omega)
    have hadd0 := cadd_fN t b p q (by omega) (by omega)
    rw [← hTe, ← hBe] at hadd0
    have hadd := fun (ty : TypeId) (W : World) => run_complex_sum (P := Try.prog) W .add (Or.inl rfl) ty .f64 (fN t) (fN b) (fN p) (fN q) _ _ hadd0
    have Ka := hid (fun W => tokens_in t b (by omega) W)
    have Kb := hid (fun W => tokens_in p q (by omega) W)
    have Ks := hid (fun W => tokens_in T B (by omega) W)
    have Ba := hid (fun W => bits_in t b (by omega) W)
    have Bb := hid (fun W => bits_in p q (by omega) W)
    have Bs := hid (fun W => bits_in T B (by omega) W)
    have L1 := hid (fun W => less_in t b T B (by omega) (by omega) (by omega) (by omega) W)
    have L2 := hid (fun W => less_in T B t b (by omega) (by omega) (by omega) (by omega) W)
    rw [decide_eq_false (by omega)] at L2
    clear hadd0
    rcases hcase with ⟨c1, c2, c3, c4⟩ | ⟨c1, c2, c3⟩
    · rw [decide_eq_true (by omega)] at L1
      have o1 : (FloatKind.f64.format.order (fN p) 0 == some .eq) = false := by rw [c1]; exact neq_one
      clear c1 c2 hTe hBe
      obtain ⟨wt, hwt⟩ : ∃ y, y = fN t := ⟨_, rfl⟩
      obtain ⟨wb, hwb⟩ : ∃ y, y = fN b := ⟨_, rfl⟩
      obtain ⟨wp, hwp⟩ : ∃ y, y = fN p := ⟨_, rfl⟩
      obtain ⟨wq, hwq⟩ : ∃ y, y = fN q := ⟨_, rfl⟩
      obtain ⟨wT, hwT⟩ : ∃ y, y = fN T := ⟨_, rfl⟩
      obtain ⟨wB, hwB⟩ : ∃ y, y = fN B := ⟨_, rfl⟩
      simp only [← hwt, ← hwb, ← hwp, ← hwq, ← hwT, ← hwB] at HS HS2 HO e1 e2 hadd Ka Kb Ks Ba Bb Bs L1 L2 o1 
      clear hwt hwb hwp hwq hwT hwB
      have bt : t ≤ 1000 := by omega
      have bb : b ≤ 40000 := by omega
      clear hT hB
      go_enter Try.func5, Try.ntmps5
      go_wp2_with (first
        | (go_at_call 8; refine (alive_any _).mono ?_; rintro e w1 ⟨rfl, hb1⟩; have HB1 := hid hb1; have hr1 := hr.below hb1; have HR1 := hid hr1; clear hb1 hr1)
        | (have _h := later; go_at_call 11; refine (HS2.out _ _ HR5.out).mono ?_; rintro e w5 ⟨rfl, rfl⟩)
        | (go_at_call 11; refine (HS.out _ _ HR1.out).mono ?_; rintro e w2 ⟨rfl, rfl⟩)
        | (go_at_call 12; refine (HO.out _).mono ?_; rintro e w2 ⟨rfl, rfl⟩; have later0 : True := trivial)
        | (have _h := later1; at_builtin; refine wpList_append_ints rfl (.tmp 22) (.tmp 24) rfl w2.heap.size _ xs rfl (HO3.out.alloc _) _ [x] rfl (reads_built w3 #[.int .i64 x] _ 1 rfl) hfew.out (HA3.out _) ?_; intro v4 w4 hown4 hb4; have HR5 := hid (ownsRow_reads hown4); have HB4 := hid ((HB3.out.alloc HS3.out _).trans hb4); have later : True := trivial; clear hown4 hb4 _h later1)
        | (have _h := later0; at_builtin; refine wpList_append_ints rfl (.const (.slice none 0 0)) (.tmp 21) rfl w2.heap.size _ [] rfl (World.ownsRow_nil _ _ _ _) _ xs rfl HR1.out hfew0.out (Nat.le_refl _) ?_; intro v3 w3 hown3 hb3; rw [List.nil_append] at hown3; have HO3 := hid hown3; have HB3 := hid hb3; have HS3 := hid hb3.size; have HA3 := hid (fun o : Obj => Nat.le_trans hb3.size (Nat.le_of_lt (size_more w3 o))); obtain ⟨a3, k3, hv3⟩ := ownsRow_slice hown3; subst hv3; have later1 : True := trivial; clear hown3 hb3 _h later0)
        | (go_at_call_of 13 (#[Value.complex FloatKind.f64 wt wb] : Array Value); refine (Ka.out _).mono ?_; rintro e w5 ⟨rfl, rfl⟩)
        | (go_at_call_of 13 (#[Value.complex FloatKind.f64 wp wq] : Array Value); refine (Kb.out _).mono ?_; rintro e w5 ⟨rfl, rfl⟩)
        | (go_at_call_of 13 (#[Value.complex FloatKind.f64 wT wB] : Array Value); refine (Ks.out _).mono ?_; rintro e w5 ⟨rfl, rfl⟩)
        | (go_at_call_of 14 (#[Value.complex FloatKind.f64 wt wb] : Array Value); refine (Ba.out _).mono ?_; rintro e w5 ⟨rfl, rfl⟩)
        | (go_at_call_of 14 (#[Value.complex FloatKind.f64 wp wq] : Array Value); refine (Bb.out _).mono ?_; rintro e w5 ⟨rfl, rfl⟩)
        | (go_at_call_of 14 (#[Value.complex FloatKind.f64 wT wB] : Array Value); refine (Bs.out _).mono ?_; rintro e w5 ⟨rfl, rfl⟩)
        | (go_at_call_of 15 (#[Value.complex FloatKind.f64 wt wb, Value.complex FloatKind.f64 wT wB] : Array Value); refine (L1.out _).mono ?_; rintro e w5 ⟨rfl, rfl⟩)
        | (go_at_call_of 15 (#[Value.complex FloatKind.f64 wT wB, Value.complex FloatKind.f64 wt wb] : Array Value); refine (L2.out _).mono ?_; rintro e w5 ⟨rfl, rfl⟩))
      go_ret
      exact ⟨rfl, below_more HB1.out HB4.out⟩

    · rw [decide_eq_false (by omega)] at L1
      have o1 : (FloatKind.f64.format.order (fN p) 0 == some .eq) = true := by rw [c1]; exact eq_zero
      have o2 : (FloatKind.f64.format.order (fN q) 0 == some .eq) = true := by rw [c2]; exact eq_zero
      rcases c3 with c3 | ⟨c3, c4⟩
      · clear c1 c2 hTe hBe
        obtain ⟨wt, hwt⟩ : ∃ y, y = fN t := ⟨_, rfl⟩
        obtain ⟨wb, hwb⟩ : ∃ y, y = fN b := ⟨_, rfl⟩
        obtain ⟨wp, hwp⟩ : ∃ y, y = fN p := ⟨_, rfl⟩
        obtain ⟨wq, hwq⟩ : ∃ y, y = fN q := ⟨_, rfl⟩
        obtain ⟨wT, hwT⟩ : ∃ y, y = fN T := ⟨_, rfl⟩
        obtain ⟨wB, hwB⟩ : ∃ y, y = fN B := ⟨_, rfl⟩
        simp only [← hwt, ← hwb, ← hwp, ← hwq, ← hwT, ← hwB] at HS HS2 HO e1 e2 hadd Ka Kb Ks Ba Bb Bs L1 L2 o1 o2
        clear hwt hwb hwp hwq hwT hwB
        have bt : t ≤ 1000 := by omega
        have bb : b ≤ 40000 := by omega
        clear hT hB
        go_enter Try.func5, Try.ntmps5
        go_wp2_with (first
          | (go_at_call 8; refine (alive_any _).mono ?_; rintro e w1 ⟨rfl, hb1⟩; have HB1 := hid hb1; have hr1 := hr.below hb1; have HR1 := hid hr1; clear hb1 hr1)
          | (have _h := later; go_at_call 11; refine (HS2.out _ _ HR5.out).mono ?_; rintro e w5 ⟨rfl, rfl⟩)
          | (go_at_call 11; refine (HS.out _ _ HR1.out).mono ?_; rintro e w2 ⟨rfl, rfl⟩)
          | (go_at_call 12; refine (HO.out _).mono ?_; rintro e w2 ⟨rfl, rfl⟩; have later0 : True := trivial)
          | (have _h := later1; at_builtin; refine wpList_append_ints rfl (.tmp 22) (.tmp 24) rfl w2.heap.size _ xs rfl (HO3.out.alloc _) _ [x] rfl (reads_built w3 #[.int .i64 x] _ 1 rfl) hfew.out (HA3.out _) ?_; intro v4 w4 hown4 hb4; have HR5 := hid (ownsRow_reads hown4); have HB4 := hid ((HB3.out.alloc HS3.out _).trans hb4); have later : True := trivial; clear hown4 hb4 _h later1)
          | (have _h := later0; at_builtin; refine wpList_append_ints rfl (.const (.slice none 0 0)) (.tmp 21) rfl w2.heap.size _ [] rfl (World.ownsRow_nil _ _ _ _) _ xs rfl HR1.out hfew0.out (Nat.le_refl _) ?_; intro v3 w3 hown3 hb3; rw [List.nil_append] at hown3; have HO3 := hid hown3; have HB3 := hid hb3; have HS3 := hid hb3.size; have HA3 := hid (fun o : Obj => Nat.le_trans hb3.size (Nat.le_of_lt (size_more w3 o))); obtain ⟨a3, k3, hv3⟩ := ownsRow_slice hown3; subst hv3; have later1 : True := trivial; clear hown3 hb3 _h later0)
          | (go_at_call_of 13 (#[Value.complex FloatKind.f64 wt wb] : Array Value); refine (Ka.out _).mono ?_; rintro e w5 ⟨rfl, rfl⟩)
          | (go_at_call_of 13 (#[Value.complex FloatKind.f64 wp wq] : Array Value); refine (Kb.out _).mono ?_; rintro e w5 ⟨rfl, rfl⟩)
          | (go_at_call_of 13 (#[Value.complex FloatKind.f64 wT wB] : Array Value); refine (Ks.out _).mono ?_; rintro e w5 ⟨rfl, rfl⟩)
          | (go_at_call_of 14 (#[Value.complex FloatKind.f64 wt wb] : Array Value); refine (Ba.out _).mono ?_; rintro e w5 ⟨rfl, rfl⟩)
          | (go_at_call_of 14 (#[Value.complex FloatKind.f64 wp wq] : Array Value); refine (Bb.out _).mono ?_; rintro e w5 ⟨rfl, rfl⟩)
          | (go_at_call_of 14 (#[Value.complex FloatKind.f64 wT wB] : Array Value); refine (Bs.out _).mono ?_; rintro e w5 ⟨rfl, rfl⟩)
          | (go_at_call_of 15 (#[Value.complex FloatKind.f64 wt wb, Value.complex FloatKind.f64 wT wB] : Array Value); refine (L1.out _).mono ?_; rintro e w5 ⟨rfl, rfl⟩)
          | (go_at_call_of 15 (#[Value.complex FloatKind.f64 wT wB, Value.complex FloatKind.f64 wt wb] : Array Value); refine (L2.out _).mono ?_; rintro e w5 ⟨rfl, rfl⟩))
        go_ret
        exact ⟨rfl, below_more HB1.out HB4.out⟩

      · have d9 : decide (x ≤ 4294967295) = false := decide_eq_false (by omega)
        clear c1 c2 hTe hBe
        obtain ⟨wt, hwt⟩ : ∃ y, y = fN t := ⟨_, rfl⟩
        obtain ⟨wb, hwb⟩ : ∃ y, y = fN b := ⟨_, rfl⟩
        obtain ⟨wp, hwp⟩ : ∃ y, y = fN p := ⟨_, rfl⟩
        obtain ⟨wq, hwq⟩ : ∃ y, y = fN q := ⟨_, rfl⟩
        obtain ⟨wT, hwT⟩ : ∃ y, y = fN T := ⟨_, rfl⟩
        obtain ⟨wB, hwB⟩ : ∃ y, y = fN B := ⟨_, rfl⟩
        simp only [← hwt, ← hwb, ← hwp, ← hwq, ← hwT, ← hwB] at HS HS2 HO e1 e2 hadd Ka Kb Ks Ba Bb Bs L1 L2 o1 o2
        clear hwt hwb hwp hwq hwT hwB
        have bt : t ≤ 1000 := by omega
        have bb : b ≤ 40000 := by omega
        clear hT hB
        go_enter Try.func5, Try.ntmps5
        go_wp2_with (first
          | (go_at_call 8; refine (alive_any _).mono ?_; rintro e w1 ⟨rfl, hb1⟩; have HB1 := hid hb1; have hr1 := hr.below hb1; have HR1 := hid hr1; clear hb1 hr1)
          | (have _h := later; go_at_call 11; refine (HS2.out _ _ HR5.out).mono ?_; rintro e w5 ⟨rfl, rfl⟩)
          | (go_at_call 11; refine (HS.out _ _ HR1.out).mono ?_; rintro e w2 ⟨rfl, rfl⟩)
          | (go_at_call 12; refine (HO.out _).mono ?_; rintro e w2 ⟨rfl, rfl⟩; have later0 : True := trivial)
          | (have _h := later1; at_builtin; refine wpList_append_ints rfl (.tmp 22) (.tmp 24) rfl w2.heap.size _ xs rfl (HO3.out.alloc _) _ [x] rfl (reads_built w3 #[.int .i64 x] _ 1 rfl) hfew.out (HA3.out _) ?_; intro v4 w4 hown4 hb4; have HR5 := hid (ownsRow_reads hown4); have HB4 := hid ((HB3.out.alloc HS3.out _).trans hb4); have later : True := trivial; clear hown4 hb4 _h later1)
          | (have _h := later0; at_builtin; refine wpList_append_ints rfl (.const (.slice none 0 0)) (.tmp 21) rfl w2.heap.size _ [] rfl (World.ownsRow_nil _ _ _ _) _ xs rfl HR1.out hfew0.out (Nat.le_refl _) ?_; intro v3 w3 hown3 hb3; rw [List.nil_append] at hown3; have HO3 := hid hown3; have HB3 := hid hb3; have HS3 := hid hb3.size; have HA3 := hid (fun o : Obj => Nat.le_trans hb3.size (Nat.le_of_lt (size_more w3 o))); obtain ⟨a3, k3, hv3⟩ := ownsRow_slice hown3; subst hv3; have later1 : True := trivial; clear hown3 hb3 _h later0)
          | (go_at_call_of 13 (#[Value.complex FloatKind.f64 wt wb] : Array Value); refine (Ka.out _).mono ?_; rintro e w5 ⟨rfl, rfl⟩)
          | (go_at_call_of 13 (#[Value.complex FloatKind.f64 wp wq] : Array Value); refine (Kb.out _).mono ?_; rintro e w5 ⟨rfl, rfl⟩)
          | (go_at_call_of 13 (#[Value.complex FloatKind.f64 wT wB] : Array Value); refine (Ks.out _).mono ?_; rintro e w5 ⟨rfl, rfl⟩)
          | (go_at_call_of 14 (#[Value.complex FloatKind.f64 wt wb] : Array Value); refine (Ba.out _).mono ?_; rintro e w5 ⟨rfl, rfl⟩)
          | (go_at_call_of 14 (#[Value.complex FloatKind.f64 wp wq] : Array Value); refine (Bb.out _).mono ?_; rintro e w5 ⟨rfl, rfl⟩)
          | (go_at_call_of 14 (#[Value.complex FloatKind.f64 wT wB] : Array Value); refine (Bs.out _).mono ?_; rintro e w5 ⟨rfl, rfl⟩)
          | (go_at_call_of 15 (#[Value.complex FloatKind.f64 wt wb, Value.complex FloatKind.f64 wT wB] : Array Value); refine (L1.out _).mono ?_; rintro e w5 ⟨rfl, rfl⟩)
          | (go_at_call_of 15 (#[Value.complex FloatKind.f64 wT wB, Value.complex FloatKind.f64 wt wb] : Array Value); refine (L2.out _).mono ?_; rintro e w5 ⟨rfl, rfl⟩))
        go_ret
        exact ⟨rfl, below_more HB1.out HB4.out⟩

  · have hd0 : decide ((1000 : Int) < (len : Int)) = true := decide_eq_true (by omega)
    have hd1 : decide (1000 < len) = true := decide_eq_true (by omega)
    go_enter Try.func5, Try.ntmps5
    go_wp2_with (go_at_call 8; refine (alive_any _).mono ?_; rintro e w1 ⟨rfl, hb1⟩)
    go_ret
    exact ⟨rfl, hb1⟩

set_option linter.unusedVariables false
theorem costAdds_own : ownKnob Try.prog.godebug = none := by kernel_rfl

theorem costAdds_laidOut : laidOutB Try.prog = true := by kernel_rfl

set_option maxRecDepth 100000 in
theorem costAdds_lifted (os : Os) (started : os.Started) (H : Type) (enc : TypeId × Value → H) :
    ReturnsInHanded {} Try.checked os 5 .any (Rows.costAddsSpec.pre6 enc Try.prog Try.f5 Rows.costAddsRow.domain false) (Rows.costAddsSpec.post enc Try.prog Try.f5 false true false false) := by
  refine returnsInHanded_of_change (C := Try.checked) costAdds_own started (by kernel_rfl) Try.func5
    (ChangeSpec.witness6 (enc := enc) (C := Try.checked) false ⟨#[], #[.slice none 0 0, .int .i64 0], []⟩ 8 (by kernel_rfl) (by kernel_rfl) (by kernel_rfl) (by kernel_rfl)) ?_
  intro W base args ds gs before hval0 hW hcnd _
  have hval : ∀ (j : Nat) t v, Try.f5.params[j]? = some t → args[j]? = some v → Value.okWide Try.prog W .any base t v := hval0
  have hW' := hW
  obtain ⟨p, q, hA0, hV, rfl, hfz, hnd⟩ := hW
  have hA : DataW.TrodAll enc Try.prog W 0 (fun _ => true) true Try.f5.params.toList args.toList ds p := hA0
  rw [Try.params5] at hA hval
  obtain ⟨v0, vs0, d0, ds0, p0, q0, hargs, rfl, rfl, h0, r0⟩ := trodAll_cons hA
  obtain ⟨v1, vs1, d1, ds1, p1, q1, rfl, rfl, rfl, h1, r1⟩ := trodAll_cons r0
  obtain ⟨rfl, rfl, rfl⟩ := trodAll_nil r1
  obtain rfl : args = #[v0, v1] := by cases args; simp_all
  obtain ⟨rfl, rfl⟩ := trodVars_none hV
  obtain ⟨a0, len0, cap0, rfl⟩ := okWide_slice Try.underlying22 (hval 0 22 v0 rfl rfl)
  have k0 := h0
  have lt0 : ∀ x ∈ p0, x.block < W.heap.size := by obtain ⟨m, hm⟩ := k0; exact DataW.trod_lt m _ _ _ hm
  obtain ⟨z0, w0⟩ := h0.elim (fun _ hf => open_numbers hf)
  obtain ⟨a1, rfl, rfl, rfl, w1⟩ := open_int Try.underlying3 (hval 1 3 v1 rfl rfl) h1
  clear hA0 hval0
  refine (adds_walk a0 len0 cap0 z0 a1 W w0).mono fun e W' ⟨he, bel⟩ => ?_
  subst he
  exact ⟨_, rfl, _, _, _, [], _, [], hW', trodAll_mk1 (shut_bool Try.underlying4 _), (trodAll_cons_mk (Below.trod costAdds_laidOut (by kernel_rfl) (of_decide_eq_true (by kernel_rfl)) k0 bel lt0) (trodAll_cons_mk (shut_int Try.underlying3 w1) trodAll_mk0)), rfl, bel.frame _, fun h => by cases h⟩

/-- THE STATEMENT. -/
theorem costAdds_holds : Rows.CostAddsSaid :=
  OpenClaim.holds_of_wide 5 Try.f5 rfl rfl rfl rfl rfl rfl rfl ⟨rfl, rfl, rfl, rfl, rfl⟩ rfl rfl rfl rfl rfl (by kernel_rfl) Try.func5 (by kernel_rfl)
    (of_decide_eq_true (by kernel_rfl)) (by unfold Func.isWrapper; first | (rw [if_pos (by decide +kernel)]; kernel_rfl) | (rw [if_neg (by decide +kernel)]; exact ⟨rfl, rfl⟩))
    (fun os started H enc _ => costAdds_lifted os started H enc)
#print axioms costAdds_holds
end Go.Proofs.Ytdnjmlenpelfgaa
