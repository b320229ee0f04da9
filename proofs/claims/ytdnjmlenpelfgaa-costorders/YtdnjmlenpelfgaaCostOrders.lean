/-
  CostOrders: costs are in an order: of two unlike ones one is less, and what is less than less is less. For every six integers.
  No condition: whatever the input, in whatever memory; the arguments read as before.
-/
import Derived.Test.YtdnjmlenpelfgaaAlive12
namespace Go.Proofs.Ytdnjmlenpelfgaa
open Go.ChangeShapes Go.WideShapes Go.ChangeAt Go.RowKit

theorem in_yes (n : Int) (h : 0 ≤ n ∧ n ≤ 1099511627776) (w : World) : Calls Try.prog 17 #[.int .i64 n] w fun e w' => e = .returned (.bool true) ∧ w' = w := by
  obtain ⟨h1, h2⟩ := h
  have d1 : decide (0 ≤ n) = true := decide_eq_true h1
  have d2 : decide (n ≤ 1099511627776) = true := decide_eq_true h2
  go_enter Try.func17, Try.ntmps17
  go_wp2
  go_ret
  exact ⟨rfl, rfl⟩

theorem in_no (n : Int) (h : ¬ (0 ≤ n ∧ n ≤ 1099511627776)) (w : World) : Calls Try.prog 17 #[.int .i64 n] w fun e w' => e = .returned (.bool false) ∧ w' = w := by
  by_cases h1 : 0 ≤ n
  · have d1 : decide (0 ≤ n) = true := decide_eq_true h1
    have d2 : decide (n ≤ 1099511627776) = false := decide_eq_false (by omega)
    clear h h1
    go_enter Try.func17, Try.ntmps17
    go_wp2
    go_ret
    exact ⟨rfl, rfl⟩
  · have d1 : decide (0 ≤ n) = false := decide_eq_false h1
    clear h h1
    go_enter Try.func17, Try.ntmps17
    go_wp2
    go_ret
    exact ⟨rfl, rfl⟩

/-- Is a number one of those that are asked of? -/
def InM (n : Int) : Prop := 0 ≤ n ∧ n ≤ 1099511627776

set_option maxRecDepth 100000 in
set_option maxHeartbeats 4000000 in
theorem orders_in (a b c d e f : Nat) (ja : 0 ≤ (a : Int) ∧ (a : Int) ≤ 1099511627776) (jb : 0 ≤ (b : Int) ∧ (b : Int) ≤ 1099511627776) (jc : 0 ≤ (c : Int) ∧ (c : Int) ≤ 1099511627776) (jd : 0 ≤ (d : Int) ∧ (d : Int) ≤ 1099511627776) (je : 0 ≤ (e : Int) ∧ (e : Int) ≤ 1099511627776) (jf : 0 ≤ (f : Int) ∧ (f : Int) ≤ 1099511627776) (w : World) : Calls Try.prog 4 #[.int .i64 (a : Int), .int .i64 (b : Int), .int .i64 (c : Int), .int .i64 (d : Int), .int .i64 (e : Int), .int .i64 (f : Int)] w fun e w' => e = .returned (.bool true) ∧ Below w.heap.size w w' := by
  have ca := fun W => conv_fN W a
  have cb := fun W => conv_fN W b
  have cc := fun W => conv_fN W c
  have cd := fun W => conv_fN W d
  have ce := fun W => conv_fN W e
  have cf := fun W => conv_fN W f
  have Ha := hid (fun W => in_yes (a : Int) ja W)
  have Hb := hid (fun W => in_yes (b : Int) jb W)
  have Hc := hid (fun W => in_yes (c : Int) jc W)
  have Hd := hid (fun W => in_yes (d : Int) jd W)
  have He := hid (fun W => in_yes (e : Int) je W)
  have Hf := hid (fun W => in_yes (f : Int) jf W)
  have Lxx := hid (fun W => less_in a d a d (by omega) (by omega) (by omega) (by omega) W)
  have Lxy := hid (fun W => less_in a d b e (by omega) (by omega) (by omega) (by omega) W)
  have Lyx := hid (fun W => less_in b e a d (by omega) (by omega) (by omega) (by omega) W)
  have Lyz := hid (fun W => less_in b e c f (by omega) (by omega) (by omega) (by omega) W)
  have Lxz := hid (fun W => less_in a d c f (by omega) (by omega) (by omega) (by omega) W)
  have Lss := hid (fun W => less_in (a + c) (d + f) (b + c) (e + f) (by omega) (by omega) (by omega) (by omega) W)
  have Kx := hid (fun W => tokens_in a d (by omega) W)
  have Bx := hid (fun W => bits_in a d (by omega) W)
  have a1 := cadd_fN a d c f (by omega) (by omega)
  have a2 := cadd_fN b e c f (by omega) (by omega)
  have hadd1 := fun (ty : TypeId) (W : World) => run_complex_sum (P := Try.prog) W .add (Or.inl rfl) ty .f64 (fN a) (fN d) (fN c) (fN f) _ _ a1
  have hadd2 := fun (ty : TypeId) (W : World) => run_complex_sum (P := Try.prog) W .add (Or.inl rfl) ty .f64 (fN b) (fN e) (fN c) (fN f) _ _ a2
  have heq : (FloatKind.f64.format.order (fN a) (fN b) == some .eq && FloatKind.f64.format.order (fN d) (fN e) == some .eq) = decide (a = b ∧ d = e) := by
    rw [eq_fN a b (by omega) (by omega), eq_fN d e (by omega) (by omega), Bool.decide_and]
  clear a1 a2
  rw [decide_eq_false (by omega)] at Lxx
  have hss : decide (a + c < b + c ∨ a + c = b + c ∧ d + f < e + f) = decide (a < b ∨ a = b ∧ d < e) := by apply Bool.eq_iff_iff.2; simp only [decide_eq_true_eq]; omega
  rw [hss] at Lss
  clear hss
  obtain ⟨wac, hwac⟩ : ∃ y, y = fN (a + c) := ⟨_, rfl⟩
  obtain ⟨wdf, hwdf⟩ : ∃ y, y = fN (d + f) := ⟨_, rfl⟩
  obtain ⟨wbc, hwbc⟩ : ∃ y, y = fN (b + c) := ⟨_, rfl⟩
  obtain ⟨wef, hwef⟩ : ∃ y, y = fN (e + f) := ⟨_, rfl⟩
  obtain ⟨wa, hwa⟩ : ∃ y, y = fN a := ⟨_, rfl⟩
  obtain ⟨wb, hwb⟩ : ∃ y, y = fN b := ⟨_, rfl⟩
  obtain ⟨wc, hwc⟩ : ∃ y, y = fN c := ⟨_, rfl⟩
  obtain ⟨wd, hwd⟩ : ∃ y, y = fN d := ⟨_, rfl⟩
  obtain ⟨we, hwe⟩ : ∃ y, y = fN e := ⟨_, rfl⟩
  obtain ⟨wf, hwf⟩ : ∃ y, y = fN f := ⟨_, rfl⟩
  simp only [← hwac, ← hwdf, ← hwbc, ← hwef, ← hwa, ← hwb, ← hwc, ← hwd, ← hwe, ← hwf] at ca cb cc cd ce cf Lxx Lxy Lyx Lyz Lxz Lss Kx Bx hadd1 hadd2 heq
  clear hwac hwdf hwbc hwef hwa hwb hwc hwd hwe hwf
  by_cases hxy : a < b ∨ a = b ∧ d < e
  · rw [decide_eq_true hxy] at Lxy Lss
    rw [decide_eq_false (by omega)] at Lyx heq
    by_cases hyz : b < c ∨ b = c ∧ e < f
    · rw [decide_eq_true hyz] at Lyz
      rw [decide_eq_true (by omega)] at Lxz
      clear hxy hyz ja jb jc jd je jf
      go_enter Try.func4, Try.ntmps4
      go_wp2_with (first
        | (go_at_call 8; refine (alive_any _).mono ?_; rintro e1 w1 ⟨rfl, hb1⟩)
        | (go_at_call_of 17 (#[Value.int IntKind.i64 (a : Int)] : Array Value); refine (Ha.out _).mono ?_; rintro e1 w5 ⟨rfl, rfl⟩)
        | (go_at_call_of 17 (#[Value.int IntKind.i64 (b : Int)] : Array Value); refine (Hb.out _).mono ?_; rintro e1 w5 ⟨rfl, rfl⟩)
        | (go_at_call_of 17 (#[Value.int IntKind.i64 (c : Int)] : Array Value); refine (Hc.out _).mono ?_; rintro e1 w5 ⟨rfl, rfl⟩)
        | (go_at_call_of 17 (#[Value.int IntKind.i64 (d : Int)] : Array Value); refine (Hd.out _).mono ?_; rintro e1 w5 ⟨rfl, rfl⟩)
        | (go_at_call_of 17 (#[Value.int IntKind.i64 (e : Int)] : Array Value); refine (He.out _).mono ?_; rintro e1 w5 ⟨rfl, rfl⟩)
        | (go_at_call_of 17 (#[Value.int IntKind.i64 (f : Int)] : Array Value); refine (Hf.out _).mono ?_; rintro e1 w5 ⟨rfl, rfl⟩)
        | (go_at_call_of 15 (#[Value.complex FloatKind.f64 wa wd, Value.complex FloatKind.f64 wa wd] : Array Value); refine (Lxx.out _).mono ?_; rintro e1 w5 ⟨rfl, rfl⟩)
        | (go_at_call_of 15 (#[Value.complex FloatKind.f64 wa wd, Value.complex FloatKind.f64 wb we] : Array Value); refine (Lxy.out _).mono ?_; rintro e1 w5 ⟨rfl, rfl⟩)
        | (go_at_call_of 15 (#[Value.complex FloatKind.f64 wb we, Value.complex FloatKind.f64 wa wd] : Array Value); refine (Lyx.out _).mono ?_; rintro e1 w5 ⟨rfl, rfl⟩)
        | (go_at_call_of 15 (#[Value.complex FloatKind.f64 wb we, Value.complex FloatKind.f64 wc wf] : Array Value); refine (Lyz.out _).mono ?_; rintro e1 w5 ⟨rfl, rfl⟩)
        | (go_at_call_of 15 (#[Value.complex FloatKind.f64 wa wd, Value.complex FloatKind.f64 wc wf] : Array Value); refine (Lxz.out _).mono ?_; rintro e1 w5 ⟨rfl, rfl⟩)
        | (go_at_call_of 15 (#[Value.complex FloatKind.f64 wac wdf, Value.complex FloatKind.f64 wbc wef] : Array Value); refine (Lss.out _).mono ?_; rintro e1 w5 ⟨rfl, rfl⟩)
        | (go_at_call 13; refine (Kx.out _).mono ?_; rintro e1 w5 ⟨rfl, rfl⟩)
        | (go_at_call 14; refine (Bx.out _).mono ?_; rintro e1 w5 ⟨rfl, rfl⟩))
      go_ret
      exact ⟨rfl, hb1⟩
    · rw [decide_eq_false hyz] at Lyz
      clear hxy hyz Lxz ja jb jc jd je jf
      go_enter Try.func4, Try.ntmps4
      go_wp2_with (first
        | (go_at_call 8; refine (alive_any _).mono ?_; rintro e1 w1 ⟨rfl, hb1⟩)
        | (go_at_call_of 17 (#[Value.int IntKind.i64 (a : Int)] : Array Value); refine (Ha.out _).mono ?_; rintro e1 w5 ⟨rfl, rfl⟩)
        | (go_at_call_of 17 (#[Value.int IntKind.i64 (b : Int)] : Array Value); refine (Hb.out _).mono ?_; rintro e1 w5 ⟨rfl, rfl⟩)
        | (go_at_call_of 17 (#[Value.int IntKind.i64 (c : Int)] : Array Value); refine (Hc.out _).mono ?_; rintro e1 w5 ⟨rfl, rfl⟩)
        | (go_at_call_of 17 (#[Value.int IntKind.i64 (d : Int)] : Array Value); refine (Hd.out _).mono ?_; rintro e1 w5 ⟨rfl, rfl⟩)
        | (go_at_call_of 17 (#[Value.int IntKind.i64 (e : Int)] : Array Value); refine (He.out _).mono ?_; rintro e1 w5 ⟨rfl, rfl⟩)
        | (go_at_call_of 17 (#[Value.int IntKind.i64 (f : Int)] : Array Value); refine (Hf.out _).mono ?_; rintro e1 w5 ⟨rfl, rfl⟩)
        | (go_at_call_of 15 (#[Value.complex FloatKind.f64 wa wd, Value.complex FloatKind.f64 wa wd] : Array Value); refine (Lxx.out _).mono ?_; rintro e1 w5 ⟨rfl, rfl⟩)
        | (go_at_call_of 15 (#[Value.complex FloatKind.f64 wa wd, Value.complex FloatKind.f64 wb we] : Array Value); refine (Lxy.out _).mono ?_; rintro e1 w5 ⟨rfl, rfl⟩)
        | (go_at_call_of 15 (#[Value.complex FloatKind.f64 wb we, Value.complex FloatKind.f64 wa wd] : Array Value); refine (Lyx.out _).mono ?_; rintro e1 w5 ⟨rfl, rfl⟩)
        | (go_at_call_of 15 (#[Value.complex FloatKind.f64 wb we, Value.complex FloatKind.f64 wc wf] : Array Value); refine (Lyz.out _).mono ?_; rintro e1 w5 ⟨rfl, rfl⟩)
        | (go_at_call_of 15 (#[Value.complex FloatKind.f64 wa wd, Value.complex FloatKind.f64 wc wf] : Array Value); refine (Lxz.out _).mono ?_; rintro e1 w5 ⟨rfl, rfl⟩)
        | (go_at_call_of 15 (#[Value.complex FloatKind.f64 wac wdf, Value.complex FloatKind.f64 wbc wef] : Array Value); refine (Lss.out _).mono ?_; rintro e1 w5 ⟨rfl, rfl⟩)
        | (go_at_call 13; refine (Kx.out _).mono ?_; rintro e1 w5 ⟨rfl, rfl⟩)
        | (go_at_call 14; refine (Bx.out _).mono ?_; rintro e1 w5 ⟨rfl, rfl⟩))
      go_ret
      exact ⟨rfl, hb1⟩
  · rw [decide_eq_false hxy] at Lxy Lss
    by_cases hyx : b < a ∨ b = a ∧ e < d
    · rw [decide_eq_true hyx] at Lyx
      rw [decide_eq_false (by omega)] at heq
      clear hxy hyx Lyz Lxz ja jb jc jd je jf
      go_enter Try.func4, Try.ntmps4
      go_wp2_with (first
        | (go_at_call 8; refine (alive_any _).mono ?_; rintro e1 w1 ⟨rfl, hb1⟩)
        | (go_at_call_of 17 (#[Value.int IntKind.i64 (a : Int)] : Array Value); refine (Ha.out _).mono ?_; rintro e1 w5 ⟨rfl, rfl⟩)
        | (go_at_call_of 17 (#[Value.int IntKind.i64 (b : Int)] : Array Value); refine (Hb.out _).mono ?_; rintro e1 w5 ⟨rfl, rfl⟩)
        | (go_at_call_of 17 (#[Value.int IntKind.i64 (c : Int)] : Array Value); refine (Hc.out _).mono ?_; rintro e1 w5 ⟨rfl, rfl⟩)
        | (go_at_call_of 17 (#[Value.int IntKind.i64 (d : Int)] : Array Value); refine (Hd.out _).mono ?_; rintro e1 w5 ⟨rfl, rfl⟩)
        | (go_at_call_of 17 (#[Value.int IntKind.i64 (e : Int)] : Array Value); refine (He.out _).mono ?_; rintro e1 w5 ⟨rfl, rfl⟩)
        | (go_at_call_of 17 (#[Value.int IntKind.i64 (f : Int)] : Array Value); refine (Hf.out _).mono ?_; rintro e1 w5 ⟨rfl, rfl⟩)
        | (go_at_call_of 15 (#[Value.complex FloatKind.f64 wa wd, Value.complex FloatKind.f64 wa wd] : Array Value); refine (Lxx.out _).mono ?_; rintro e1 w5 ⟨rfl, rfl⟩)
        | (go_at_call_of 15 (#[Value.complex FloatKind.f64 wa wd, Value.complex FloatKind.f64 wb we] : Array Value); refine (Lxy.out _).mono ?_; rintro e1 w5 ⟨rfl, rfl⟩)
        | (go_at_call_of 15 (#[Value.complex FloatKind.f64 wb we, Value.complex FloatKind.f64 wa wd] : Array Value); refine (Lyx.out _).mono ?_; rintro e1 w5 ⟨rfl, rfl⟩)
        | (go_at_call_of 15 (#[Value.complex FloatKind.f64 wb we, Value.complex FloatKind.f64 wc wf] : Array Value); refine (Lyz.out _).mono ?_; rintro e1 w5 ⟨rfl, rfl⟩)
        | (go_at_call_of 15 (#[Value.complex FloatKind.f64 wa wd, Value.complex FloatKind.f64 wc wf] : Array Value); refine (Lxz.out _).mono ?_; rintro e1 w5 ⟨rfl, rfl⟩)
        | (go_at_call_of 15 (#[Value.complex FloatKind.f64 wac wdf, Value.complex FloatKind.f64 wbc wef] : Array Value); refine (Lss.out _).mono ?_; rintro e1 w5 ⟨rfl, rfl⟩)
        | (go_at_call 13; refine (Kx.out _).mono ?_; rintro e1 w5 ⟨rfl, rfl⟩)
        | (go_at_call 14; refine (Bx.out _).mono ?_; rintro e1 w5 ⟨rfl, rfl⟩))
      go_ret
      exact ⟨rfl, hb1⟩
    · rw [decide_eq_false hyx] at Lyx
      rw [decide_eq_true (by omega)] at heq
      clear hxy hyx Lyz Lxz ja jb jc jd je jf
      go_enter Try.func4, Try.ntmps4
      go_wp2_with (first
        | (go_at_call 8; refine (alive_any _).mono ?_; rintro e1 w1 ⟨rfl, hb1⟩)
        | (go_at_call_of 17 (#[Value.int IntKind.i64 (a : Int)] : Array Value); refine (Ha.out _).mono ?_; rintro e1 w5 ⟨rfl, rfl⟩)
        | (go_at_call_of 17 (#[Value.int IntKind.i64 (b : Int)] : Array Value); refine (Hb.out _).mono ?_; rintro e1 w5 ⟨rfl, rfl⟩)
        | (go_at_call_of 17 (#[Value.int IntKind.i64 (c : Int)] : Array Value); refine (Hc.out _).mono ?_; rintro e1 w5 ⟨rfl, rfl⟩)
        | (go_at_call_of 17 (#[Value.int IntKind.i64 (d : Int)] : Array Value); refine (Hd.out _).mono ?_; rintro e1 w5 ⟨rfl, rfl⟩)
        | (go_at_call_of 17 (#[Value.int IntKind.i64 (e : Int)] : Array Value); refine (He.out _).mono ?_; rintro e1 w5 ⟨rfl, rfl⟩)
        | (go_at_call_of 17 (#[Value.int IntKind.i64 (f : Int)] : Array Value); refine (Hf.out _).mono ?_; rintro e1 w5 ⟨rfl, rfl⟩)
        | (go_at_call_of 15 (#[Value.complex FloatKind.f64 wa wd, Value.complex FloatKind.f64 wa wd] : Array Value); refine (Lxx.out _).mono ?_; rintro e1 w5 ⟨rfl, rfl⟩)
        | (go_at_call_of 15 (#[Value.complex FloatKind.f64 wa wd, Value.complex FloatKind.f64 wb we] : Array Value); refine (Lxy.out _).mono ?_; rintro e1 w5 ⟨rfl, rfl⟩)
        | (go_at_call_of 15 (#[Value.complex FloatKind.f64 wb we, Value.complex FloatKind.f64 wa wd] : Array Value); refine (Lyx.out _).mono ?_; rintro e1 w5 ⟨rfl, rfl⟩)
        | (go_at_call_of 15 (#[Value.complex FloatKind.f64 wb we, Value.complex FloatKind.f64 wc wf] : Array Value); refine (Lyz.out _).mono ?_; rintro e1 w5 ⟨rfl, rfl⟩)
        | (go_at_call_of 15 (#[Value.complex FloatKind.f64 wa wd, Value.complex FloatKind.f64 wc wf] : Array Value); refine (Lxz.out _).mono ?_; rintro e1 w5 ⟨rfl, rfl⟩)
        | (go_at_call_of 15 (#[Value.complex FloatKind.f64 wac wdf, Value.complex FloatKind.f64 wbc wef] : Array Value); refine (Lss.out _).mono ?_; rintro e1 w5 ⟨rfl, rfl⟩)
        | (go_at_call 13; refine (Kx.out _).mono ?_; rintro e1 w5 ⟨rfl, rfl⟩)
        | (go_at_call 14; refine (Bx.out _).mono ?_; rintro e1 w5 ⟨rfl, rfl⟩))
      go_ret
      exact ⟨rfl, hb1⟩


set_option maxRecDepth 100000 in
set_option maxHeartbeats 4000000 in
theorem orders_walk (a b c d e f : Int) (w : World) : Calls Try.prog 4 #[.int .i64 a, .int .i64 b, .int .i64 c, .int .i64 d, .int .i64 e, .int .i64 f] w fun e w' => e = .returned (.bool true) ∧ Below w.heap.size w w' := by
  by_cases ja : 0 ≤ a ∧ a ≤ 1099511627776
  rotate_left
  · have Ha := hid (fun W => in_no a ja W)
    clear ja
    go_enter Try.func4, Try.ntmps4
    go_wp2_with (first
      | (go_at_call 8; refine (alive_any _).mono ?_; rintro e1 w1 ⟨rfl, hb1⟩)
      | (go_at_call_of 17 (#[Value.int IntKind.i64 a] : Array Value); refine (Ha.out _).mono ?_; rintro e1 w5 ⟨rfl, rfl⟩))
    go_ret
    exact ⟨rfl, hb1⟩
  by_cases jb : 0 ≤ b ∧ b ≤ 1099511627776
  rotate_left
  · have Ha := hid (fun W => in_yes a ja W)
    have Hb := hid (fun W => in_no b jb W)
    clear ja jb
    go_enter Try.func4, Try.ntmps4
    go_wp2_with (first
      | (go_at_call 8; refine (alive_any _).mono ?_; rintro e1 w1 ⟨rfl, hb1⟩)
      | (go_at_call_of 17 (#[Value.int IntKind.i64 a] : Array Value); refine (Ha.out _).mono ?_; rintro e1 w5 ⟨rfl, rfl⟩)
      | (go_at_call_of 17 (#[Value.int IntKind.i64 b] : Array Value); refine (Hb.out _).mono ?_; rintro e1 w5 ⟨rfl, rfl⟩))
    go_ret
    exact ⟨rfl, hb1⟩
  by_cases jc : 0 ≤ c ∧ c ≤ 1099511627776
  rotate_left
  · have Ha := hid (fun W => in_yes a ja W)
    have Hb := hid (fun W => in_yes b jb W)
    have Hc := hid (fun W => in_no c jc W)
    clear ja jb jc
    go_enter Try.func4, Try.ntmps4
    go_wp2_with (first
      | (go_at_call 8; refine (alive_any _).mono ?_; rintro e1 w1 ⟨rfl, hb1⟩)
      | (go_at_call_of 17 (#[Value.int IntKind.i64 a] : Array Value); refine (Ha.out _).mono ?_; rintro e1 w5 ⟨rfl, rfl⟩)
      | (go_at_call_of 17 (#[Value.int IntKind.i64 b] : Array Value); refine (Hb.out _).mono ?_; rintro e1 w5 ⟨rfl, rfl⟩)
      | (go_at_call_of 17 (#[Value.int IntKind.i64 c] : Array Value); refine (Hc.out _).mono ?_; rintro e1 w5 ⟨rfl, rfl⟩))
    go_ret
    exact ⟨rfl, hb1⟩
  by_cases jd : 0 ≤ d ∧ d ≤ 1099511627776
  rotate_left
  · have Ha := hid (fun W => in_yes a ja W)
    have Hb := hid (fun W => in_yes b jb W)
    have Hc := hid (fun W => in_yes c jc W)
    have Hd := hid (fun W => in_no d jd W)
    clear ja jb jc jd
    go_enter Try.func4, Try.ntmps4
    go_wp2_with (first
      | (go_at_call 8; refine (alive_any _).mono ?_; rintro e1 w1 ⟨rfl, hb1⟩)
      | (go_at_call_of 17 (#[Value.int IntKind.i64 a] : Array Value); refine (Ha.out _).mono ?_; rintro e1 w5 ⟨rfl, rfl⟩)
      | (go_at_call_of 17 (#[Value.int IntKind.i64 b] : Array Value); refine (Hb.out _).mono ?_; rintro e1 w5 ⟨rfl, rfl⟩)
      | (go_at_call_of 17 (#[Value.int IntKind.i64 c] : Array Value); refine (Hc.out _).mono ?_; rintro e1 w5 ⟨rfl, rfl⟩)
      | (go_at_call_of 17 (#[Value.int IntKind.i64 d] : Array Value); refine (Hd.out _).mono ?_; rintro e1 w5 ⟨rfl, rfl⟩))
    go_ret
    exact ⟨rfl, hb1⟩
  by_cases je : 0 ≤ e ∧ e ≤ 1099511627776
  rotate_left
  · have Ha := hid (fun W => in_yes a ja W)
    have Hb := hid (fun W => in_yes b jb W)
    have Hc := hid (fun W => in_yes c jc W)
    have Hd := hid (fun W => in_yes d jd W)
    have He := hid (fun W => in_no e je W)
    clear ja jb jc jd je
    go_enter Try.func4, Try.ntmps4
    go_wp2_with (first
      | (go_at_call 8; refine (alive_any _).mono ?_; rintro e1 w1 ⟨rfl, hb1⟩)
      | (go_at_call_of 17 (#[Value.int IntKind.i64 a] : Array Value); refine (Ha.out _).mono ?_; rintro e1 w5 ⟨rfl, rfl⟩)
      | (go_at_call_of 17 (#[Value.int IntKind.i64 b] : Array Value); refine (Hb.out _).mono ?_; rintro e1 w5 ⟨rfl, rfl⟩)
      | (go_at_call_of 17 (#[Value.int IntKind.i64 c] : Array Value); refine (Hc.out _).mono ?_; rintro e1 w5 ⟨rfl, rfl⟩)
      | (go_at_call_of 17 (#[Value.int IntKind.i64 d] : Array Value); refine (Hd.out _).mono ?_; rintro e1 w5 ⟨rfl, rfl⟩)
      | (go_at_call_of 17 (#[Value.int IntKind.i64 e] : Array Value); refine (He.out _).mono ?_; rintro e1 w5 ⟨rfl, rfl⟩))
    go_ret
    exact ⟨rfl, hb1⟩
  by_cases jf : 0 ≤ f ∧ f ≤ 1099511627776
  rotate_left
  · have Ha := hid (fun W => in_yes a ja W)
    have Hb := hid (fun W => in_yes b jb W)
    have Hc := hid (fun W => in_yes c jc W)
    have Hd := hid (fun W => in_yes d jd W)
    have He := hid (fun W => in_yes e je W)
    have Hf := hid (fun W => in_no f jf W)
    clear ja jb jc jd je jf
    go_enter Try.func4, Try.ntmps4
    go_wp2_with (first
      | (go_at_call 8; refine (alive_any _).mono ?_; rintro e1 w1 ⟨rfl, hb1⟩)
      | (go_at_call_of 17 (#[Value.int IntKind.i64 a] : Array Value); refine (Ha.out _).mono ?_; rintro e1 w5 ⟨rfl, rfl⟩)
      | (go_at_call_of 17 (#[Value.int IntKind.i64 b] : Array Value); refine (Hb.out _).mono ?_; rintro e1 w5 ⟨rfl, rfl⟩)
      | (go_at_call_of 17 (#[Value.int IntKind.i64 c] : Array Value); refine (Hc.out _).mono ?_; rintro e1 w5 ⟨rfl, rfl⟩)
      | (go_at_call_of 17 (#[Value.int IntKind.i64 d] : Array Value); refine (Hd.out _).mono ?_; rintro e1 w5 ⟨rfl, rfl⟩)
      | (go_at_call_of 17 (#[Value.int IntKind.i64 e] : Array Value); refine (He.out _).mono ?_; rintro e1 w5 ⟨rfl, rfl⟩)
      | (go_at_call_of 17 (#[Value.int IntKind.i64 f] : Array Value); refine (Hf.out _).mono ?_; rintro e1 w5 ⟨rfl, rfl⟩))
    go_ret
    exact ⟨rfl, hb1⟩
  obtain ⟨a, rfl⟩ : ∃ m : Nat, a = (m : Int) := ⟨a.toNat, by omega⟩
  obtain ⟨b, rfl⟩ : ∃ m : Nat, b = (m : Int) := ⟨b.toNat, by omega⟩
  obtain ⟨c, rfl⟩ : ∃ m : Nat, c = (m : Int) := ⟨c.toNat, by omega⟩
  obtain ⟨d, rfl⟩ : ∃ m : Nat, d = (m : Int) := ⟨d.toNat, by omega⟩
  obtain ⟨e, rfl⟩ : ∃ m : Nat, e = (m : Int) := ⟨e.toNat, by omega⟩
  obtain ⟨f, rfl⟩ : ∃ m : Nat, f = (m : Int) := ⟨f.toNat, by omega⟩
  exact orders_in a b c d e f ja jb jc jd je jf w

set_option linter.unusedVariables false
theorem costOrders_own : ownKnob Try.prog.godebug = none := by kernel_rfl

set_option maxRecDepth 100000 in
theorem costOrders_lifted (os : Os) (started : os.Started) (H : Type) (enc : TypeId × Value → H) :
    ReturnsInHanded {} Try.checked os 4 .any (Rows.costOrdersSpec.pre6 enc Try.prog Try.f4 Rows.costOrdersRow.domain false) (Rows.costOrdersSpec.post enc Try.prog Try.f4 false true false false) := by
  refine returnsInHanded_of_change (C := Try.checked) costOrders_own started (by kernel_rfl) Try.func4
    (ChangeSpec.witness6 (enc := enc) (C := Try.checked) false ⟨#[], #[.int .i64 0, .int .i64 0, .int .i64 0, .int .i64 0, .int .i64 0, .int .i64 0], []⟩ 8 (by kernel_rfl) (by kernel_rfl) (by kernel_rfl) (by kernel_rfl)) ?_
  intro W base args ds gs before hval0 hW hcnd _
  have hval : ∀ (j : Nat) t v, Try.f4.params[j]? = some t → args[j]? = some v → Value.okWide Try.prog W .any base t v := hval0
  have hW' := hW
  obtain ⟨p, q, hA0, hV, rfl, hfz, hnd⟩ := hW
  have hA : DataW.TrodAll enc Try.prog W 0 (fun _ => true) true Try.f4.params.toList args.toList ds p := hA0
  rw [Try.params4] at hA hval
  obtain ⟨v0, vs0, d0, ds0, p0, q0, hargs, rfl, rfl, h0, r0⟩ := trodAll_cons hA
  obtain ⟨v1, vs1, d1, ds1, p1, q1, rfl, rfl, rfl, h1, r1⟩ := trodAll_cons r0
  obtain ⟨v2, vs2, d2, ds2, p2, q2, rfl, rfl, rfl, h2, r2⟩ := trodAll_cons r1
  obtain ⟨v3, vs3, d3, ds3, p3, q3, rfl, rfl, rfl, h3, r3⟩ := trodAll_cons r2
  obtain ⟨v4, vs4, d4, ds4, p4, q4, rfl, rfl, rfl, h4, r4⟩ := trodAll_cons r3
  obtain ⟨v5, vs5, d5, ds5, p5, q5, rfl, rfl, rfl, h5, r5⟩ := trodAll_cons r4
  obtain ⟨rfl, rfl, rfl⟩ := trodAll_nil r5
  obtain rfl : args = #[v0, v1, v2, v3, v4, v5] := by cases args; simp_all
  obtain ⟨rfl, rfl⟩ := trodVars_none hV
  obtain ⟨a0, rfl, rfl, rfl, w0⟩ := open_int Try.underlying3 (hval 0 3 v0 rfl rfl) h0
  obtain ⟨a1, rfl, rfl, rfl, w1⟩ := open_int Try.underlying3 (hval 1 3 v1 rfl rfl) h1
  obtain ⟨a2, rfl, rfl, rfl, w2⟩ := open_int Try.underlying3 (hval 2 3 v2 rfl rfl) h2
  obtain ⟨a3, rfl, rfl, rfl, w3⟩ := open_int Try.underlying3 (hval 3 3 v3 rfl rfl) h3
  obtain ⟨a4, rfl, rfl, rfl, w4⟩ := open_int Try.underlying3 (hval 4 3 v4 rfl rfl) h4
  obtain ⟨a5, rfl, rfl, rfl, w5⟩ := open_int Try.underlying3 (hval 5 3 v5 rfl rfl) h5
  clear hA0 hval0
  refine (orders_walk a0 a1 a2 a3 a4 a5 W).mono fun e W' ⟨he, bel⟩ => ?_
  subst he
  exact ⟨_, rfl, _, _, _, [], _, [], hW', trodAll_mk1 (shut_bool Try.underlying4 _), (trodAll_cons_mk (shut_int Try.underlying3 w0) (trodAll_cons_mk (shut_int Try.underlying3 w1) (trodAll_cons_mk (shut_int Try.underlying3 w2) (trodAll_cons_mk (shut_int Try.underlying3 w3) (trodAll_cons_mk (shut_int Try.underlying3 w4) (trodAll_cons_mk (shut_int Try.underlying3 w5) trodAll_mk0)))))), rfl, bel.frame _, fun h => by cases h⟩

/-- THE STATEMENT. -/
theorem costOrders_holds : Rows.CostOrdersSaid :=
  OpenClaim.holds_of_wide 4 Try.f4 rfl rfl rfl rfl rfl rfl rfl ⟨rfl, rfl, rfl, rfl, rfl⟩ rfl rfl rfl rfl rfl (by kernel_rfl) Try.func4 (by kernel_rfl)
    (of_decide_eq_true (by kernel_rfl)) (by unfold Func.isWrapper; first | (rw [if_pos (by decide +kernel)]; kernel_rfl) | (rw [if_neg (by decide +kernel)]; exact ⟨rfl, rfl⟩))
    (fun os started H enc _ => costOrders_lifted os started H enc)
#print axioms costOrders_holds
end Go.Proofs.Ytdnjmlenpelfgaa
