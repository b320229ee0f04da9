/-
  CostTells: every token's cost; of all together; of two the lesser one. For every two lists of integers.
  No condition: whatever the input, in whatever memory; the arguments read as before.
-/
import Derived.Test.YtdnjmlenpelfgaaAlive12
import Derived.ChangeOld
namespace Go.Proofs.Ytdnjmlenpelfgaa
open Go.ChangeShapes Go.WideShapes Go.ChangeAt Go.RowKit

set_option maxRecDepth 20000 in
set_option maxHeartbeats 1000000 in
theorem both_any {w : World} {v : Value} {xs : List Int} (hv : Reads w v (nats xs)) (hl : xs.length ≤ 1000) : Calls Try.prog 9 #[v] w fun e w' => e = .returned (.tuple #[.int .i64 (tks xs : Nat), .int .i64 (bts xs : Nat)]) ∧ Below w.heap.size w w' := by
  have hlen := nats_length xs
  obtain ⟨a, c, rfl, hr⟩ := id hv
  rw [hlen] at *
  clear hr hlen
  go_enter Try.func9, Try.ntmps9
  go_wp2
  go_loopw [4, 5, 11] (fun vt vb vi wr => ∃ (i t b : Nat), vt = .int .i64 t ∧ vb = .int .i64 b ∧ vi = .int .i64 i ∧ i ≤ xs.length ∧ t ≤ i ∧ b ≤ 40 * i ∧ Hid (t = tks (xs.take i) ∧ b = bts (xs.take i)) ∧ Hid (Below w.heap.size w wr)) (fun _ _ vi _ => xs.length - (intOf vi).toNat)
  case atStart => exact ⟨0, 0, 0, rfl, rfl, rfl, by omega, by omega, by omega, ⟨rfl, rfl⟩, Below.refl _ _⟩
  case round =>
    obtain ⟨i, t, b, rfl, rfl, rfl, hi, ht, hb, htb, hbl⟩ := hrel
    by_cases hin : i < xs.length
    · obtain ⟨g, off, rfl, _, hg, hcell⟩ := reads_int hv (by omega)
      have hc0 := hcell i hin
      have hc1 : wr.cell? ⟨g, off + i, none⟩ = some (.int .i64 (xs[i]'hin)) := (hbl.out.cell (p := ⟨g, off + i, none⟩) hg).trans hc0
      have hx1 := tk_bt (xs[i]'hin)
      have hx2 := bt_le (xs[i]'hin)
      have htb2 : Hid (t + tk (xs[i]'hin) = tks (xs.take (i + 1)) ∧ b + bt (xs[i]'hin) = bts (xs.take (i + 1))) := by
        show _ ∧ _
        rw [List.take_succ_eq_append_getElem hin, tks_snoc, bts_snoc, ← htb.out.1, ← htb.out.2]
        exact ⟨rfl, rfl⟩
      obtain ⟨x, hx⟩ : ∃ x, x = xs[i]'hin := ⟨_, rfl⟩
      rw [← hx] at hc1 hx1 hx2 htb2
      have HR := hid (fun W => refBits_any x W)
      obtain ⟨p, hp⟩ : ∃ p, p = bt x := ⟨_, rfl⟩
      rw [← hp] at HR hx1 hx2 htb2
      clear hcell hx htb hc0 hp
      rcases hx1 with ⟨h1, h2⟩ | ⟨h1, h2⟩
      · rw [h1] at htb2
        have hd : decide ((0 : Int) < (p : Int)) = true := decide_eq_true (by omega)
        have hd2 : decide (0 < p) = true := decide_eq_true (by omega)
        clear h1
        go_wp2_with (go_at_call 10; refine (HR.out _).mono ?_; rintro e w1 ⟨rfl, hb1⟩)
        go_roundw
        case rel => exact ⟨i + 1, _, _, by go_num, by go_num, by go_num, by omega, by omega, by omega, htb2, below_more hbl.out hb1⟩
        case measure => simp [intOf]; omega
      · rw [h1, h2, Nat.add_zero, Nat.add_zero] at htb2
        subst h2
        clear h1
        go_wp2_with (go_at_call 10; refine (HR.out _).mono ?_; rintro e w1 ⟨rfl, hb1⟩)
        go_roundw
        case rel => exact ⟨i + 1, _, _, by go_num, by go_num, by go_num, by omega, by omega, by omega, htb2, below_more hbl.out hb1⟩
        case measure => simp [intOf]; omega
    · obtain rfl : i = xs.length := by omega
      rw [List.take_length] at htb
      go_wp2
      refine bodyPost_ret (v := .tuple #[.int .i64 (t : Int), .int .i64 (b : Int)]) (by simp [results, Try.results9, go_sem]) rfl ⟨?_, hbl.out⟩
      rw [htb.out.1, htb.out.2]

/-- One token's cost, by the document's bits. -/
theorem of_ref (x : Int) : (tk x = 1 ∧ 8 ≤ bt x) ∨ (tk x = 0 ∧ bt x = 0) := tk_bt x

set_option maxRecDepth 100000 in
set_option maxHeartbeats 40000000 in
theorem tells_walk (a : Option Addr) (len cap : Nat) (z : Nat → Int) (a2 : Option Addr) (len2 cap2 : Nat) (z2 : Nat → Int) (w : World) (hin : IsInts w a len z) (hin2 : IsInts w a2 len2 z2) : Calls Try.prog 3 #[.slice a len cap, .slice a2 len2 cap2] w fun e w' => e = .returned (.bool true) ∧ Below w.heap.size w w' := by
  by_cases hl : len ≤ 1000 ∧ len2 ≤ 1000
  · obtain ⟨hl, hm⟩ := hl
    have hd0 : decide ((1000 : Int) < (len : Int)) = false := decide_eq_false (by omega)
    have hd1 : decide (1000 < len) = false := decide_eq_false (by omega)
    have hd2 : decide ((1000 : Int) < (len2 : Int)) = false := decide_eq_false (by omega)
    have hd3 : decide (1000 < len2) = false := decide_eq_false (by omega)
    have hr := isInts_reads (cap := cap) hin
    have hs := isInts_reads (cap := cap2) hin2
    obtain ⟨xs, hxs⟩ : ∃ xs, xs = (List.range len).map z := ⟨_, rfl⟩
    obtain ⟨ys, hys⟩ : ∃ ys, ys = (List.range len2).map z2 := ⟨_, rfl⟩
    rw [← hxs] at hr
    rw [← hys] at hs
    have hxl : xs.length = len := by rw [hxs]; simp
    have hyl : ys.length = len2 := by rw [hys]; simp
    clear hxs hin hys hin2
    subst hxl
    subst hyl
    have hT := tks_le xs
    have hB := bts_le xs
    have hU := tks_le ys
    have hV := bts_le ys
    have HX := hid (fun (W : World) (v : Value) (hv : Reads W v (nats xs)) => sum_any hv (by omega))
    have HY := hid (fun (W : World) (v : Value) (hv : Reads W v (nats ys)) => sum_any hv (by omega))
    have HSS := hid (fun (W : World) (v : Value) (hv : Reads W v (nats (xs ++ ys))) => sum_any hv (by rw [List.length_append]; omega))
    rw [tks_append, bts_append] at HSS
    have CX := hid (fun (W : World) (v : Value) (hv : Reads W v (nats xs)) => both_any hv (by omega))
    have CY := hid (fun (W : World) (v : Value) (hv : Reads W v (nats ys)) => both_any hv (by omega))
    have hfew : Hid (xs.length + ys.length ≤ 1000000) := by show xs.length + ys.length ≤ 1000000; omega
    have hfew0 : Hid (([] : List Int).length + xs.length ≤ 1000000) := by show ([] : List Int).length + xs.length ≤ 1000000; simp; omega
    obtain ⟨t, ht⟩ : ∃ t, t = tks xs := ⟨_, rfl⟩
    obtain ⟨b, hb⟩ : ∃ b, b = bts xs := ⟨_, rfl⟩
    obtain ⟨u, hu⟩ : ∃ u, u = tks ys := ⟨_, rfl⟩
    obtain ⟨c, hc⟩ : ∃ c, c = bts ys := ⟨_, rfl⟩
    rw [← ht, ← hb] at HX CX
    rw [← hu, ← hc] at HY CY
    rw [← ht, ← hb, ← hu, ← hc] at HSS
    have bt1 : t ≤ 1000 := by omega
    have bb1 : b ≤ 40000 := by omega
    have bu1 : u ≤ 1000 := by omega
    have bc1 : c ≤ 40000 := by omega
    clear ht hb hu hc hT hB hU hV
    have e1 := eq_self t (by omega)
    have e2 := eq_self b (by omega)
    have e3 := eq_self (t + u) (by omega)
    have e4 := eq_self (b + c) (by omega)
    have c1 := fun W => conv_fN W t
    have c2 := fun W => conv_fN W b
    have hadd0 := cadd_fN t b u c (by omega) (by omega)
    have hadd := fun (ty : TypeId) (W : World) => run_complex_sum (P := Try.prog) W .add (Or.inl rfl) ty .f64 (fN t) (fN b) (fN u) (fN c) _ _ hadd0
    clear hadd0
    have Kx := hid (fun W => tokens_in t b (by omega) W)
    have Bx := hid (fun W => bits_in t b (by omega) W)
    have HM := hid (fun W => most_any W)
    obtain ⟨M, hM⟩ : ∃ M, M = 1099511627776 := ⟨_, rfl⟩
    rw [← hM] at HM
    have hM1 : 1000000 < M := by omega
    have hM2 : M < 9007199254740992 := by omega
    clear hM
    have L1 := hid (fun W => less_in t b u c (by omega) (by omega) (by omega) (by omega) W)
    have L2 := hid (fun W => less_in u c t b (by omega) (by omega) (by omega) (by omega) W)
    have L3 := hid (fun W => less_in t b M M (by omega) (by omega) (by omega) (by omega) W)
    have L4 := hid (fun W => less_in M M u c (by omega) (by omega) (by omega) (by omega) W)
    rw [decide_eq_true (by omega)] at L3
    rw [decide_eq_false (by omega)] at L4
    obtain ⟨wt, hwt⟩ : ∃ y, y = fN t := ⟨_, rfl⟩
    obtain ⟨wb, hwb⟩ : ∃ y, y = fN b := ⟨_, rfl⟩
    obtain ⟨wu, hwu⟩ : ∃ y, y = fN u := ⟨_, rfl⟩
    obtain ⟨wc, hwc⟩ : ∃ y, y = fN c := ⟨_, rfl⟩
    obtain ⟨wm, hwm⟩ : ∃ y, y = fN M := ⟨_, rfl⟩
    obtain ⟨wT, hwT⟩ : ∃ y, y = fN (t + u) := ⟨_, rfl⟩
    obtain ⟨wB, hwB⟩ : ∃ y, y = fN (b + c) := ⟨_, rfl⟩
    simp only [← hwt, ← hwb, ← hwu, ← hwc, ← hwm, ← hwT, ← hwB] at HX HY HSS e1 e2 e3 e4 c1 c2 hadd Kx Bx HM L1 L2 L3 L4
    clear hwt hwb hwu hwc hwm hwT hwB hM1 hM2
    go_enter Try.func3, Try.ntmps3
    go_wp2_with (first
      | (go_at_call 8; refine (alive_any _).mono ?_; rintro e w1 ⟨rfl, hb1⟩; have HB1 := hid hb1; have hr1 := hr.below hb1; have hs1 := hs.below hb1; have HR1 := hid hr1; have HS1 := hid hs1; clear hb1 hr1 hs1)
      | (have _h := later1; go_at_call 9; refine (CY.out _ _ HS2.out).mono ?_; rintro e w3 ⟨rfl, hb3⟩; have HB3 := hid (below_more HB2.out hb3); have hr3 := HR2.out.below hb3; have hs3 := HS2.out.below hb3; have HR3 := hid hr3; have HS3 := hid hs3; clear hb3 hr3 hs3)
      | (go_at_call 9; refine (CX.out _ _ HR1.out).mono ?_; rintro e w2 ⟨rfl, hb2⟩; have HB2 := hid (below_more HB1.out hb2); have hr2 := HR1.out.below hb2; have hs2 := HS1.out.below hb2; have HR2 := hid hr2; have HS2 := hid hs2; have later1 : True := trivial; clear hb2 hr2 hs2)
      | (have _h := later2; go_at_call 11; refine (HY.out _ _ HS3.out).mono ?_; rintro e w4 ⟨rfl, rfl⟩)
      | (go_at_call 11; refine (HX.out _ _ HR3.out).mono ?_; rintro e w4 ⟨rfl, rfl⟩; have later2 : True := trivial))
    clear HR1 HS1 HR2 HS2 HB1 HB2 hr hs
    go_loopw [47] (fun vi wr => ∃ i : Nat, vi = .int .i64 i ∧ i ≤ xs.length ∧ Hid (Below w4.heap.size w4 wr)) (fun vi _ => xs.length - (intOf vi).toNat)
    case atStart => exact ⟨0, rfl, by omega, Below.refl _ _⟩
    case round =>
      obtain ⟨i, rfl, hi, hbl⟩ := hrel
      have hr := HR3.out.below hbl.out
      have hs := HS3.out.below hbl.out
      by_cases hin : i < xs.length
      · obtain ⟨g, off, rfl, _, hg, hcell⟩ := reads_int hr (by omega)
        have hc1 := hcell i hin
        have hx1 := tk_bt (xs[i]'hin)
        have hx2 := bt_le (xs[i]'hin)
        obtain ⟨x, hx⟩ : ∃ x, x = xs[i]'hin := ⟨_, rfl⟩
        rw [← hx] at hc1 hx1 hx2
        have HR := hid (fun W => refBits_any x W)
        have HO := hid (fun W => of_any x W)
        obtain ⟨q, hq⟩ : ∃ q, q = bt x := ⟨_, rfl⟩
        rw [← hq] at HR HO hx1 hx2
        have cq := fun W => conv_fN W q
        have eq := eq_self q (by omega)
        clear hcell hx hq e3 e4 hadd c1 c2 e1 e2
        rcases hx1 with ⟨h1, h2⟩ | ⟨h1, h2⟩
        · rw [h1, fN_one] at HO
          have e0 : (FloatKind.f64.format.order 4607182418800017408 4607182418800017408 == some .eq) = true := by decide +kernel
          have hd : decide ((0 : Int) < (q : Int)) = true := decide_eq_true (by omega)
          have hd5 : decide (0 < q) = true := decide_eq_true (by omega)
          obtain ⟨wq, hwq⟩ : ∃ y, y = fN q := ⟨_, rfl⟩
          simp only [← hwq] at HO cq eq
          clear h1 h2 hwq hr hs
          go_wp2_with (first
            | (go_at_call 10; refine (HR.out _).mono ?_; rintro e w6 ⟨rfl, hb6⟩)
            | (go_at_call 12; refine (HO.out _).mono ?_; rintro e w7 ⟨rfl, rfl⟩))
          go_roundw
          case rel => exact ⟨i + 1, by go_num, by omega, below_more hbl.out hb6⟩
          case measure => simp [intOf]; omega
        · rw [h1, h2, fN_zero] at HO
          subst h2
          have e0 : (FloatKind.f64.format.order 0 0 == some .eq) = true := by decide +kernel
          clear h1 cq eq hr hs
          go_wp2_with (first
            | (go_at_call 10; refine (HR.out _).mono ?_; rintro e w6 ⟨rfl, hb6⟩)
            | (go_at_call 12; refine (HO.out _).mono ?_; rintro e w7 ⟨rfl, rfl⟩))
          go_roundw
          case rel => exact ⟨i + 1, by go_num, by omega, below_more hbl.out hb6⟩
          case measure => simp [intOf]; omega
      · have hun := yield_undef
        obtain rfl : i = xs.length := by omega
        have HR5 := hid (fun (W : World) (h : Hid (Below w4.heap.size w4 W)) => HR3.out.below h.out)
        have HS5 := hid (fun (W : World) (h : Hid (Below w4.heap.size w4 W)) => HS3.out.below h.out)
        have HB5 := hid (fun (W : World) (h : Hid (Below w4.heap.size w4 W)) => HB3.out.trans (h.out.mono HB3.out.size))
        clear hr hs
        rcases (show t < u ∨ u < t ∨ (t = u ∧ b < c) ∨ (t = u ∧ c < b) ∨ (t = u ∧ b = c) by omega) with hq | hq | hq | hq | hq
        · rw [decide_eq_true (by omega)] at L1
          rw [decide_eq_false (by omega)] at L2
          have dtu : decide ((t : Int) < (u : Int)) = true := decide_eq_true (by omega)
          have ntu : decide (t < u) = true := decide_eq_true (by omega)
          have dut : decide ((u : Int) < (t : Int)) = false := decide_eq_false (by omega)
          have nut : decide (u < t) = false := decide_eq_false (by omega)
          have qtu : ((t : Int) == (u : Int)) = false := beq_false_of_ne (by omega)
          have qut : ((u : Int) == (t : Int)) = false := beq_false_of_ne (by omega)
          clear hq
          go_wp2_with (first
            | (have _h := mB; at_builtin; refine wpList_append_ints_guard rfl (.tmp 133) (.tmp 134) rfl w5.heap.size _ xs rfl HO6.out _ ys rfl HS6.out hfew.out HS7.out ?_; intro v8 w8 hown8 hb8; have HR4 := hid (ownsRow_reads hown8); have HB4 := hid (HB6.out.trans (hb8.mono HZ.out)); clear hown8 hb8 mB _h)
            | (have _h := mA; at_builtin; refine wpList_append_ints_guard rfl (.const (.slice none 0 0)) (.tmp 132) rfl w5.heap.size _ [] rfl (World.ownsRow_nil _ _ _ _) _ xs rfl (HR5.out _ hbl) hfew0.out (Nat.le_refl _) ?_; intro v6 w6 hown6 hb6; rw [List.nil_append] at hown6; have HO6 := hid hown6; have HS6 := hid ((HS5.out _ hbl).below hb6); have HS7 := hid hb6.size; have HB6 := hid ((HB5.out _ hbl).trans (hb6.mono (HB5.out _ hbl).size)); have HZ := hid (HB5.out _ hbl).size; obtain ⟨a6, k6, hv6⟩ := ownsRow_slice hown6; subst hv6; have mB : True := trivial; clear hown6 hb6 mA _h)
            | (go_at_call 13; refine (Kx.out _).mono ?_; rintro e w5 ⟨rfl, rfl⟩)
            | (go_at_call 14; refine (Bx.out _).mono ?_; rintro e w5 ⟨rfl, rfl⟩)
            | (go_at_call 16; refine (HM.out _).mono ?_; rintro e w5 ⟨rfl, rfl⟩)
            | (go_at_call 11; refine (HSS.out _ _ HR4.out).mono ?_; rintro e w5 ⟨rfl, rfl⟩)
            | (go_at_call_of 15 (#[Value.complex FloatKind.f64 wt wb, Value.complex FloatKind.f64 wu wc] : Array Value); refine (L1.out _).mono ?_; rintro e w5 ⟨rfl, rfl⟩; (iterate 6 (try (first | go_values | go_skip | go_step | go_upon | go_back | go_simp))); (try simp only [List.append_eq, List.cons_append, List.nil_append]))
            | (go_at_call_of 15 (#[Value.complex FloatKind.f64 wu wc, Value.complex FloatKind.f64 wt wb] : Array Value); refine (L2.out _).mono ?_; rintro e w5 ⟨rfl, rfl⟩)
            | (go_at_call_of 15 (#[Value.complex FloatKind.f64 wt wb, Value.complex FloatKind.f64 wm wm] : Array Value); refine (L3.out _).mono ?_; rintro e w5 ⟨rfl, rfl⟩)
            | (go_at_call_of 15 (#[Value.complex FloatKind.f64 wm wm, Value.complex FloatKind.f64 wu wc] : Array Value); refine (L4.out _).mono ?_; rintro e w5 ⟨rfl, rfl⟩; have mA : True := trivial))
          go_ret
          exact ⟨rfl, HB4.out⟩
        · rw [decide_eq_false (by omega)] at L1
          rw [decide_eq_true (by omega)] at L2
          have dtu : decide ((t : Int) < (u : Int)) = false := decide_eq_false (by omega)
          have ntu : decide (t < u) = false := decide_eq_false (by omega)
          have dut : decide ((u : Int) < (t : Int)) = true := decide_eq_true (by omega)
          have nut : decide (u < t) = true := decide_eq_true (by omega)
          have qtu : ((t : Int) == (u : Int)) = false := beq_false_of_ne (by omega)
          have qut : ((u : Int) == (t : Int)) = false := beq_false_of_ne (by omega)
          clear hq
          go_wp2_with (first
            | (have _h := mB; at_builtin; refine wpList_append_ints_guard rfl (.tmp 133) (.tmp 134) rfl w5.heap.size _ xs rfl HO6.out _ ys rfl HS6.out hfew.out HS7.out ?_; intro v8 w8 hown8 hb8; have HR4 := hid (ownsRow_reads hown8); have HB4 := hid (HB6.out.trans (hb8.mono HZ.out)); clear hown8 hb8 mB _h)
            | (have _h := mA; at_builtin; refine wpList_append_ints_guard rfl (.const (.slice none 0 0)) (.tmp 132) rfl w5.heap.size _ [] rfl (World.ownsRow_nil _ _ _ _) _ xs rfl (HR5.out _ hbl) hfew0.out (Nat.le_refl _) ?_; intro v6 w6 hown6 hb6; rw [List.nil_append] at hown6; have HO6 := hid hown6; have HS6 := hid ((HS5.out _ hbl).below hb6); have HS7 := hid hb6.size; have HB6 := hid ((HB5.out _ hbl).trans (hb6.mono (HB5.out _ hbl).size)); have HZ := hid (HB5.out _ hbl).size; obtain ⟨a6, k6, hv6⟩ := ownsRow_slice hown6; subst hv6; have mB : True := trivial; clear hown6 hb6 mA _h)
            | (go_at_call 13; refine (Kx.out _).mono ?_; rintro e w5 ⟨rfl, rfl⟩)
            | (go_at_call 14; refine (Bx.out _).mono ?_; rintro e w5 ⟨rfl, rfl⟩)
            | (go_at_call 16; refine (HM.out _).mono ?_; rintro e w5 ⟨rfl, rfl⟩)
            | (go_at_call 11; refine (HSS.out _ _ HR4.out).mono ?_; rintro e w5 ⟨rfl, rfl⟩)
            | (go_at_call_of 15 (#[Value.complex FloatKind.f64 wt wb, Value.complex FloatKind.f64 wu wc] : Array Value); refine (L1.out _).mono ?_; rintro e w5 ⟨rfl, rfl⟩; (iterate 6 (try (first | go_values | go_skip | go_step | go_upon | go_back | go_simp))); (try simp only [List.append_eq, List.cons_append, List.nil_append]))
            | (go_at_call_of 15 (#[Value.complex FloatKind.f64 wu wc, Value.complex FloatKind.f64 wt wb] : Array Value); refine (L2.out _).mono ?_; rintro e w5 ⟨rfl, rfl⟩)
            | (go_at_call_of 15 (#[Value.complex FloatKind.f64 wt wb, Value.complex FloatKind.f64 wm wm] : Array Value); refine (L3.out _).mono ?_; rintro e w5 ⟨rfl, rfl⟩)
            | (go_at_call_of 15 (#[Value.complex FloatKind.f64 wm wm, Value.complex FloatKind.f64 wu wc] : Array Value); refine (L4.out _).mono ?_; rintro e w5 ⟨rfl, rfl⟩; have mA : True := trivial))
          go_ret
          exact ⟨rfl, HB4.out⟩
        · rw [decide_eq_true (by omega)] at L1
          rw [decide_eq_false (by omega)] at L2
          have dtu : decide ((t : Int) < (u : Int)) = false := decide_eq_false (by omega)
          have ntu : decide (t < u) = false := decide_eq_false (by omega)
          have dut : decide ((u : Int) < (t : Int)) = false := decide_eq_false (by omega)
          have nut : decide (u < t) = false := decide_eq_false (by omega)
          have qtu : ((t : Int) == (u : Int)) = true := beq_iff_eq.2 (by omega)
          have qut : ((u : Int) == (t : Int)) = true := beq_iff_eq.2 (by omega)
          have dbc : decide ((b : Int) < (c : Int)) = true := decide_eq_true (by omega)
          have nbc : decide (b < c) = true := decide_eq_true (by omega)
          have dcb : decide ((c : Int) < (b : Int)) = false := decide_eq_false (by omega)
          have ncb : decide (c < b) = false := decide_eq_false (by omega)
          clear hq
          go_wp2_with (first
            | (have _h := mB; at_builtin; refine wpList_append_ints_guard rfl (.tmp 133) (.tmp 134) rfl w5.heap.size _ xs rfl HO6.out _ ys rfl HS6.out hfew.out HS7.out ?_; intro v8 w8 hown8 hb8; have HR4 := hid (ownsRow_reads hown8); have HB4 := hid (HB6.out.trans (hb8.mono HZ.out)); clear hown8 hb8 mB _h)
            | (have _h := mA; at_builtin; refine wpList_append_ints_guard rfl (.const (.slice none 0 0)) (.tmp 132) rfl w5.heap.size _ [] rfl (World.ownsRow_nil _ _ _ _) _ xs rfl (HR5.out _ hbl) hfew0.out (Nat.le_refl _) ?_; intro v6 w6 hown6 hb6; rw [List.nil_append] at hown6; have HO6 := hid hown6; have HS6 := hid ((HS5.out _ hbl).below hb6); have HS7 := hid hb6.size; have HB6 := hid ((HB5.out _ hbl).trans (hb6.mono (HB5.out _ hbl).size)); have HZ := hid (HB5.out _ hbl).size; obtain ⟨a6, k6, hv6⟩ := ownsRow_slice hown6; subst hv6; have mB : True := trivial; clear hown6 hb6 mA _h)
            | (go_at_call 13; refine (Kx.out _).mono ?_; rintro e w5 ⟨rfl, rfl⟩)
            | (go_at_call 14; refine (Bx.out _).mono ?_; rintro e w5 ⟨rfl, rfl⟩)
            | (go_at_call 16; refine (HM.out _).mono ?_; rintro e w5 ⟨rfl, rfl⟩)
            | (go_at_call 11; refine (HSS.out _ _ HR4.out).mono ?_; rintro e w5 ⟨rfl, rfl⟩)
            | (go_at_call_of 15 (#[Value.complex FloatKind.f64 wt wb, Value.complex FloatKind.f64 wu wc] : Array Value); refine (L1.out _).mono ?_; rintro e w5 ⟨rfl, rfl⟩; (iterate 6 (try (first | go_values | go_skip | go_step | go_upon | go_back | go_simp))); (try simp only [List.append_eq, List.cons_append, List.nil_append]))
            | (go_at_call_of 15 (#[Value.complex FloatKind.f64 wu wc, Value.complex FloatKind.f64 wt wb] : Array Value); refine (L2.out _).mono ?_; rintro e w5 ⟨rfl, rfl⟩)
            | (go_at_call_of 15 (#[Value.complex FloatKind.f64 wt wb, Value.complex FloatKind.f64 wm wm] : Array Value); refine (L3.out _).mono ?_; rintro e w5 ⟨rfl, rfl⟩)
            | (go_at_call_of 15 (#[Value.complex FloatKind.f64 wm wm, Value.complex FloatKind.f64 wu wc] : Array Value); refine (L4.out _).mono ?_; rintro e w5 ⟨rfl, rfl⟩; have mA : True := trivial))
          go_ret
          exact ⟨rfl, HB4.out⟩
        · rw [decide_eq_false (by omega)] at L1
          rw [decide_eq_true (by omega)] at L2
          have dtu : decide ((t : Int) < (u : Int)) = false := decide_eq_false (by omega)
          have ntu : decide (t < u) = false := decide_eq_false (by omega)
          have dut : decide ((u : Int) < (t : Int)) = false := decide_eq_false (by omega)
          have nut : decide (u < t) = false := decide_eq_false (by omega)
          have qtu : ((t : Int) == (u : Int)) = true := beq_iff_eq.2 (by omega)
          have qut : ((u : Int) == (t : Int)) = true := beq_iff_eq.2 (by omega)
          have dbc : decide ((b : Int) < (c : Int)) = false := decide_eq_false (by omega)
          have nbc : decide (b < c) = false := decide_eq_false (by omega)
          have dcb : decide ((c : Int) < (b : Int)) = true := decide_eq_true (by omega)
          have ncb : decide (c < b) = true := decide_eq_true (by omega)
          clear hq
          go_wp2_with (first
            | (have _h := mB; at_builtin; refine wpList_append_ints_guard rfl (.tmp 133) (.tmp 134) rfl w5.heap.size _ xs rfl HO6.out _ ys rfl HS6.out hfew.out HS7.out ?_; intro v8 w8 hown8 hb8; have HR4 := hid (ownsRow_reads hown8); have HB4 := hid (HB6.out.trans (hb8.mono HZ.out)); clear hown8 hb8 mB _h)
            | (have _h := mA; at_builtin; refine wpList_append_ints_guard rfl (.const (.slice none 0 0)) (.tmp 132) rfl w5.heap.size _ [] rfl (World.ownsRow_nil _ _ _ _) _ xs rfl (HR5.out _ hbl) hfew0.out (Nat.le_refl _) ?_; intro v6 w6 hown6 hb6; rw [List.nil_append] at hown6; have HO6 := hid hown6; have HS6 := hid ((HS5.out _ hbl).below hb6); have HS7 := hid hb6.size; have HB6 := hid ((HB5.out _ hbl).trans (hb6.mono (HB5.out _ hbl).size)); have HZ := hid (HB5.out _ hbl).size; obtain ⟨a6, k6, hv6⟩ := ownsRow_slice hown6; subst hv6; have mB : True := trivial; clear hown6 hb6 mA _h)
            | (go_at_call 13; refine (Kx.out _).mono ?_; rintro e w5 ⟨rfl, rfl⟩)
            | (go_at_call 14; refine (Bx.out _).mono ?_; rintro e w5 ⟨rfl, rfl⟩)
            | (go_at_call 16; refine (HM.out _).mono ?_; rintro e w5 ⟨rfl, rfl⟩)
            | (go_at_call 11; refine (HSS.out _ _ HR4.out).mono ?_; rintro e w5 ⟨rfl, rfl⟩)
            | (go_at_call_of 15 (#[Value.complex FloatKind.f64 wt wb, Value.complex FloatKind.f64 wu wc] : Array Value); refine (L1.out _).mono ?_; rintro e w5 ⟨rfl, rfl⟩; (iterate 6 (try (first | go_values | go_skip | go_step | go_upon | go_back | go_simp))); (try simp only [List.append_eq, List.cons_append, List.nil_append]))
            | (go_at_call_of 15 (#[Value.complex FloatKind.f64 wu wc, Value.complex FloatKind.f64 wt wb] : Array Value); refine (L2.out _).mono ?_; rintro e w5 ⟨rfl, rfl⟩)
            | (go_at_call_of 15 (#[Value.complex FloatKind.f64 wt wb, Value.complex FloatKind.f64 wm wm] : Array Value); refine (L3.out _).mono ?_; rintro e w5 ⟨rfl, rfl⟩)
            | (go_at_call_of 15 (#[Value.complex FloatKind.f64 wm wm, Value.complex FloatKind.f64 wu wc] : Array Value); refine (L4.out _).mono ?_; rintro e w5 ⟨rfl, rfl⟩; have mA : True := trivial))
          go_ret
          exact ⟨rfl, HB4.out⟩
        · rw [decide_eq_false (by omega)] at L1
          rw [decide_eq_false (by omega)] at L2
          have dtu : decide ((t : Int) < (u : Int)) = false := decide_eq_false (by omega)
          have ntu : decide (t < u) = false := decide_eq_false (by omega)
          have dut : decide ((u : Int) < (t : Int)) = false := decide_eq_false (by omega)
          have nut : decide (u < t) = false := decide_eq_false (by omega)
          have qtu : ((t : Int) == (u : Int)) = true := beq_iff_eq.2 (by omega)
          have qut : ((u : Int) == (t : Int)) = true := beq_iff_eq.2 (by omega)
          have dbc : decide ((b : Int) < (c : Int)) = false := decide_eq_false (by omega)
          have nbc : decide (b < c) = false := decide_eq_false (by omega)
          have dcb : decide ((c : Int) < (b : Int)) = false := decide_eq_false (by omega)
          have ncb : decide (c < b) = false := decide_eq_false (by omega)
          clear hq
          go_wp2_with (first
            | (have _h := mB; at_builtin; refine wpList_append_ints_guard rfl (.tmp 133) (.tmp 134) rfl w5.heap.size _ xs rfl HO6.out _ ys rfl HS6.out hfew.out HS7.out ?_; intro v8 w8 hown8 hb8; have HR4 := hid (ownsRow_reads hown8); have HB4 := hid (HB6.out.trans (hb8.mono HZ.out)); clear hown8 hb8 mB _h)
            | (have _h := mA; at_builtin; refine wpList_append_ints_guard rfl (.const (.slice none 0 0)) (.tmp 132) rfl w5.heap.size _ [] rfl (World.ownsRow_nil _ _ _ _) _ xs rfl (HR5.out _ hbl) hfew0.out (Nat.le_refl _) ?_; intro v6 w6 hown6 hb6; rw [List.nil_append] at hown6; have HO6 := hid hown6; have HS6 := hid ((HS5.out _ hbl).below hb6); have HS7 := hid hb6.size; have HB6 := hid ((HB5.out _ hbl).trans (hb6.mono (HB5.out _ hbl).size)); have HZ := hid (HB5.out _ hbl).size; obtain ⟨a6, k6, hv6⟩ := ownsRow_slice hown6; subst hv6; have mB : True := trivial; clear hown6 hb6 mA _h)
            | (go_at_call 13; refine (Kx.out _).mono ?_; rintro e w5 ⟨rfl, rfl⟩)
            | (go_at_call 14; refine (Bx.out _).mono ?_; rintro e w5 ⟨rfl, rfl⟩)
            | (go_at_call 16; refine (HM.out _).mono ?_; rintro e w5 ⟨rfl, rfl⟩)
            | (go_at_call 11; refine (HSS.out _ _ HR4.out).mono ?_; rintro e w5 ⟨rfl, rfl⟩)
            | (go_at_call_of 15 (#[Value.complex FloatKind.f64 wt wb, Value.complex FloatKind.f64 wu wc] : Array Value); refine (L1.out _).mono ?_; rintro e w5 ⟨rfl, rfl⟩; (iterate 6 (try (first | go_values | go_skip | go_step | go_upon | go_back | go_simp))); (try simp only [List.append_eq, List.cons_append, List.nil_append]))
            | (go_at_call_of 15 (#[Value.complex FloatKind.f64 wu wc, Value.complex FloatKind.f64 wt wb] : Array Value); refine (L2.out _).mono ?_; rintro e w5 ⟨rfl, rfl⟩)
            | (go_at_call_of 15 (#[Value.complex FloatKind.f64 wt wb, Value.complex FloatKind.f64 wm wm] : Array Value); refine (L3.out _).mono ?_; rintro e w5 ⟨rfl, rfl⟩)
            | (go_at_call_of 15 (#[Value.complex FloatKind.f64 wm wm, Value.complex FloatKind.f64 wu wc] : Array Value); refine (L4.out _).mono ?_; rintro e w5 ⟨rfl, rfl⟩; have mA : True := trivial))
          go_ret
          exact ⟨rfl, HB4.out⟩
  · rcases (show 1000 < len ∨ (len ≤ 1000 ∧ 1000 < len2) by omega) with h1 | ⟨h1, h2⟩
    · have hd0 : decide ((1000 : Int) < (len : Int)) = true := decide_eq_true (by omega)
      have hd1 : decide (1000 < len) = true := decide_eq_true (by omega)
      clear h1 hl
      go_enter Try.func3, Try.ntmps3
      go_wp2_with (go_at_call 8; refine (alive_any _).mono ?_; rintro e w1 ⟨rfl, hb1⟩)
      go_ret
      exact ⟨rfl, hb1⟩
    · have hd0 : decide ((1000 : Int) < (len : Int)) = false := decide_eq_false (by omega)
      have hd1 : decide (1000 < len) = false := decide_eq_false (by omega)
      have hd2 : decide ((1000 : Int) < (len2 : Int)) = true := decide_eq_true (by omega)
      have hd3 : decide (1000 < len2) = true := decide_eq_true (by omega)
      clear h1 h2 hl
      go_enter Try.func3, Try.ntmps3
      go_wp2_with (go_at_call 8; refine (alive_any _).mono ?_; rintro e w1 ⟨rfl, hb1⟩)
      go_ret
      exact ⟨rfl, hb1⟩

set_option linter.unusedVariables false
theorem costTells_own : ownKnob Try.prog.godebug = none := by kernel_rfl

theorem costTells_laidOut : laidOutB Try.prog = true := by kernel_rfl

set_option maxRecDepth 100000 in
theorem costTells_lifted (os : Os) (started : os.Started) (H : Type) (enc : TypeId × Value → H) :
    ReturnsInHanded {} Try.checked os 3 .any (Rows.costTellsSpec.pre6 enc Try.prog Try.f3 Rows.costTellsRow.domain false) (Rows.costTellsSpec.post enc Try.prog Try.f3 false true false false) := by
  refine returnsInHanded_of_change (C := Try.checked) costTells_own started (by kernel_rfl) Try.func3
    (ChangeSpec.witness6 (enc := enc) (C := Try.checked) false ⟨#[], #[.slice none 0 0, .slice none 0 0], []⟩ 8 (by kernel_rfl) (by kernel_rfl) (by kernel_rfl) (by kernel_rfl)) ?_
  intro W base args ds gs before hval0 hW hcnd _
  have hval : ∀ (j : Nat) t v, Try.f3.params[j]? = some t → args[j]? = some v → Value.okWide Try.prog W .any base t v := hval0
  have hW' := hW
  obtain ⟨p, q, hA0, hV, rfl, hfz, hnd⟩ := hW
  have hA : DataW.TrodAll enc Try.prog W 0 (fun _ => true) true Try.f3.params.toList args.toList ds p := hA0
  rw [Try.params3] at hA hval
  obtain ⟨v0, vs0, d0, ds0, p0, q0, hargs, rfl, rfl, h0, r0⟩ := trodAll_cons hA
  obtain ⟨v1, vs1, d1, ds1, p1, q1, rfl, rfl, rfl, h1, r1⟩ := trodAll_cons r0
  obtain ⟨rfl, rfl, rfl⟩ := trodAll_nil r1
  obtain rfl : args = #[v0, v1] := by cases args; simp_all
  obtain ⟨rfl, rfl⟩ := trodVars_none hV
  obtain ⟨a0, len0, cap0, rfl⟩ := okWide_slice Try.underlying22 (hval 0 22 v0 rfl rfl)
  have k0 := h0
  have lt0 : ∀ x ∈ p0, x.block < W.heap.size := by obtain ⟨m, hm⟩ := k0; exact DataW.trod_lt m _ _ _ hm
  obtain ⟨z0, w0⟩ := h0.elim (fun _ hf => open_numbers hf)
  obtain ⟨a1, len1, cap1, rfl⟩ := okWide_slice Try.underlying22 (hval 1 22 v1 rfl rfl)
  have k1 := h1
  have lt1 : ∀ x ∈ p1, x.block < W.heap.size := by obtain ⟨m, hm⟩ := k1; exact DataW.trod_lt m _ _ _ hm
  obtain ⟨z1, w1⟩ := h1.elim (fun _ hf => open_numbers hf)
  clear hA0 hval0
  refine (tells_walk a0 len0 cap0 z0 a1 len1 cap1 z1 W w0 w1).mono fun e W' ⟨he, bel⟩ => ?_
  subst he
  exact ⟨_, rfl, _, _, _, [], _, [], hW', trodAll_mk1 (shut_bool Try.underlying4 _), (trodAll_cons_mk (Below.trod costTells_laidOut (by kernel_rfl) (of_decide_eq_true (by kernel_rfl)) k0 bel lt0) (trodAll_cons_mk (Below.trod costTells_laidOut (by kernel_rfl) (of_decide_eq_true (by kernel_rfl)) k1 bel lt1) trodAll_mk0)), rfl, bel.frame _, fun h => by cases h⟩

/-- THE STATEMENT. -/
theorem costTells_holds : Rows.CostTellsSaid :=
  OpenClaim.holds_of_wide 3 Try.f3 rfl rfl rfl rfl rfl rfl rfl ⟨rfl, rfl, rfl, rfl, rfl⟩ rfl rfl rfl rfl rfl (by kernel_rfl) Try.func3 (by kernel_rfl)
    (of_decide_eq_true (by kernel_rfl)) (by unfold Func.isWrapper; first | (rw [if_pos (by decide +kernel)]; kernel_rfl) | (rw [if_neg (by decide +kernel)]; exact ⟨rfl, rfl⟩))
    (fun os started H enc _ => costTells_lifted os started H enc)
#print axioms costTells_holds
end Go.Proofs.Ytdnjmlenpelfgaa
