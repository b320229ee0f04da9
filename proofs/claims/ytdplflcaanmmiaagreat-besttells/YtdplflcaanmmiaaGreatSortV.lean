/-
  The library's stable sort of numbers that are told by their places: swapRangeCmpFunc, rotateCmpFunc. The library's stable sort of numbers that are told by their places: insertionSortCmpFunc. The library's stable sort of numbers that are told by their places: symMergeCmpFunc where one of the blocks has one number alone. The library's stable sort of numbers that are told by their places: symMergeCmpFunc. The library's stable sort of numbers that are told by their places: stableCmpFunc, SortStableFunc.
-/
import Derived.Test.YtdplflcaanmmiaaGreatSort
import Derived.Test.YtdplflcaanmmiaaGreatSortX
namespace Go.Proofs.YtdplflcaanmmiaaGreat.Ids
open Go.ChangeShapes Go.WideShapes Go.ChangeAt Go.RowKit

/-- A row of numbers: how much room it has, the number of each place as it was, what lies behind. -/
structure Rw where
  cap : Nat
  val : Nat → Nat
  rest : Nat → Value

/-- The row at block g holds the numbers of the places f; nothing else of what lay in w0 has turned. -/
structure RowAt (Q : Rw) (w0 : World) (g n : Nat) (f : Nat → Nat) (W : World) : Prop where
  room : n ≤ Q.cap
  row : W.rowIs g 3 Q.cap (fun i => if i < n then .int .i64 (Q.val (f i) : Int) else Q.rest i)
  kept : Kept (· = g) w0 W

theorem RowAt.cell {Q : Rw} {w0 W : World} {g n : Nat} {f : Nat → Nat} (h : RowAt Q w0 g n f W) {i : Nat} (hi : i < n) : W.cell? ⟨g, i, none⟩ = some (.int .i64 (Q.val (f i) : Int)) := by
  have h1 := h.row.cell (i := i) (Nat.lt_of_lt_of_le hi h.room)
  simpa [hi] using h1

theorem RowAt.frozen {Q : Rw} {w0 W : World} {g n : Nat} {f : Nat → Nat} (h : RowAt Q w0 g n f W) (i : Nat) : W.frozen? ⟨g, i, none⟩ = false := h.row.frozen i

theorem RowAt.cell_set {Q : Rw} {w0 W : World} {g n : Nat} {f : Nat → Nat} (h : RowAt Q w0 g n f W) {p q : Nat} (hpq : p ≠ q) (hq : q < n) (v : Value) : (W.setCell ⟨g, p, none⟩ v).cell? ⟨g, q, none⟩ = some (.int .i64 (Q.val (f q) : Int)) := by
  have h1 := (h.row.set p v).cell (i := q) (Nat.lt_of_lt_of_le hq h.room)
  simpa [Ne.symm hpq, hq] using h1

theorem RowAt.drewN {Q : Rw} {w0 W : World} {g n : Nat} {f : Nat → Nat} (h : RowAt Q w0 g n f W) (q : Nat) : RowAt Q w0 g n f (W.drewN q) := by
  refine ⟨h.room, ?_, h.kept.trans (Kept.drewN _ W q)⟩
  have hr := h.row
  clear h
  induction q generalizing W with
  | zero => exact hr
  | succ q ih => exact ih (W := W.drew) hr

theorem RowAt.swap {Q : Rw} {w0 W : World} {g n : Nat} {f : Nat → Nat} (h : RowAt Q w0 g n f W) (i j : Nat) (hij : i ≠ j) (hi : i < n) (hj : j < n) : RowAt Q w0 g n (swp2 f i j) ((W.setCell ⟨g, i, none⟩ (.int .i64 (Q.val (f j) : Int))).setCell ⟨g, j, none⟩ (.int .i64 (Q.val (f i) : Int))).drew := by
  refine ⟨h.room, ((((h.row.set i (.int .i64 (Q.val (f j) : Int))).set j (.int .i64 (Q.val (f i) : Int))).drew).congr (fun k _ => ?_)), ((h.kept.setCell g i _ rfl).setCell g j _ rfl).trans (Kept.drewN _ _ 1)⟩
  unfold swp2
  by_cases h1 : k = j
  · subst h1
    rw [if_pos rfl, if_pos hj, if_neg (by omega), if_pos rfl]
  · rw [if_neg h1]
    by_cases h2 : k = i
    · subst h2
      rw [if_pos rfl, if_pos hi, if_pos rfl]
    · rw [if_neg h2, if_neg h2, if_neg h1]

set_option maxRecDepth 20000 in
set_option maxHeartbeats 2000000 in
theorem swapRange_any {Q : Rw} {w0 W : World} {g n : Nat} {f : Nat → Nat} (h : RowAt Q w0 g n f W) (a b c : Nat) (hab : a + c ≤ b) (hb : b + c ≤ n) (hn : n ≤ 1000000) (cv : Value) :
    Calls Tryz.prog 140 #[.slice (some ⟨g, 0, none⟩) n Q.cap, .int .i64 (a : Int), .int .i64 (b : Int), .int .i64 (c : Int), cv] W fun e w' => e = .returned (.tuple #[]) ∧ RowAt Q w0 g n (swr f a b c) w' := by
  have mixed : Tryz.prog.follows .mixedOrders = true := by kernel_rfl
  have H := hid h
  clear h
  go_enter Tryz.func140, Tryz.ntmps140
  go_wp2
  go_loopw [10] (fun vi wr => ∃ i : Nat, vi = .int .i64 i ∧ i ≤ c ∧ Hid (RowAt Q w0 g n (swr f a b i) wr)) (fun vi _ => c - (intOf vi).toNat)
  case atStart => exact ⟨0, rfl, by omega, by rw [swr_zero]; exact H.out⟩
  case round =>
    obtain ⟨i, rfl, hi, hR⟩ := hrel
    by_cases hlt : i < c
    · obtain ⟨p, hp⟩ : ∃ p, p = a + i := ⟨_, rfl⟩
      obtain ⟨q, hq⟩ : ∃ q, q = b + i := ⟨_, rfl⟩
      have e1 : (a : Int) + (i : Int) = (p : Int) := by omega
      have e2 : (b : Int) + (i : Int) = (q : Int) := by omega
      have hpn : p < n := by omega
      have hqn : q < n := by omega
      have hpq : p ≠ q := by omega
      have c1 := hR.out.cell hpn
      have c2 := hR.out.cell hqn
      have f1 := hR.out.frozen p
      have f2 := hR.out.frozen q
      have c3 : (wr.setCell ⟨g, p, none⟩ (.int .i64 (Q.val (swr f a b i q) : Int))).cell? ⟨g, q, none⟩ = some (.int .i64 (Q.val (swr f a b i q) : Int)) := by
        exact hR.out.cell_set hpq hqn _
      have HS := hid (hR.out.swap p q hpq hpn hqn)
      have hsw : swp2 (swr f a b i) p q = swr f a b (i + 1) := by rw [hp, hq]; exact swr_succ f a b i (by omega)
      rw [hsw] at HS
      have hx1 : decide ((0 : Int) ≤ (p : Int) ∧ (p : Int) < (n : Int)) = true := decide_eq_true ⟨by omega, by omega⟩
      have hx2 : decide ((0 : Int) ≤ (q : Int) ∧ (q : Int) < (n : Int)) = true := decide_eq_true ⟨by omega, by omega⟩
      have HP := hid hp
      have HQ := hid hq
      clear hp hq hsw
      generalize Q.val (swr f a b i p) = x at c1 c3 HS
      generalize Q.val (swr f a b i q) = y at c2 c3 HS
      go_wp2_with fail
      go_big_region_o
      clear c1 c2 c3 f1 f2 hx1 hx2
      generalize ((wr.setCell ⟨g, p, none⟩ (.int .i64 (y : Int))).setCell ⟨g, q, none⟩ (.int .i64 (x : Int))).drew = w3 at HS ⊢
      go_wp2
      go_roundw
      case rel => exact ⟨i + 1, by go_num, by omega, HS.out⟩
      case measure => simp [intOf]; omega
    · obtain rfl : i = c := by omega
      go_wp2
      exact bodyPost_end (v := .tuple #[]) (by simp [results, Tryz.results140, go_sem]) rfl ⟨rfl, hR.out⟩

set_option maxRecDepth 20000 in
set_option maxHeartbeats 2000000 in
theorem rotate_any {Q : Rw} {w0 W : World} {g n : Nat} {f : Nat → Nat} (h : RowAt Q w0 g n f W) (a m b : Nat) (ham : a < m) (hmb : m < b) (hb : b ≤ n) (hn : n ≤ 1000000) (cv : Value) :
    Calls Tryz.prog 136 #[.slice (some ⟨g, 0, none⟩) n Q.cap, .int .i64 (a : Int), .int .i64 (m : Int), .int .i64 (b : Int), cv] W fun e w' => e = .returned (.tuple #[]) ∧ RowAt Q w0 g n (rot f a m b) w' := by
  have H := hid h
  clear h
  obtain ⟨i0, hi0⟩ : ∃ i, i = m - a := ⟨_, rfl⟩
  obtain ⟨j0, hj0⟩ : ∃ j, j = b - m := ⟨_, rfl⟩
  have e1 : (m : Int) - (a : Int) = (i0 : Int) := by omega
  have e2 : (b : Int) - (m : Int) = (j0 : Int) := by omega
  have HR0 : Hid (rot f (m - i0) m (m + j0) = rot f a m b) := by
    show _ = _
    rw [show m - i0 = a by omega, show m + j0 = b by omega]
  have hi1 : 0 < i0 := by omega
  have hj1 : 0 < j0 := by omega
  have hi2 : i0 ≤ m := by omega
  have hj2 : m + j0 ≤ n := by omega
  clear hi0 hj0
  go_enter Tryz.func136, Tryz.ntmps136
  go_wp2
  go_loopw [10, 11] (fun vi vj wr => ∃ i j : Nat, ∃ f' : Nat → Nat, vi = .int .i64 i ∧ vj = .int .i64 j ∧ 0 < i ∧ 0 < j ∧ i ≤ m ∧ m + j ≤ n ∧ Hid (RowAt Q w0 g n f' wr) ∧ Hid (rot f' (m - i) m (m + j) = rot f a m b)) (fun vi vj _ => (intOf vi).toNat + (intOf vj).toNat)
  case atStart => exact ⟨i0, j0, f, rfl, rfl, hi1, hj1, hi2, hj2, H.out, HR0.out⟩
  case round =>
    obtain ⟨i, j, f', rfl, rfl, hi, hj, him, hjn, hR, hE⟩ := hrel
    obtain ⟨p, hp⟩ : ∃ p, p = m - i := ⟨_, rfl⟩
    have e3 : (m : Int) - (i : Int) = (p : Int) := by omega
    rcases Nat.lt_trichotomy i j with hlt | heq | hgt
    · obtain ⟨q, hq⟩ : ∃ q, q = m + j - i := ⟨_, rfl⟩
      obtain ⟨d, hd⟩ : ∃ d, d = j - i := ⟨_, rfl⟩
      have e4 : (m : Int) + (j : Int) - (i : Int) = (q : Int) := by omega
      have e5 : (j : Int) - (i : Int) = (d : Int) := by omega
      have hne : ¬ ((i : Int) = (j : Int)) := by omega
      have hne2 : ¬ (i = j) := by omega
      have hng : ¬ (j < i) := by omega
      have hpq : p + i ≤ q := by omega
      have hqn : q + i ≤ n := by omega
      have hE2 : rot (swr f' p q i) (m - i) m (m + d) = rot f a m b := by rw [hp, hq, hd, rot_right f' m i j him hlt]; exact hE.out
      have HE2 := hid hE2
      have hd0 : 0 < d := by omega
      have hdn : m + d ≤ n := by omega
      have hdj : d < j := by omega
      clear hE2 hE hp hq hd
      go_wp2_with (go_at_call 140; refine (swapRange_any hR.out p q i hpq hqn hn cv).mono ?_; rintro e w5 ⟨rfl, hR5⟩; have HR5 := hid hR5; clear hR5)
      go_roundw
      case rel => exact ⟨i, d, swr f' p q i, by go_num, by go_num, hi, hd0, him, hdn, HR5.out, HE2.out⟩
      case measure => simp [intOf]; omega
    · subst heq
      have hE2 : swr f' p m i = rot f a m b := by rw [hp, rot_even f' m i him]; exact hE.out
      have HE2 := hid hE2
      have hpq : p + i ≤ m := by omega
      clear hE2 hE hp
      go_wp2_with (go_at_call 140; refine (swapRange_any hR.out p m i hpq hjn hn cv).mono ?_; rintro e w5 ⟨rfl, hR5⟩; have HR5 := hid hR5; clear hR5)
      exact bodyPost_end (v := .tuple #[]) (by simp [results, Tryz.results136, go_sem]) rfl ⟨rfl, by rw [← HE2.out]; exact HR5.out⟩
    · obtain ⟨d, hd⟩ : ∃ d, d = i - j := ⟨_, rfl⟩
      have e5 : (i : Int) - (j : Int) = (d : Int) := by omega
      have hne : ¬ ((i : Int) = (j : Int)) := by omega
      have hne2 : ¬ (i = j) := by omega
      have hpq : p + j ≤ m := by omega
      have hE2 : rot (swr f' p m j) (m - d) m (m + j) = rot f a m b := by rw [hp, hd, rot_left f' m i j him hgt]; exact hE.out
      have HE2 := hid hE2
      have hd0 : 0 < d := by omega
      have hdn : d ≤ m := by omega
      have hdj : d < i := by omega
      clear hE2 hE hp hd
      go_wp2_with (go_at_call 140; refine (swapRange_any hR.out p m j hpq hjn hn cv).mono ?_; rintro e w5 ⟨rfl, hR5⟩; have HR5 := hid hR5; clear hR5)
      go_roundw
      case rel => exact ⟨d, j, swr f' p m j, by go_num, by go_num, hd0, hj, hdn, hjn, HR5.out, HE2.out⟩
      case measure => simp [intOf]; omega
end Go.Proofs.YtdplflcaanmmiaaGreat.Ids

namespace Go.Proofs.YtdplflcaanmmiaaGreat.Ids
open Go.ChangeShapes Go.WideShapes Go.ChangeAt Go.RowKit

/-- The function that compares: by the keys of places below n, whatever stands in the row. -/
def CmpAt (Q : Rw) (w0 : World) (g n bx : Nat) (key : Nat → Nat) : Prop :=
  ∀ W, Kept (· = g) w0 W → ∀ x y : Nat, x < n → y < n → Calls Tryz.prog 114 #[.int .i64 (Q.val x : Int), .int .i64 (Q.val y : Int), .pointer (some ⟨bx, 0, none⟩)] W fun e w' => e = .returned (.int .i64 (c3 (key x) (key y))) ∧ ∃ q, w' = W.drewN q

/-- The value that is handed on. -/
abbrev cmpV (bx : Nat) : Value := .func (.func 114) #[] #[.pointer (some ⟨bx, 0, none⟩)]

set_option maxRecDepth 20000 in
set_option maxHeartbeats 4000000 in
/-- A block whose numbers are their own places is sorted. -/
theorem insertion_any {Q : Rw} {w0 W : World} {g n bx : Nat} {f key : Nat → Nat} (h : RowAt Q w0 g n f W) (hc : CmpAt Q w0 g n bx key) (a b : Nat) (hab : a ≤ b) (hb : b ≤ n) (hn : n ≤ 1000000) (hid0 : ∀ k, a ≤ k → k < b → f k = k) :
    Calls Tryz.prog 128 #[.slice (some ⟨g, 0, none⟩) n Q.cap, .int .i64 (a : Int), .int .i64 (b : Int), cmpV bx] W fun e w' => e = .returned (.tuple #[]) ∧ ∃ f', RowAt Q w0 g n f' w' ∧ Srt key f' a b ∧ Same f f' a b := by
  have mixed : Tryz.prog.follows .mixedOrders = true := by kernel_rfl
  have H := hid h
  have HC := hid hc
  have HI := hid hid0
  clear h hc hid0
  unfold cmpV
  go_enter Tryz.func128, Tryz.ntmps128
  go_wp2
  go_loopg [8] (b + 1) (fun g1 vi wr => ∃ (i : Nat) (f' : Nat → Nat), vi = .int .i64 i ∧ a < i ∧ i ≤ b + 1 ∧ b + 1 - i ≤ g1 ∧ Hid (RowAt Q w0 g n f' wr) ∧ Hid (Srt key f' a (min i b)) ∧ Hid (Same f f' a b) ∧ Hid (∀ k, a ≤ k → k < b → (i ≤ k → f' k = k) ∧ (k < i → f' k < i)))
  case atStart => exact ⟨a + 1, f, by go_num, by omega, by omega, by omega, H.out, (fun p q h1 h2 h3 => by omega), Same.refl _ _ _, (fun k h1 h2 => ⟨fun _ => HI.out k h1 h2, fun h3 => by rw [HI.out k h1 h2]; exact h3⟩)⟩
  case round =>
    obtain ⟨i, f1, rfl, hai, hib, hg1, hR, hS, hM, hV⟩ := hrel
    by_cases hlt : i < b
    · -- behind the inner loop
      have HOUT : Hid (∀ j, a ≤ j → j ≤ i → (∀ k, j ≤ k → k < i → rk key (f1 i) < rk key (f1 k)) → (j = a ∨ (a < j ∧ rk key (f1 (j - 1)) < rk key (f1 i))) → Srt key (mvL f1 j i) a (min (i + 1) b) ∧ Same f (mvL f1 j i) a b ∧ (∀ k, a ≤ k → k < b → (i + 1 ≤ k → mvL f1 j i k = k) ∧ (k < i + 1 → mvL f1 j i k < i + 1))) := by
        intro j haj hji h2 h1
        have hsi : Srt key f1 a i := by have := hS.out; rwa [Nat.min_eq_left (by omega)] at this
        refine ⟨?_, hM.out.trans ((same_mvL f1 j i hji).wide haj (by omega)), ?_⟩
        · rw [Nat.min_eq_left (by omega)]
          refine srt_mvL hsi haj hji (fun k hk1 hk2 => ?_) h2
          rcases h1 with rfl | ⟨h1, h3⟩
          · omega
          · rcases Nat.lt_or_ge k (j - 1) with h4 | h4
            · exact Nat.lt_trans (hsi k (j - 1) hk1 h4 (by omega)) h3
            · rw [show k = j - 1 by omega]; exact h3
        · intro k hk1 hk2
          have hsm := same_mvL f1 j i hji
          refine ⟨fun h3 => ?_, fun h3 => ?_⟩
          · rw [hsm.out k (by omega)]
            exact (hV.out k hk1 hk2).1 (by omega)
          · by_cases h4 : j ≤ k
            · obtain ⟨k', a1, b1, e1⟩ := hsm.back k h4 h3
              rw [e1]
              have h5 := hV.out k' (by omega) (by omega)
              rcases Nat.lt_or_ge k' i with h6 | h6
              · have := h5.2 h6; omega
              · rw [h5.1 h6]; omega
            · rw [hsm.out k (by omega)]
              have := (hV.out k hk1 hk2).2 (by omega)
              omega
      have HVI : Hid (f1 i = i ∧ ∀ k, a ≤ k → k < i → f1 k < i) := ⟨(hV.out i (by omega) hlt).1 (Nat.le_refl _), fun k h1 h2 => (hV.out k h1 (by omega)).2 h2⟩
      clear hS hM hV
      go_wp2
      go_loopg [9] i (fun g2 vj wr2 => ∃ j : Nat, vj = .int .i64 j ∧ a ≤ j ∧ j ≤ i ∧ j ≤ g2 ∧ Hid (RowAt Q w0 g n (mvL f1 j i) wr2) ∧ Hid (∀ k, j ≤ k → k < i → rk key (f1 i) < rk key (f1 k)))
      case atStart => exact ⟨i, rfl, by omega, by omega, by omega, by rw [mvL_zero]; exact hR.out, (fun k h1 h2 => by omega)⟩
      case round =>
        clear hR
        obtain ⟨j, rfl, haj, hji, hg2, hR, hB⟩ := hrel
        by_cases hja : a < j
        · obtain ⟨q, rfl⟩ : ∃ q, j = q + 1 := ⟨j - 1, by omega⟩
          obtain ⟨y, hy⟩ : ∃ y, y = f1 i := ⟨_, rfl⟩
          obtain ⟨x, hx⟩ : ∃ x, x = f1 q := ⟨_, rfl⟩
          have ey : mvL f1 (q + 1) i (q + 1) = y := by
            unfold mvL rot
            rw [if_pos (by omega), hy]
            congr 1; omega
          have ex : mvL f1 (q + 1) i q = x := by
            unfold mvL rot
            rw [if_neg (by omega), if_neg (by omega), hx]
          have hqn : q < n := by omega
          obtain ⟨p, hp⟩ : ∃ p, p = q + 1 := ⟨_, rfl⟩
          have hpn : p < n := by omega
          have ez : ((q + 1 : Nat) : Int) = (p : Int) := by omega
          have em : (p : Int) - 1 = (q : Int) := by omega
          have hapn : (a : Int) < (p : Int) := by omega
          have hap : decide ((p : Int) > (a : Int)) = true := decide_eq_true (by omega)
          have hap2 : decide (a < p) = true := decide_eq_true (by omega)
          have c1 := hR.out.cell hpn
          have c2 := hR.out.cell hqn
          have f1' := hR.out.frozen p
          have f2' := hR.out.frozen q
          have EY : Hid (mvL f1 p i p = y) := by show _ = _; rw [hp]; exact ey
          have EX : Hid (mvL f1 p i q = x) := by show _ = _; rw [hp]; exact ex
          rw [hp, ey, ← hp] at c1
          rw [ex] at c2
          have hyi : y = i := hy.trans HVI.out.1
          have hxi : x < i := by rw [hx]; exact HVI.out.2 q (by omega) (by omega)
          have hyn : y < n := by omega
          have hxn : x < n := by omega
          have hx1 : decide ((0 : Int) ≤ (p : Int) ∧ (p : Int) < (n : Int)) = true := decide_eq_true ⟨by omega, by omega⟩
          have hx2 : decide ((0 : Int) ≤ (q : Int) ∧ (q : Int) < (n : Int)) = true := decide_eq_true ⟨by omega, by omega⟩
          have hwp : IntKind.i64.wrap (p : Int) = (p : Int) := by rw [IntKind.wrap_i64]; omega
          have hwq : IntKind.i64.wrap (q : Int) = (q : Int) := by rw [IntKind.wrap_i64]; omega
          have hpi : p ≤ i := by omega
          have hpg : p ≤ gk := by omega
          have hap3 : a < p := by omega
          have hpq : p ≠ q := by omega
          have HY := hid hy
          have HX := hid hx
          have HP := hid hp
          have HYI := hid hyi
          have hqi : q < i := by omega
          have haq : a ≤ q := by omega
          have hqp : q < p := by omega
          have HR3 := hR.out
          rw [← hp] at HR3
          have HR4 := hid HR3
          rw [ez]
          clear hy hx ey ex ez hji hja haj hg2 hyi hp HR3 hR
          by_cases hk : key y < key x
          · have hcv := c3_lt hk
            have hcd : decide (c3 (key y) (key x) < 0) = true := decide_eq_true (by rw [hcv]; decide)
            have HB2 : Hid (∀ k, q ≤ k → k < i → rk key (f1 i) < rk key (f1 k)) := fun k h1 h2 => by
              rcases Nat.lt_or_ge q k with h3 | h3
              · exact hB.out k h3 h2
              · have e1 : k = q := by omega
                rw [e1, ← HY.out, ← HX.out]
                unfold rk
                omega
            clear hcv hk
            go_wp2_with fail
            go_quiet ((go_at_call 114; exact Calls.quiet_of (HC.out _ (HR4.out.kept.trans (Kept.drewN _ _ _)) y x hyn hxn)))
            have HR5 := hid (HR4.out.drewN nq)
            clear c1 c2 f1' f2' HR4
            generalize wr.drewN nq = w2 at HR5 ⊢
            have c1 := HR5.out.cell hpn
            have c2 := HR5.out.cell hqn
            have f1' := HR5.out.frozen p
            have f2' := HR5.out.frozen q
            have c3' : (w2.setCell ⟨g, p, none⟩ (.int .i64 (Q.val (mvL f1 p i q) : Int))).cell? ⟨g, q, none⟩ = some (.int .i64 (Q.val (mvL f1 p i q) : Int)) := by
              exact HR5.out.cell_set hpq hqn _
            have HS := hid (HR5.out.swap p q hpq hpn hqn)
            have hsw : swp2 (mvL f1 p i) p q = mvL f1 q i := by rw [HP.out]; exact mvL_succ f1 q i (by omega)
            rw [hsw, EX.out, EY.out] at HS
            rw [EY.out] at c1
            rw [EX.out] at c2 c3'
            clear hsw HR5 EX EY
            go_wp2_with fail
            go_big_region_o
            clear c1 c2 c3' f1' f2' hx1 hx2 hwp hwq
            generalize ((w2.setCell ⟨g, p, none⟩ (.int .i64 (Q.val x : Int))).setCell ⟨g, q, none⟩ (.int .i64 (Q.val y : Int))).drew = w3 at HS ⊢
            go_wp2
            go_roundg q
            case measure => omega
            case rel => exact ⟨q, by first | rfl | go_num, haq, by omega, Nat.le_refl _, HS.out, HB2.out⟩
          · have hcv := c3_ge (Nat.le_of_not_lt hk)
            have hcd : decide (c3 (key y) (key x) < 0) = false := decide_eq_false hcv
            have HO := HOUT.out p (by omega) hpi (by rw [HP.out]; exact hB.out) (.inr ⟨hap3, by
              rw [show p - 1 = q by omega, ← HX.out, ← HY.out]
              have h4 := HYI.out
              unfold rk
              omega⟩)
            obtain ⟨ho1, ho2, ho3⟩ := HO
            have HO1 := hid ho1
            have HO2 := hid ho2
            have HO3 := hid ho3
            clear hcv hk ho1 ho2 ho3 HOUT
            go_wp2_with fail
            go_quiet ((go_at_call 114; exact Calls.quiet_of (HC.out _ (HR4.out.kept.trans (Kept.drewN _ _ _)) y x hyn hxn)))
            have HR5 := hid (HR4.out.drewN nq)
            clear c1 c2 f1' f2' HR4
            generalize wr.drewN nq = w2 at HR5 ⊢
            go_wp2
            go_roundg (b - i)
            case measure => omega
            case rel => exact ⟨i + 1, mvL f1 p i, by go_num, by omega, by omega, by omega, HR5.out, HO1.out, HO2.out, HO3.out⟩
        · obtain rfl : j = a := by omega
          obtain ⟨ho1, ho2, ho3⟩ := HOUT.out j (Nat.le_refl _) (by omega) hB.out (.inl rfl)
          have HO1 := hid ho1
          have HO2 := hid ho2
          have HO3 := hid ho3
          clear ho1 ho2 ho3 HOUT
          have hja2 : ¬ ((j : Int) < (j : Int)) := by omega
          go_wp2_with fail
          go_quiet (fail)
          have HR5 := hid (hR.out.drewN nq)
          clear hR
          generalize wr.drewN nq = w2 at HR5 ⊢
          go_wp2
          go_roundg (b - i)
          case measure => omega
          case rel => exact ⟨i + 1, mvL f1 j i, by go_num, by omega, by omega, by omega, HR5.out, HO1.out, HO2.out, HO3.out⟩
    · have hmin : min i b = b := by omega
      have hS2 := hS.out
      rw [hmin] at hS2
      have HS2 := hid hS2
      clear hS2 hmin
      go_wp2
      exact bodyPost_end (v := .tuple #[]) (by simp [results, Tryz.results128, go_sem]) rfl ⟨rfl, f1, hR.out, HS2.out, hM.out⟩
end Go.Proofs.YtdplflcaanmmiaaGreat.Ids

namespace Go.Proofs.YtdplflcaanmmiaaGreat.Ids
open Go.ChangeShapes Go.WideShapes Go.ChangeAt Go.RowKit

set_option maxRecDepth 20000 in
set_option maxHeartbeats 4000000 in
/-- The left block is one number. -/
theorem sym_left {Q : Rw} {w0 W : World} {g n bx : Nat} {f key : Nat → Nat} (h : RowAt Q w0 g n f W) (hc : CmpAt Q w0 g n bx key) (a m b : Nat) (ham : m = a + 1) (hmb : m < b) (hb : b ≤ n) (hn : n ≤ 1000000) (hsm : Small f n) (h2 : Srt key f m b) (hx : Cross key f a m b) :
    Calls Tryz.prog 129 #[.slice (some ⟨g, 0, none⟩) n Q.cap, .int .i64 (a : Int), .int .i64 (m : Int), .int .i64 (b : Int), cmpV bx] W fun e w' => e = .returned (.tuple #[]) ∧ ∃ f', RowAt Q w0 g n f' w' ∧ Srt key f' a b ∧ Same f f' a b := by
  have mixed : Tryz.prog.follows .mixedOrders = true := by kernel_rfl
  have HC := hid hc
  have HM := hid ham
  have H0 := hid h
  have han : a < n := by omega
  have ham1 : a < m := by omega
  have ema : (m : Int) - (a : Int) = 1 := by omega
  obtain ⟨y, hy⟩ : ∃ y, y = f a := ⟨_, rfl⟩
  have hyn : y < n := by rw [hy]; exact hsm a han
  have HY := hid hy
  have HSM := hid hsm
  have H2 := hid h2
  have HX := hid hx
  have hxa : decide ((0 : Int) ≤ (a : Int) ∧ (a : Int) < (n : Int)) = true := decide_eq_true ⟨by omega, by omega⟩
  clear hc ham h hy hsm h2 hx
  unfold cmpV
  go_enter Tryz.func129, Tryz.ntmps129
  go_wp2
  go_loopg [10, 11] n (fun g1 vi vj wr => ∃ i j : Nat, vi = .int .i64 i ∧ vj = .int .i64 j ∧ m ≤ i ∧ i ≤ j ∧ j ≤ b ∧ j - i ≤ g1 ∧ Hid (RowAt Q w0 g n f wr) ∧ Hid (∀ k, m ≤ k → k < i → rk key (f k) < rk key (f a)) ∧ Hid (∀ k, j ≤ k → k < b → rk key (f a) < rk key (f k)))
  case atStart => exact ⟨m, b, rfl, rfl, by omega, by omega, by omega, by omega, H0.out, (fun k h1 h2 => by omega), (fun k h1 h2 => by omega)⟩
  case round =>
    obtain ⟨i, j, rfl, rfl, hmi, hij, hjb, hg, hR, hA, hB⟩ := hrel
    by_cases hlt : i < j
    · obtain ⟨q, hq⟩ : ∃ q, q = (i + j) / 2 := ⟨_, rfl⟩
      have eq1 : ((i : Int) + (j : Int)) / 2 = (q : Int) := by omega
      have hqi : i ≤ q := by omega
      have hqj : q < j := by omega
      have hqn : q < n := by omega
      clear hq
      obtain ⟨x, hx⟩ : ∃ x, x = f q := ⟨_, rfl⟩
      have hxn : x < n := by rw [hx]; exact HSM.out q hqn
      have c1 := hR.out.cell hqn
      have c2 := hR.out.cell han
      rw [← hx] at c1
      rw [← HY.out] at c2
      have hxq : decide ((0 : Int) ≤ (q : Int) ∧ (q : Int) < (n : Int)) = true := decide_eq_true ⟨by omega, by omega⟩
      have HXE := hid hx
      clear hx
      by_cases hk : key x < key y
      · have hcv := c3_lt hk
        have hcd : decide (c3 (key x) (key y) < 0) = true := decide_eq_true (by rw [hcv]; decide)
        have HA2 : Hid (∀ k, m ≤ k → k < q + 1 → rk key (f k) < rk key (f a)) := fun k h1 h3 => by
          have h4 : rk key (f q) < rk key (f a) := by rw [← HXE.out, ← HY.out]; exact rk_lt (by omega) hk
          rcases Nat.lt_or_ge k q with h5 | h5
          · exact Nat.lt_trans (H2.out k q h1 h5 (by omega)) h4
          · rw [show k = q by omega]; exact h4
        clear hcv hk hA
        go_wp2_with fail
        go_quiet ((go_at_call 114; exact Calls.quiet_of (HC.out _ (hR.out.kept.trans (Kept.drewN _ _ _)) x y hxn hyn)))
        have HR5 := hid (hR.out.drewN nq)
        clear c1 c2 hR
        generalize wr.drewN nq = w2 at HR5 ⊢
        go_wp2
        go_roundg (j - (q + 1))
        case measure => omega
        case rel => exact ⟨q + 1, j, by go_num, rfl, by omega, by omega, hjb, by omega, HR5.out, HA2.out, hB.out⟩
      · have hcv := c3_ge (Nat.le_of_not_lt hk)
        have hcd : decide (c3 (key x) (key y) < 0) = false := decide_eq_false hcv
        have HB2 : Hid (∀ k, q ≤ k → k < b → rk key (f a) < rk key (f k)) := fun k h1 h3 => by
          have h4 : rk key (f a) < rk key (f q) := by
            refine rk_le (by rw [← HY.out]; omega) (by rw [← HXE.out, ← HY.out]; exact hk) (fun e => HX.out a q (Nat.le_refl _) ham1 (by omega) (by omega) e)
          rcases Nat.lt_or_ge q k with h5 | h5
          · exact Nat.lt_trans h4 (H2.out q k (by omega) h5 h3)
          · rw [show k = q by omega]; exact h4
        clear hcv hk hB
        go_wp2_with fail
        go_quiet ((go_at_call 114; exact Calls.quiet_of (HC.out _ (hR.out.kept.trans (Kept.drewN _ _ _)) x y hxn hyn)))
        have HR5 := hid (hR.out.drewN nq)
        clear c1 c2 hR
        generalize wr.drewN nq = w2 at HR5 ⊢
        go_wp2
        go_roundg (q - i)
        case measure => omega
        case rel => exact ⟨i, q, rfl, by first | rfl | go_num, by omega, by omega, by omega, by omega, HR5.out, hA.out, HB2.out⟩
    · obtain rfl : i = j := by omega
      obtain ⟨p, hp⟩ : ∃ p, i = p + 1 := ⟨i - 1, by omega⟩
      have ep : (i : Int) - 1 = (p : Int) := by omega
      have hap : a ≤ p := by omega
      have hpb : p < b := by omega
      have HEND : Hid (Srt key (mvR f a p) a b ∧ Same f (mvR f a p) a b) := by
        have hm := HM.out
        refine ⟨srt_mvR (by rw [← hm]; exact H2.out) hap hpb (fun k h1 h3 => hA.out k (by omega) (by omega)) (fun k h1 h3 => hB.out k (by omega) h3), (same_mvR f a p hap).wide (Nat.le_refl _) (by omega)⟩
      clear hA hB hp
      go_wp2
      go_loopw [13] (fun vk wr => ∃ k : Nat, vk = .int .i64 k ∧ a ≤ k ∧ k ≤ p ∧ Hid (RowAt Q w0 g n (mvR f a k) wr)) (fun vk _ => p - (intOf vk).toNat)
      case atStart => exact ⟨a, rfl, by omega, by omega, by rw [mvR_zero]; exact hR.out⟩
      case round =>
        clear hR
        obtain ⟨k, rfl, hak, hkp, hR⟩ := hrel
        by_cases hlt2 : k < p
        · obtain ⟨q, hq⟩ : ∃ q, q = k + 1 := ⟨_, rfl⟩
          have e2 : (k : Int) + 1 = (q : Int) := by omega
          have hkn : k < n := by omega
          have hqn : q < n := by omega
          have hkq : k ≠ q := by omega
          have c1 := hR.out.cell hkn
          have c2 := hR.out.cell hqn
          have f1 := hR.out.frozen k
          have f2 := hR.out.frozen q
          have c3' : (wr.setCell ⟨g, k, none⟩ (.int .i64 (Q.val (mvR f a k q) : Int))).cell? ⟨g, q, none⟩ = some (.int .i64 (Q.val (mvR f a k q) : Int)) := by
            exact hR.out.cell_set hkq hqn _
          have HS := hid (hR.out.swap k q hkq hkn hqn)
          have hsw : swp2 (mvR f a k) k q = mvR f a q := by rw [hq]; exact mvR_succ f a k hak
          rw [hsw] at HS
          have hx1 : decide ((0 : Int) ≤ (k : Int) ∧ (k : Int) < (n : Int)) = true := decide_eq_true ⟨by omega, by omega⟩
          have hx2 : decide ((0 : Int) ≤ (q : Int) ∧ (q : Int) < (n : Int)) = true := decide_eq_true ⟨by omega, by omega⟩
          have hw1 : IntKind.i64.wrap (k : Int) = (k : Int) := by rw [IntKind.wrap_i64]; omega
          have hw2 : IntKind.i64.wrap (q : Int) = (q : Int) := by rw [IntKind.wrap_i64]; omega
          have haq : a ≤ q := by omega
          have hqp : q ≤ p := by omega
          have hkq2 : k < q := by omega
          clear hq hsw hR
          generalize Q.val (mvR f a k k) = x at c1 c3' HS
          generalize Q.val (mvR f a k q) = z at c2 c3' HS
          go_wp2_with fail
          go_big_region_o
          clear c1 c2 c3' f1 f2 hx1 hx2
          generalize ((wr.setCell ⟨g, k, none⟩ (.int .i64 (z : Int))).setCell ⟨g, q, none⟩ (.int .i64 (x : Int))).drew = w3 at HS ⊢
          go_wp2
          go_roundw
          case rel => exact ⟨q, by first | rfl | go_num, haq, hqp, HS.out⟩
          case measure => simp [intOf]; omega
        · obtain rfl : k = p := by omega
          go_wp2
          exact bodyPost_ret (v := .tuple #[]) (by simp [results, Tryz.results129, go_sem]) rfl ⟨rfl, _, hR.out, HEND.out.1, HEND.out.2⟩

set_option maxRecDepth 20000 in
set_option maxHeartbeats 4000000 in
/-- The right block is one number. -/
theorem sym_right {Q : Rw} {w0 W : World} {g n bx : Nat} {f key : Nat → Nat} (h : RowAt Q w0 g n f W) (hc : CmpAt Q w0 g n bx key) (a m b : Nat) (ham : a + 1 < m) (hmb : b = m + 1) (hb : b ≤ n) (hn : n ≤ 1000000) (hsm : Small f n) (h1 : Srt key f a m) (hx : Cross key f a m b) :
    Calls Tryz.prog 129 #[.slice (some ⟨g, 0, none⟩) n Q.cap, .int .i64 (a : Int), .int .i64 (m : Int), .int .i64 (b : Int), cmpV bx] W fun e w' => e = .returned (.tuple #[]) ∧ ∃ f', RowAt Q w0 g n f' w' ∧ Srt key f' a b ∧ Same f f' a b := by
  have mixed : Tryz.prog.follows .mixedOrders = true := by kernel_rfl
  have HC := hid hc
  have HM := hid hmb
  have H0 := hid h
  have hmn : m < n := by omega
  obtain ⟨d, hd⟩ : ∃ d, d = m - a := ⟨_, rfl⟩
  have ema : (m : Int) - (a : Int) = (d : Int) := by omega
  have hd1 : ¬ (d = 1) := by omega
  have hd2 : ¬ ((d : Int) = 1) := by omega
  have ebm : (b : Int) - (m : Int) = 1 := by omega
  obtain ⟨y, hy⟩ : ∃ y, y = f m := ⟨_, rfl⟩
  have hyn : y < n := by rw [hy]; exact hsm m hmn
  have HY := hid hy
  have HSM := hid hsm
  have H1 := hid h1
  have HX := hid hx
  have hxa : decide ((0 : Int) ≤ (m : Int) ∧ (m : Int) < (n : Int)) = true := decide_eq_true ⟨by omega, by omega⟩
  clear hc hmb h hy hsm h1 hx hd
  unfold cmpV
  go_enter Tryz.func129, Tryz.ntmps129
  go_wp2
  go_loopg [14, 15] n (fun g1 vi vj wr => ∃ i j : Nat, vi = .int .i64 i ∧ vj = .int .i64 j ∧ a ≤ i ∧ i ≤ j ∧ j ≤ m ∧ j - i ≤ g1 ∧ Hid (RowAt Q w0 g n f wr) ∧ Hid (∀ k, a ≤ k → k < i → rk key (f k) < rk key (f m)) ∧ Hid (∀ k, j ≤ k → k < m → rk key (f m) < rk key (f k)))
  case atStart => exact ⟨a, m, rfl, rfl, by omega, by omega, by omega, by omega, H0.out, (fun k h1 h2 => by omega), (fun k h1 h2 => by omega)⟩
  case round =>
    obtain ⟨i, j, rfl, rfl, hmi, hij, hjb, hg, hR, hA, hB⟩ := hrel
    by_cases hlt : i < j
    · obtain ⟨q, hq⟩ : ∃ q, q = (i + j) / 2 := ⟨_, rfl⟩
      have eq1 : ((i : Int) + (j : Int)) / 2 = (q : Int) := by omega
      have hqi : i ≤ q := by omega
      have hqj : q < j := by omega
      have hqn : q < n := by omega
      clear hq
      obtain ⟨x, hx⟩ : ∃ x, x = f q := ⟨_, rfl⟩
      have hxn : x < n := by rw [hx]; exact HSM.out q hqn
      have c1 := hR.out.cell hqn
      have c2 := hR.out.cell hmn
      rw [← hx] at c1
      rw [← HY.out] at c2
      have hxq : decide ((0 : Int) ≤ (q : Int) ∧ (q : Int) < (n : Int)) = true := decide_eq_true ⟨by omega, by omega⟩
      have HXE := hid hx
      clear hx
      by_cases hk : key y < key x
      · have hcv := c3_lt hk
        have hcd : decide (c3 (key y) (key x) < 0) = true := decide_eq_true (by rw [hcv]; decide)
        have HB2 : Hid (∀ k, q ≤ k → k < m → rk key (f m) < rk key (f k)) := fun k h1 h3 => by
          have h4 : rk key (f m) < rk key (f q) := by rw [← HXE.out, ← HY.out]; exact rk_lt (by omega) hk
          rcases Nat.lt_or_ge q k with h5 | h5
          · exact Nat.lt_trans h4 (H1.out q k (by omega) h5 h3)
          · rw [show k = q by omega]; exact h4
        clear hcv hk hB
        go_wp2_with fail
        go_quiet ((go_at_call 114; exact Calls.quiet_of (HC.out _ (hR.out.kept.trans (Kept.drewN _ _ _)) y x hyn hxn)))
        have HR5 := hid (hR.out.drewN nq)
        clear c1 c2 hR
        generalize wr.drewN nq = w2 at HR5 ⊢
        go_wp2
        go_roundg (q - i)
        case measure => omega
        case rel => exact ⟨i, q, rfl, by first | rfl | go_num, by omega, by omega, by omega, by omega, HR5.out, hA.out, HB2.out⟩
      · have hcv := c3_ge (Nat.le_of_not_lt hk)
        have hcd : decide (c3 (key y) (key x) < 0) = false := decide_eq_false hcv
        have HA2 : Hid (∀ k, a ≤ k → k < q + 1 → rk key (f k) < rk key (f m)) := fun k h1 h3 => by
          have h4 : rk key (f q) < rk key (f m) := by
            refine rk_le (by rw [← HXE.out]; omega) (by rw [← HXE.out, ← HY.out]; exact hk) (fun e => HX.out q m (by omega) (by omega) (Nat.le_refl _) (by have := HM.out; omega) e)
          rcases Nat.lt_or_ge k q with h5 | h5
          · exact Nat.lt_trans (H1.out k q h1 h5 (by omega)) h4
          · rw [show k = q by omega]; exact h4
        clear hcv hk hA
        go_wp2_with fail
        go_quiet ((go_at_call 114; exact Calls.quiet_of (HC.out _ (hR.out.kept.trans (Kept.drewN _ _ _)) y x hyn hxn)))
        have HR5 := hid (hR.out.drewN nq)
        clear c1 c2 hR
        generalize wr.drewN nq = w2 at HR5 ⊢
        go_wp2
        go_roundg (j - (q + 1))
        case measure => omega
        case rel => exact ⟨q + 1, j, by go_num, rfl, by omega, by omega, hjb, by omega, HR5.out, HA2.out, hB.out⟩
    · obtain rfl : i = j := by omega
      have HEND : Hid (Srt key (mvL f i m) a b ∧ Same f (mvL f i m) a b) := by
        have hm := HM.out
        refine ⟨by rw [hm]; exact srt_mvL H1.out hmi hjb (fun k h1 h3 => hA.out k h1 h3) (fun k h1 h3 => hB.out k h1 h3), (same_mvL f i m hjb).wide hmi (by omega)⟩
      clear hA hB
      go_wp2
      go_loopw [17] (fun vk wr => ∃ k : Nat, vk = .int .i64 k ∧ i ≤ k ∧ k ≤ m ∧ Hid (RowAt Q w0 g n (mvL f k m) wr)) (fun vk _ => (intOf vk).toNat - i)
      case atStart => exact ⟨m, rfl, by omega, by omega, by rw [mvL_zero]; exact hR.out⟩
      case round =>
        clear hR
        obtain ⟨k, rfl, hak, hkp, hR⟩ := hrel
        by_cases hlt2 : i < k
        · obtain ⟨q, hq⟩ : ∃ q, k = q + 1 := ⟨k - 1, by omega⟩
          have e2 : (k : Int) - 1 = (q : Int) := by omega
          have hkn : k < n := by omega
          have hqn : q < n := by omega
          have hkq : k ≠ q := by omega
          have c1 := hR.out.cell hkn
          have c2 := hR.out.cell hqn
          have f1 := hR.out.frozen k
          have f2 := hR.out.frozen q
          have c3' : (wr.setCell ⟨g, k, none⟩ (.int .i64 (Q.val (mvL f k m q) : Int))).cell? ⟨g, q, none⟩ = some (.int .i64 (Q.val (mvL f k m q) : Int)) := by
            exact hR.out.cell_set hkq hqn _
          have HS := hid (hR.out.swap k q hkq hkn hqn)
          have hsw : swp2 (mvL f k m) k q = mvL f q m := by rw [hq]; exact mvL_succ f q m (by omega)
          rw [hsw] at HS
          have hx1 : decide ((0 : Int) ≤ (k : Int) ∧ (k : Int) < (n : Int)) = true := decide_eq_true ⟨by omega, by omega⟩
          have hx2 : decide ((0 : Int) ≤ (q : Int) ∧ (q : Int) < (n : Int)) = true := decide_eq_true ⟨by omega, by omega⟩
          have hw1 : IntKind.i64.wrap (k : Int) = (k : Int) := by rw [IntKind.wrap_i64]; omega
          have hw2 : IntKind.i64.wrap (q : Int) = (q : Int) := by rw [IntKind.wrap_i64]; omega
          have haq : i ≤ q := by omega
          have hqp : q ≤ m := by omega
          have hkq2 : q < k := by omega
          clear hq hsw hR
          generalize Q.val (mvL f k m k) = x at c1 c3' HS
          generalize Q.val (mvL f k m q) = z at c2 c3' HS
          go_wp2_with fail
          go_big_region_o
          clear c1 c2 c3' f1 f2 hx1 hx2
          generalize ((wr.setCell ⟨g, k, none⟩ (.int .i64 (z : Int))).setCell ⟨g, q, none⟩ (.int .i64 (x : Int))).drew = w3 at HS ⊢
          go_wp2
          go_roundw
          case rel => exact ⟨q, by first | rfl | go_num, haq, hqp, HS.out⟩
          case measure => simp [intOf]; omega
        · obtain rfl : k = i := by omega
          go_wp2
          exact bodyPost_ret (v := .tuple #[]) (by simp [results, Tryz.results129, go_sem]) rfl ⟨rfl, _, hR.out, HEND.out.1, HEND.out.2⟩
end Go.Proofs.YtdplflcaanmmiaaGreat.Ids

namespace Go.Proofs.YtdplflcaanmmiaaGreat.Ids
open Go.ChangeShapes Go.WideShapes Go.ChangeAt Go.RowKit

/-- What symMergeCmpFunc does, at blocks of at most s numbers. -/
def SymAt (Q : Rw) (w0 : World) (g n bx : Nat) (key : Nat → Nat) (s : Nat) : Prop :=
  ∀ (W : World) (f : Nat → Nat) (a m b : Nat), b - a ≤ s → RowAt Q w0 g n f W → a < m → m < b → b ≤ n → Small f n → Srt key f a m → Srt key f m b → Cross key f a m b →
    Calls Tryz.prog 129 #[.slice (some ⟨g, 0, none⟩) n Q.cap, .int .i64 (a : Int), .int .i64 (m : Int), .int .i64 (b : Int), cmpV bx] W fun e w' => e = .returned (.tuple #[]) ∧ ∃ f', RowAt Q w0 g n f' w' ∧ Srt key f' a b ∧ Same f f' a b

set_option maxRecDepth 20000 in
set_option maxHeartbeats 16000000 in
theorem sym_up {Q : Rw} {w0 W : World} {g n bx : Nat} {f key : Nat → Nat} (h : RowAt Q w0 g n f W) (hc : CmpAt Q w0 g n bx key) (a m b s mid : Nat) (hmid : mid = (a + b) / 2) (hmm : m > mid) (ham : a + 1 < m) (hmb : m + 1 < b) (hb : b ≤ n) (hn : n ≤ 1000000) (hbs : b - a ≤ s + 1) (ih : SymAt Q w0 g n bx key s) (hsm : Small f n) (h1 : Srt key f a m) (h2 : Srt key f m b) (hx : Cross key f a m b) :
    Calls Tryz.prog 129 #[.slice (some ⟨g, 0, none⟩) n Q.cap, .int .i64 (a : Int), .int .i64 (m : Int), .int .i64 (b : Int), cmpV bx] W fun e w' => e = .returned (.tuple #[]) ∧ ∃ f', RowAt Q w0 g n f' w' ∧ Srt key f' a b ∧ Same f f' a b := by
  have mixed : Tryz.prog.follows .mixedOrders = true := by kernel_rfl
  have HC := hid hc
  have H0 := hid h
  have IH := hid ih
  have HSM := hid hsm
  have H1 := hid h1
  have H2 := hid h2
  have HX := hid hx
  have HMID := hid hmid
  obtain ⟨d, hd⟩ : ∃ d, d = m - a := ⟨_, rfl⟩
  have ema : (m : Int) - (a : Int) = (d : Int) := by omega
  have hd1 : ¬ (d = 1) := by omega
  have hd2 : ¬ ((d : Int) = 1) := by omega
  obtain ⟨d', hd'⟩ : ∃ d, d = b - m := ⟨_, rfl⟩
  have ebm : (b : Int) - (m : Int) = (d' : Int) := by omega
  have hd3 : ¬ (d' = 1) := by omega
  have hd4 : ¬ ((d' : Int) = 1) := by omega
  have emid : ((a : Int) + (b : Int)) / 2 = (mid : Int) := by omega
  obtain ⟨nn, hnn⟩ : ∃ q, q = mid + m := ⟨_, rfl⟩
  have enn : (mid : Int) + (m : Int) = (nn : Int) := by omega
  obtain ⟨pp, hpp⟩ : ∃ q, q = mid + m - 1 := ⟨_, rfl⟩
  have epp : (nn : Int) - 1 = (pp : Int) := by omega
  have hma : a < mid := by omega
  have hmb2 : mid < b := by omega
  have HNN := hid hnn
  have HPP := hid hpp
  have hnnb : nn ≤ 2000000 := by omega
  have hppb : pp ≤ 2000000 := by omega
  obtain ⟨lo, hlo1⟩ : ∃ q, q = mid + m - b := ⟨_, rfl⟩
  have elo : (nn : Int) - (b : Int) = (lo : Int) := by omega
  have hlo : (m > mid ∧ lo = mid + m - b ∧ mid = mid) ∨ (m ≤ mid ∧ lo = a ∧ mid = m) := .inl ⟨hmm, hlo1, rfl⟩
  clear hlo1
  have HLO : Hid (LoOf a m b mid lo mid) := hlo
  have HRNG : Hid (∀ q, lo ≤ q → q < mid → a ≤ q ∧ q < m ∧ m ≤ pp - q ∧ pp - q < b ∧ q ≤ pp) := fun q p1 p2 => by rcases hlo with ⟨e1, e2, e3⟩ | ⟨e1, e2, e3⟩ <;> refine ⟨by omega, by omega, by omega, by omega, by omega⟩
  have hlr : lo ≤ mid := by rcases hlo with ⟨e1, e2, e3⟩ | ⟨e1, e2, e3⟩ <;> omega
  have hr0 : mid ≤ n := by rcases hlo with ⟨e1, e2, e3⟩ | ⟨e1, e2, e3⟩ <;> omega
  clear hc h ih hsm h1 h2 hx hd hd' hnn hpp hmid hlo
  unfold cmpV
  go_enter Tryz.func129, Tryz.ntmps129
  go_wp2
  go_loopg [20, 21] n (fun g1 vi vj wr => ∃ i j : Nat, vi = .int .i64 i ∧ vj = .int .i64 j ∧ lo ≤ i ∧ i ≤ j ∧ j ≤ mid ∧ j - i ≤ g1 ∧ Hid (RowAt Q w0 g n f wr) ∧ Hid (lo < i → rk key (f (i - 1)) < rk key (f (mid + m - i))) ∧ Hid (j < mid → rk key (f (mid + m - 1 - j)) < rk key (f j)))
  case atStart => exact ⟨lo, mid, rfl, rfl, by omega, by omega, by omega, by omega, H0.out, (fun h => by omega), (fun h => by omega)⟩
  case round =>
    obtain ⟨i, j, rfl, rfl, hmi, hij, hjb, hg, hR, hA, hB⟩ := hrel
    by_cases hlt : i < j
    · obtain ⟨q, hq⟩ : ∃ q, q = (i + j) / 2 := ⟨_, rfl⟩
      have eq1 : ((i : Int) + (j : Int)) / 2 = (q : Int) := by omega
      have hqi : i ≤ q := by omega
      have hqj : q < j := by omega
      obtain ⟨g1, g2, g3, g4, g5⟩ := HRNG.out q (by omega) (by omega)
      have hqn : q < n := by omega
      obtain ⟨t, ht⟩ : ∃ t, t = pp - q := ⟨_, rfl⟩
      have et : (pp : Int) - (q : Int) = (t : Int) := by omega
      have htn : t < n := by omega
      have htm : m ≤ t := by omega
      have htb : t < b := by omega
      have HT : Hid (t = mid + m - 1 - q) := by have := HPP.out; show _ = _; omega
      have HQM : Hid (a ≤ q ∧ q < m) := ⟨g1, g2⟩
      clear hq ht g1 g2 g3 g4 g5
      obtain ⟨x, hx⟩ : ∃ x, x = f q := ⟨_, rfl⟩
      have hxn : x < n := by rw [hx]; exact HSM.out q hqn
      obtain ⟨y, hy⟩ : ∃ x, x = f t := ⟨_, rfl⟩
      have hyn : y < n := by rw [hy]; exact HSM.out t htn
      have c1 := hR.out.cell hqn
      have c2 := hR.out.cell htn
      rw [← hx] at c1
      rw [← hy] at c2
      have hxq : decide ((0 : Int) ≤ (q : Int) ∧ (q : Int) < (n : Int)) = true := decide_eq_true ⟨by omega, by omega⟩
      have hxt : decide ((0 : Int) ≤ (t : Int) ∧ (t : Int) < (n : Int)) = true := decide_eq_true ⟨by omega, by omega⟩
      have hwq : IntKind.i64.wrap (q : Int) = (q : Int) := by rw [IntKind.wrap_i64]; omega
      have hwt : IntKind.i64.wrap (t : Int) = (t : Int) := by rw [IntKind.wrap_i64]; omega
      have HXE := hid hx
      have HYE := hid hy
      clear hx hy
      by_cases hk : key y < key x
      · have hcv := c3_lt hk
        have hcd : decide (c3 (key y) (key x) < 0) = true := decide_eq_true (by rw [hcv]; decide)
        have HB2 : Hid (q < mid → rk key (f (mid + m - 1 - q)) < rk key (f q)) := fun _ => by
          rw [← HT.out, ← HXE.out, ← HYE.out]; exact rk_lt (by omega) hk
        clear hcv hk hB
        go_wp2_with fail
        go_quiet ((go_at_call 114; exact Calls.quiet_of (HC.out _ (hR.out.kept.trans (Kept.drewN _ _ _)) y x hyn hxn)))
        have HR5 := hid (hR.out.drewN nq)
        clear c1 c2 hR
        generalize wr.drewN nq = w2 at HR5 ⊢
        go_wp2
        go_roundg (q - i)
        case measure => omega
        case rel => exact ⟨i, q, rfl, by first | rfl | go_num, by omega, by omega, by omega, by omega, HR5.out, hA.out, HB2.out⟩
      · have hcv := c3_ge (Nat.le_of_not_lt hk)
        have hcd : decide (c3 (key y) (key x) < 0) = false := decide_eq_false hcv
        have HA2 : Hid (lo < q + 1 → rk key (f (q + 1 - 1)) < rk key (f (mid + m - (q + 1)))) := fun _ => by
          have ht := HT.out
          rw [show q + 1 - 1 = q by omega, show mid + m - (q + 1) = t by omega]
          exact rk_le (by rw [← HXE.out]; omega) (by rw [← HXE.out, ← HYE.out]; exact hk) (fun e => HX.out q t HQM.out.1 HQM.out.2 htm htb e)
        clear hcv hk hA
        go_wp2_with fail
        go_quiet ((go_at_call 114; exact Calls.quiet_of (HC.out _ (hR.out.kept.trans (Kept.drewN _ _ _)) y x hyn hxn)))
        have HR5 := hid (hR.out.drewN nq)
        clear c1 c2 hR
        generalize wr.drewN nq = w2 at HR5 ⊢
        go_wp2
        go_roundg (j - (q + 1))
        case measure => omega
        case rel => exact ⟨q + 1, j, by go_num, rfl, by omega, by omega, hjb, by omega, HR5.out, HA2.out, hB.out⟩
    · obtain rfl : i = j := by omega
      have hcut := cut_found HMID.out (by omega) (by omega) HLO.out H1.out H2.out hmi hjb hA.out hB.out
      obtain ⟨fin, hfin⟩ : ∃ q, q = mid + m - i := ⟨_, rfl⟩
      rw [← hfin] at hcut
      have k1 := hcut.len
      have k2 := hcut.lo
      have k3 := hcut.sm
      have k4 := hcut.me
      have k5 := hcut.hi
      have k6 := hcut.smid
      have TT := hid (hcut.turned H1.out H2.out HX.out HSM.out hb)
      have efin : (nn : Int) - (i : Int) = (fin : Int) := by have := HNN.out; omega
      clear hA hB hfin hcut H1 H2 HX HSM HLO HRNG H0 HMID hlt emid enn epp hmi hjb hg
      by_cases A1 : i < m <;> by_cases A2 : m < fin <;> by_cases B1 : a < i <;> by_cases C2 : fin < b <;>
        (first | have B2 : i < mid := by omega | have B2 : ¬ (i < mid) := by omega) <;>
        (first | have C1 : mid < fin := by omega | have C1 : ¬ (mid < fin) := by omega) <;>
        (first | have hA : i < m ∧ m < fin := ⟨A1, A2⟩ | have hnA : ¬ (i < m ∧ m < fin) := by omega) <;>
        (first | have hB : a < i ∧ i < mid := ⟨B1, B2⟩ | have hnB : ¬ (a < i ∧ i < mid) := by omega) <;>
        (first | have hC : mid < fin ∧ fin < b := ⟨C1, C2⟩ | have hnC : ¬ (mid < fin ∧ fin < b) := by omega) <;>
        (first | have HR1 : Hid (RowAt Q w0 g n (rot f i m fin) wr) := (by show RowAt _ _ _ _ _ _; rw [rot_none hnA k3 k4]; exact hR.out) | skip) <;>
        (first | have TN1 := hid (TT.out.n1 hnB k2 k6) | skip) <;>
        (first | have TN2 := hid (TT.out.n2 hnC (by omega) k5) | skip) <;>
        clear k1 k6
      all_goals go_wp2_with (first
        | (go_at_call 136; refine (rotate_any hR.out i m fin A1 A2 (by omega) hn _).mono ?_; rintro e w5 ⟨rfl, hr⟩; have HR1 := hid hr; clear hr)
        | (have _h := HR2; go_at_call 129; refine (IH.out _ f2 mid fin b (by omega) HR2.out C1 C2 hb (TT.out.small.same S1.out (by omega)) (TT.out.s3.congr (fun k q1 _ => S1.out.out k (.inr q1))) (TT.out.s4.congr (fun k q1 _ => S1.out.out k (.inr (by omega)))) (TT.out.x2.congr (fun k q1 _ => S1.out.out k (.inr q1)))).mono ?_; rintro e w7 ⟨rfl, f3, hr3, ht3, hs3⟩; have HR3 := hid hr3; have T3 := hid ht3; have S3 := hid hs3; clear hr3 ht3 hs3)
        | (have _h := hnB; go_at_call 129; refine (IH.out _ (rot f i m fin) mid fin b (by omega) HR1.out C1 C2 hb TT.out.small TT.out.s3 TT.out.s4 TT.out.x2).mono ?_; rintro e w7 ⟨rfl, f3, hr3, ht3, hs3⟩; have HR3 := hid hr3; have T3 := hid ht3; have S3 := hid hs3; clear hr3 ht3 hs3)
        | (go_at_call 129; refine (IH.out _ (rot f i m fin) a i mid (by omega) HR1.out B1 B2 (by omega) TT.out.small TT.out.s1 TT.out.s2 TT.out.x1).mono ?_; rintro e w6 ⟨rfl, f2, hr2, ht2, hs2⟩; have HR2 := hid hr2; have T1 := hid ht2; have S1 := hid hs2; clear hr2 ht2 hs2))
      all_goals first
        | (have J := srt_join (by omega) (by omega) TT.out.apart S1.out T1.out S3.out T3.out; exact bodyPost_end (v := .tuple #[]) (by simp [results, Tryz.results129, go_sem]) rfl ⟨rfl, _, HR3.out, J.1, TT.out.same.trans J.2⟩)
        | (have J := srt_join (by omega) (by omega) TT.out.apart S1.out T1.out (Same.refl _ _ _) (TN2.out.congr (fun k q1 _ => S1.out.out k (.inr q1))); exact bodyPost_end (v := .tuple #[]) (by simp [results, Tryz.results129, go_sem]) rfl ⟨rfl, _, HR2.out, J.1, TT.out.same.trans J.2⟩)
        | (have J := srt_join (by omega) (by omega) TT.out.apart (Same.refl _ _ _) TN1.out S3.out T3.out; exact bodyPost_end (v := .tuple #[]) (by simp [results, Tryz.results129, go_sem]) rfl ⟨rfl, _, HR3.out, J.1, TT.out.same.trans J.2⟩)
        | (have J := srt_join (by omega) (by omega) TT.out.apart (Same.refl _ _ _) TN1.out (Same.refl _ _ _) TN2.out; exact bodyPost_end (v := .tuple #[]) (by simp [results, Tryz.results129, go_sem]) rfl ⟨rfl, _, HR1.out, J.1, TT.out.same.trans J.2⟩)

set_option maxRecDepth 20000 in
set_option maxHeartbeats 16000000 in
theorem sym_down {Q : Rw} {w0 W : World} {g n bx : Nat} {f key : Nat → Nat} (h : RowAt Q w0 g n f W) (hc : CmpAt Q w0 g n bx key) (a m b s mid : Nat) (hmid : mid = (a + b) / 2) (hmm : m ≤ mid) (ham : a + 1 < m) (hmb : m + 1 < b) (hb : b ≤ n) (hn : n ≤ 1000000) (hbs : b - a ≤ s + 1) (ih : SymAt Q w0 g n bx key s) (hsm : Small f n) (h1 : Srt key f a m) (h2 : Srt key f m b) (hx : Cross key f a m b) :
    Calls Tryz.prog 129 #[.slice (some ⟨g, 0, none⟩) n Q.cap, .int .i64 (a : Int), .int .i64 (m : Int), .int .i64 (b : Int), cmpV bx] W fun e w' => e = .returned (.tuple #[]) ∧ ∃ f', RowAt Q w0 g n f' w' ∧ Srt key f' a b ∧ Same f f' a b := by
  have mixed : Tryz.prog.follows .mixedOrders = true := by kernel_rfl
  have HC := hid hc
  have H0 := hid h
  have IH := hid ih
  have HSM := hid hsm
  have H1 := hid h1
  have H2 := hid h2
  have HX := hid hx
  have HMID := hid hmid
  obtain ⟨d, hd⟩ : ∃ d, d = m - a := ⟨_, rfl⟩
  have ema : (m : Int) - (a : Int) = (d : Int) := by omega
  have hd1 : ¬ (d = 1) := by omega
  have hd2 : ¬ ((d : Int) = 1) := by omega
  obtain ⟨d', hd'⟩ : ∃ d, d = b - m := ⟨_, rfl⟩
  have ebm : (b : Int) - (m : Int) = (d' : Int) := by omega
  have hd3 : ¬ (d' = 1) := by omega
  have hd4 : ¬ ((d' : Int) = 1) := by omega
  have emid : ((a : Int) + (b : Int)) / 2 = (mid : Int) := by omega
  obtain ⟨nn, hnn⟩ : ∃ q, q = mid + m := ⟨_, rfl⟩
  have enn : (mid : Int) + (m : Int) = (nn : Int) := by omega
  obtain ⟨pp, hpp⟩ : ∃ q, q = mid + m - 1 := ⟨_, rfl⟩
  have epp : (nn : Int) - 1 = (pp : Int) := by omega
  have hma : a < mid := by omega
  have hmb2 : mid < b := by omega
  have HNN := hid hnn
  have HPP := hid hpp
  have hnnb : nn ≤ 2000000 := by omega
  have hppb : pp ≤ 2000000 := by omega
  have hlo : (m > mid ∧ a = mid + m - b ∧ m = mid) ∨ (m ≤ mid ∧ a = a ∧ m = m) := .inr ⟨hmm, rfl, rfl⟩
  have HLO : Hid (LoOf a m b mid a m) := hlo
  have HRNG : Hid (∀ q, a ≤ q → q < m → a ≤ q ∧ q < m ∧ m ≤ pp - q ∧ pp - q < b ∧ q ≤ pp) := fun q p1 p2 => by rcases hlo with ⟨e1, e2, e3⟩ | ⟨e1, e2, e3⟩ <;> refine ⟨by omega, by omega, by omega, by omega, by omega⟩
  have hlr : a ≤ m := by rcases hlo with ⟨e1, e2, e3⟩ | ⟨e1, e2, e3⟩ <;> omega
  have hr0 : m ≤ n := by rcases hlo with ⟨e1, e2, e3⟩ | ⟨e1, e2, e3⟩ <;> omega
  clear hc h ih hsm h1 h2 hx hd hd' hnn hpp hmid hlo
  unfold cmpV
  go_enter Tryz.func129, Tryz.ntmps129
  go_wp2
  go_loopg [20, 21] n (fun g1 vi vj wr => ∃ i j : Nat, vi = .int .i64 i ∧ vj = .int .i64 j ∧ a ≤ i ∧ i ≤ j ∧ j ≤ m ∧ j - i ≤ g1 ∧ Hid (RowAt Q w0 g n f wr) ∧ Hid (a < i → rk key (f (i - 1)) < rk key (f (mid + m - i))) ∧ Hid (j < m → rk key (f (mid + m - 1 - j)) < rk key (f j)))
  case atStart => exact ⟨a, m, rfl, rfl, by omega, by omega, by omega, by omega, H0.out, (fun h => by omega), (fun h => by omega)⟩
  case round =>
    obtain ⟨i, j, rfl, rfl, hmi, hij, hjb, hg, hR, hA, hB⟩ := hrel
    by_cases hlt : i < j
    · obtain ⟨q, hq⟩ : ∃ q, q = (i + j) / 2 := ⟨_, rfl⟩
      have eq1 : ((i : Int) + (j : Int)) / 2 = (q : Int) := by omega
      have hqi : i ≤ q := by omega
      have hqj : q < j := by omega
      obtain ⟨g1, g2, g3, g4, g5⟩ := HRNG.out q (by omega) (by omega)
      have hqn : q < n := by omega
      obtain ⟨t, ht⟩ : ∃ t, t = pp - q := ⟨_, rfl⟩
      have et : (pp : Int) - (q : Int) = (t : Int) := by omega
      have htn : t < n := by omega
      have htm : m ≤ t := by omega
      have htb : t < b := by omega
      have HT : Hid (t = mid + m - 1 - q) := by have := HPP.out; show _ = _; omega
      have HQM : Hid (a ≤ q ∧ q < m) := ⟨g1, g2⟩
      clear hq ht g1 g2 g3 g4 g5
      obtain ⟨x, hx⟩ : ∃ x, x = f q := ⟨_, rfl⟩
      have hxn : x < n := by rw [hx]; exact HSM.out q hqn
      obtain ⟨y, hy⟩ : ∃ x, x = f t := ⟨_, rfl⟩
      have hyn : y < n := by rw [hy]; exact HSM.out t htn
      have c1 := hR.out.cell hqn
      have c2 := hR.out.cell htn
      rw [← hx] at c1
      rw [← hy] at c2
      have hxq : decide ((0 : Int) ≤ (q : Int) ∧ (q : Int) < (n : Int)) = true := decide_eq_true ⟨by omega, by omega⟩
      have hxt : decide ((0 : Int) ≤ (t : Int) ∧ (t : Int) < (n : Int)) = true := decide_eq_true ⟨by omega, by omega⟩
      have hwq : IntKind.i64.wrap (q : Int) = (q : Int) := by rw [IntKind.wrap_i64]; omega
      have hwt : IntKind.i64.wrap (t : Int) = (t : Int) := by rw [IntKind.wrap_i64]; omega
      have HXE := hid hx
      have HYE := hid hy
      clear hx hy
      by_cases hk : key y < key x
      · have hcv := c3_lt hk
        have hcd : decide (c3 (key y) (key x) < 0) = true := decide_eq_true (by rw [hcv]; decide)
        have HB2 : Hid (q < m → rk key (f (mid + m - 1 - q)) < rk key (f q)) := fun _ => by
          rw [← HT.out, ← HXE.out, ← HYE.out]; exact rk_lt (by omega) hk
        clear hcv hk hB
        go_wp2_with fail
        go_quiet ((go_at_call 114; exact Calls.quiet_of (HC.out _ (hR.out.kept.trans (Kept.drewN _ _ _)) y x hyn hxn)))
        have HR5 := hid (hR.out.drewN nq)
        clear c1 c2 hR
        generalize wr.drewN nq = w2 at HR5 ⊢
        go_wp2
        go_roundg (q - i)
        case measure => omega
        case rel => exact ⟨i, q, rfl, by first | rfl | go_num, by omega, by omega, by omega, by omega, HR5.out, hA.out, HB2.out⟩
      · have hcv := c3_ge (Nat.le_of_not_lt hk)
        have hcd : decide (c3 (key y) (key x) < 0) = false := decide_eq_false hcv
        have HA2 : Hid (a < q + 1 → rk key (f (q + 1 - 1)) < rk key (f (mid + m - (q + 1)))) := fun _ => by
          have ht := HT.out
          rw [show q + 1 - 1 = q by omega, show mid + m - (q + 1) = t by omega]
          exact rk_le (by rw [← HXE.out]; omega) (by rw [← HXE.out, ← HYE.out]; exact hk) (fun e => HX.out q t HQM.out.1 HQM.out.2 htm htb e)
        clear hcv hk hA
        go_wp2_with fail
        go_quiet ((go_at_call 114; exact Calls.quiet_of (HC.out _ (hR.out.kept.trans (Kept.drewN _ _ _)) y x hyn hxn)))
        have HR5 := hid (hR.out.drewN nq)
        clear c1 c2 hR
        generalize wr.drewN nq = w2 at HR5 ⊢
        go_wp2
        go_roundg (j - (q + 1))
        case measure => omega
        case rel => exact ⟨q + 1, j, by go_num, rfl, by omega, by omega, hjb, by omega, HR5.out, HA2.out, hB.out⟩
    · obtain rfl : i = j := by omega
      have hcut := cut_found HMID.out (by omega) (by omega) HLO.out H1.out H2.out hmi hjb hA.out hB.out
      obtain ⟨fin, hfin⟩ : ∃ q, q = mid + m - i := ⟨_, rfl⟩
      rw [← hfin] at hcut
      have k1 := hcut.len
      have k2 := hcut.lo
      have k3 := hcut.sm
      have k4 := hcut.me
      have k5 := hcut.hi
      have k6 := hcut.smid
      have TT := hid (hcut.turned H1.out H2.out HX.out HSM.out hb)
      have efin : (nn : Int) - (i : Int) = (fin : Int) := by have := HNN.out; omega
      clear hA hB hfin hcut H1 H2 HX HSM HLO HRNG H0 HMID hlt emid enn epp hmi hjb hg
      by_cases A1 : i < m <;> by_cases A2 : m < fin <;> by_cases B1 : a < i <;> by_cases C2 : fin < b <;>
        (first | have B2 : i < mid := by omega | have B2 : ¬ (i < mid) := by omega) <;>
        (first | have C1 : mid < fin := by omega | have C1 : ¬ (mid < fin) := by omega) <;>
        (first | have hA : i < m ∧ m < fin := ⟨A1, A2⟩ | have hnA : ¬ (i < m ∧ m < fin) := by omega) <;>
        (first | have hB : a < i ∧ i < mid := ⟨B1, B2⟩ | have hnB : ¬ (a < i ∧ i < mid) := by omega) <;>
        (first | have hC : mid < fin ∧ fin < b := ⟨C1, C2⟩ | have hnC : ¬ (mid < fin ∧ fin < b) := by omega) <;>
        (first | have HR1 : Hid (RowAt Q w0 g n (rot f i m fin) wr) := (by show RowAt _ _ _ _ _ _; rw [rot_none hnA k3 k4]; exact hR.out) | skip) <;>
        (first | have TN1 := hid (TT.out.n1 hnB k2 k6) | skip) <;>
        (first | have TN2 := hid (TT.out.n2 hnC (by omega) k5) | skip) <;>
        clear k1 k6
      all_goals go_wp2_with (first
        | (go_at_call 136; refine (rotate_any hR.out i m fin A1 A2 (by omega) hn _).mono ?_; rintro e w5 ⟨rfl, hr⟩; have HR1 := hid hr; clear hr)
        | (have _h := HR2; go_at_call 129; refine (IH.out _ f2 mid fin b (by omega) HR2.out C1 C2 hb (TT.out.small.same S1.out (by omega)) (TT.out.s3.congr (fun k q1 _ => S1.out.out k (.inr q1))) (TT.out.s4.congr (fun k q1 _ => S1.out.out k (.inr (by omega)))) (TT.out.x2.congr (fun k q1 _ => S1.out.out k (.inr q1)))).mono ?_; rintro e w7 ⟨rfl, f3, hr3, ht3, hs3⟩; have HR3 := hid hr3; have T3 := hid ht3; have S3 := hid hs3; clear hr3 ht3 hs3)
        | (have _h := hnB; go_at_call 129; refine (IH.out _ (rot f i m fin) mid fin b (by omega) HR1.out C1 C2 hb TT.out.small TT.out.s3 TT.out.s4 TT.out.x2).mono ?_; rintro e w7 ⟨rfl, f3, hr3, ht3, hs3⟩; have HR3 := hid hr3; have T3 := hid ht3; have S3 := hid hs3; clear hr3 ht3 hs3)
        | (go_at_call 129; refine (IH.out _ (rot f i m fin) a i mid (by omega) HR1.out B1 B2 (by omega) TT.out.small TT.out.s1 TT.out.s2 TT.out.x1).mono ?_; rintro e w6 ⟨rfl, f2, hr2, ht2, hs2⟩; have HR2 := hid hr2; have T1 := hid ht2; have S1 := hid hs2; clear hr2 ht2 hs2))
      all_goals first
        | (have J := srt_join (by omega) (by omega) TT.out.apart S1.out T1.out S3.out T3.out; exact bodyPost_end (v := .tuple #[]) (by simp [results, Tryz.results129, go_sem]) rfl ⟨rfl, _, HR3.out, J.1, TT.out.same.trans J.2⟩)
        | (have J := srt_join (by omega) (by omega) TT.out.apart S1.out T1.out (Same.refl _ _ _) (TN2.out.congr (fun k q1 _ => S1.out.out k (.inr q1))); exact bodyPost_end (v := .tuple #[]) (by simp [results, Tryz.results129, go_sem]) rfl ⟨rfl, _, HR2.out, J.1, TT.out.same.trans J.2⟩)
        | (have J := srt_join (by omega) (by omega) TT.out.apart (Same.refl _ _ _) TN1.out S3.out T3.out; exact bodyPost_end (v := .tuple #[]) (by simp [results, Tryz.results129, go_sem]) rfl ⟨rfl, _, HR3.out, J.1, TT.out.same.trans J.2⟩)
        | (have J := srt_join (by omega) (by omega) TT.out.apart (Same.refl _ _ _) TN1.out (Same.refl _ _ _) TN2.out; exact bodyPost_end (v := .tuple #[]) (by simp [results, Tryz.results129, go_sem]) rfl ⟨rfl, _, HR1.out, J.1, TT.out.same.trans J.2⟩)

theorem sym_any {Q : Rw} {w0 : World} {g n bx : Nat} {key : Nat → Nat} (hc : CmpAt Q w0 g n bx key) (hn : n ≤ 1000000) (s : Nat) : SymAt Q w0 g n bx key s := by
  induction s with
  | zero => intro W f a m b hs hR h1 h2; omega
  | succ s ih =>
    intro W f a m b hs hR ham hmb hb hsm h1 h2 hx
    by_cases e1 : m = a + 1
    · exact sym_left hR hc a m b e1 hmb hb hn hsm h2 hx
    · by_cases e2 : b = m + 1
      · exact sym_right hR hc a m b (by omega) e2 hb hn hsm h1 hx
      · by_cases e3 : m > (a + b) / 2
        · exact sym_up hR hc a m b s _ rfl e3 (by omega) (by omega) hb hn hs ih hsm h1 h2 hx
        · exact sym_down hR hc a m b s _ rfl (by omega) (by omega) (by omega) hb hn hs ih hsm h1 h2 hx
end Go.Proofs.YtdplflcaanmmiaaGreat.Ids

namespace Go.Proofs.YtdplflcaanmmiaaGreat.Ids
open Go.ChangeShapes Go.WideShapes Go.ChangeAt Go.RowKit

set_option maxRecDepth 20000 in
set_option maxHeartbeats 8000000 in
theorem stable_any {Q : Rw} {w0 W : World} {g n bx : Nat} {key : Nat → Nat} (h : RowAt Q w0 g n (fun k => k) W) (hc : CmpAt Q w0 g n bx key) (hn : n ≤ 1000000) :
    Calls Tryz.prog 119 #[.slice (some ⟨g, 0, none⟩) n Q.cap, .int .i64 (n : Int), cmpV bx] W fun e w' => e = .returned (.tuple #[]) ∧ ∃ f', RowAt Q w0 g n f' w' ∧ Srt key f' 0 n ∧ Same (fun k => k) f' 0 n := by
  have HC := hid hc
  have H0 := hid h
  clear hc h
  unfold cmpV
  go_enter Tryz.func119, Tryz.ntmps119
  go_wp2
  go_loopw [7, 8] (fun va vb wr => ∃ (q a b : Nat) (f' : Nat → Nat), va = .int .i64 a ∧ vb = .int .i64 b ∧ b ≤ a + 20 ∧ a + 20 ≤ b ∧ a ≤ n ∧ Hid (a = q * 20) ∧ Hid (RowAt Q w0 g n f' wr) ∧ Hid (BksTo key f' n 20 q) ∧ Hid (∀ k, a ≤ k → f' k = k) ∧ Hid (Same (fun k => k) f' 0 n)) (fun _ vb _ => n + 20 - (intOf vb).toNat)
  case atStart => exact ⟨0, 0, 20, fun k => k, rfl, rfl, by omega, by omega, by omega, (by show (0 : Nat) = 0 * 20; omega), H0.out, (fun p hp => by omega), (fun k _ => rfl), Same.refl _ _ _⟩
  case round =>
    obtain ⟨q, a, b, f', rfl, rfl, hb1, hb2, han, hq, hR, hT, hI, hS⟩ := hrel
    by_cases hbn : b ≤ n
    · have hab : a ≤ b := by omega
      obtain ⟨b', hb'⟩ : ∃ c, c = b + 20 := ⟨_, rfl⟩
      have eb' : (b : Int) + 20 = (b' : Int) := by omega
      have hb3 : b' ≤ b + 20 := by omega
      have hb4 : b + 20 ≤ b' := by omega
      clear hb'
      go_wp2_with (go_at_call 128; refine (insertion_any hR.out HC.out a b hab hbn hn (fun k h1 _ => hI.out k h1)).mono ?_; rintro e w5 ⟨rfl, f2, hr2, ht2, hs2⟩; have HR2 := hid hr2; have HT2 := hid ht2; have HS2 := hid hs2; clear hr2 ht2 hs2)
      go_roundw
      case rel =>
        have e1 := hq.out
        refine ⟨q + 1, b, b', f2, rfl, rfl, hb3, hb4, hbn, (by show b = (q + 1) * 20; omega), HR2.out, ?_, ?_, hS.out.trans (HS2.out.wide (Nat.zero_le _) hbn)⟩
        · have hbk : Bk key f2 n a 20 := Bk.first (e := b) (by omega) (fun k h1 _ => hI.out k h1) HS2.out HT2.out
          have hs3 := HS2.out
          rw [e1] at hbk hs3
          exact hT.out.step hs3 hbk
        · intro k hk
          rw [HS2.out.out k (.inr hk)]
          exact hI.out k (by omega)
      case measure => simp [intOf]; omega
    · go_wp2_with (go_at_call 128; refine (insertion_any hR.out HC.out a n han (Nat.le_refl _) hn (fun k h1 _ => hI.out k h1)).mono ?_; rintro e w5 ⟨rfl, f2, hr2, ht2, hs2⟩; have HR2 := hid hr2; have HT2 := hid ht2; have HS2 := hid hs2; clear hr2 ht2 hs2)
      have HALL : Hid (BksFrom key f2 n 20 0 ∧ Same (fun k => k) f2 0 n) := by
        have e1 := hq.out
        have hbk : Bk key f2 n a 20 := Bk.first (e := n) (by omega) (fun k h1 _ => hI.out k h1) HS2.out HT2.out
        have hs3 := HS2.out
        refine ⟨?_, hS.out.trans (hs3.wide (Nat.zero_le _) (Nat.le_refl _))⟩
        rw [e1] at hbk hs3
        exact (hT.out.step hs3 hbk).all (by omega)
      clear hq hR hT hI hS HT2 HS2 hb1 hb2 han hbn
      go_loopw [6] (fun vs wr => ∃ (s : Nat) (f' : Nat → Nat), vs = .int .i64 s ∧ 20 ≤ s ∧ s ≤ 2000000 ∧ Hid (RowAt Q w0 g n f' wr) ∧ Hid (BksFrom key f' n s 0 ∧ Same (fun k => k) f' 0 n)) (fun vs _ => n - (intOf vs).toNat)
      case atStart => exact ⟨20, f2, rfl, by omega, by omega, HR2.out, HALL.out⟩
      case round =>
        clear HR2 HALL
        obtain ⟨s, f3, rfl, hs20, hsb, hR, hB⟩ := hrel
        by_cases hsn : s < n
        · obtain ⟨s2, hs2⟩ : ∃ c, c = 2 * s := ⟨_, rfl⟩
          have es2 : (s : Int) * 2 = (s2 : Int) := by omega
          have es3 : 2 * (s : Int) = (s2 : Int) := by omega
          have HS2 := hid hs2
          have hsl : 40 ≤ s2 := by omega
          have hsu : s2 ≤ 2000000 := by omega
          have hss : s < s2 := by omega
          clear hs2
          go_wp2
          go_loopw [7, 8] (fun va vb wr => ∃ (q a b : Nat) (f' : Nat → Nat), va = .int .i64 a ∧ vb = .int .i64 b ∧ b ≤ a + s2 ∧ a + s2 ≤ b ∧ a ≤ n ∧ Hid (a = q * s2) ∧ Hid (RowAt Q w0 g n f' wr) ∧ Hid (BksTo key f' n s2 q) ∧ Hid (BksFrom key f' n s a) ∧ Hid (Same (fun k => k) f' 0 n)) (fun _ vb _ => n + s2 - (intOf vb).toNat)
          case atStart => exact ⟨0, 0, s2, f3, rfl, rfl, by omega, by omega, by omega, (by show (0 : Nat) = 0 * s2; omega), hR.out, (fun p hp => by omega), hB.out.1, hB.out.2⟩
          case round =>
            clear hR hB
            obtain ⟨q, a, b, f4, rfl, rfl, hb1, hb2, han, hq, hR, hT, hF, hS⟩ := hrel
            obtain ⟨m, hm⟩ : ∃ c, c = a + s := ⟨_, rfl⟩
            have em : (a : Int) + (s : Int) = (m : Int) := by omega
            have ham : a < m := by omega
            have HM := hid hm
            have HP : Hid ((a < n → Bk key f4 n a s) ∧ (m < n → Bk key f4 n m s)) := by
              have h1 := hF.out
              have e1 := hq.out
              have e2 := HS2.out
              rw [e1, e2] at h1
              have h2 := h1.pair
              rw [hm, e1, e2]
              exact h2
            clear hm
            by_cases hbn : b ≤ n
            · have hmb : m < b := by have := HM.out; have := HS2.out; omega
              obtain ⟨b', hb'⟩ : ∃ c, c = b + s2 := ⟨_, rfl⟩
              have eb' : (b : Int) + (s2 : Int) = (b' : Int) := by omega
              have hb3 : b' ≤ b + s2 := by omega
              have hb4 : b + s2 ≤ b' := by omega
              clear hb'
              have BK1 := HP.out.1 (by omega)
              have BK2 := HP.out.2 (by omega)
              have P1 : Hid (Srt key f4 a m) := by have h1 := BK1.srt; have := HM.out; rw [show min (a + s) n = m by omega] at h1; exact h1
              have P2 : Hid (Srt key f4 m b) := by have h1 := BK2.srt; have := HM.out; have := HS2.out; rw [show min (m + s) n = b by omega] at h1; exact h1
              have P3 : Hid (Cross key f4 a m b) := by
                have := HM.out; have := HS2.out
                have h2 := BK2
                rw [HM.out] at h2
                have h3 := BK1.cross h2 b (by omega) hbn
                rw [← HM.out] at h3
                exact h3
              have BB1 := hid BK1
              have BB2 := hid BK2
              clear BK1 BK2 HP
              go_wp2_with (go_at_call 129; refine (sym_any HC.out hn (b - a) _ f4 a m b (Nat.le_refl _) hR.out ham hmb hbn (small_of_same hS.out) P1.out P2.out P3.out).mono ?_; rintro e w5 ⟨rfl, f5, hr5, ht5, hs5⟩; have HR5 := hid hr5; have HT5 := hid ht5; have HS5 := hid hs5; clear hr5 ht5 hs5)
              go_roundw
              case rel =>
                have e1 := hq.out
                have e2 := HS2.out
                have e3 := HM.out
                refine ⟨q + 1, b, b', f5, rfl, rfl, hb3, hb4, hbn, (by show b = (q + 1) * s2; rw [Nat.add_mul, Nat.one_mul, ← e1]; omega), HR5.out, ?_, hF.out.step HS5.out (by omega) (by omega), hS.out.trans (HS5.out.wide (Nat.zero_le _) hbn)⟩
                have h2 := BB2.out
                rw [e3] at h2
                have hbk : Bk key f5 n a s2 := by rw [e2]; exact BB1.out.merge h2 (e := b) (by omega) HS5.out HT5.out
                have hs3 := HS5.out
                rw [e1] at hbk hs3
                exact hT.out.step hs3 hbk
              case measure => simp [intOf]; omega
            · by_cases hmn : m < n
              · have BK1 := HP.out.1 (by omega)
                have BK2 := HP.out.2 hmn
                have P1 : Hid (Srt key f4 a m) := by have h1 := BK1.srt; have := HM.out; rw [show min (a + s) n = m by omega] at h1; exact h1
                have P2 : Hid (Srt key f4 m n) := by have h1 := BK2.srt; have := HM.out; have := HS2.out; rw [show min (m + s) n = n by omega] at h1; exact h1
                have P3 : Hid (Cross key f4 a m n) := by
                  have := HM.out; have := HS2.out
                  have h2 := BK2
                  rw [HM.out] at h2
                  have h3 := BK1.cross h2 n (by omega) (Nat.le_refl _)
                  rw [← HM.out] at h3
                  exact h3
                have BB1 := hid BK1
                have BB2 := hid BK2
                clear BK1 BK2 HP
                go_wp2_with (go_at_call 129; refine (sym_any HC.out hn (n - a) _ f4 a m n (Nat.le_refl _) hR.out ham hmn (Nat.le_refl _) (small_of_same hS.out) P1.out P2.out P3.out).mono ?_; rintro e w5 ⟨rfl, f5, hr5, ht5, hs5⟩; have HR5 := hid hr5; have HT5 := hid ht5; have HS5 := hid hs5; clear hr5 ht5 hs5)
                go_roundw
                case rel =>
                  have e1 := hq.out
                  have e2 := HS2.out
                  have e3 := HM.out
                  refine ⟨s2, f5, rfl, by omega, hsu, HR5.out, ?_, hS.out.trans (HS5.out.wide (Nat.zero_le _) (Nat.le_refl _))⟩
                  have h2 := BB2.out
                  rw [e3] at h2
                  have hbk : Bk key f5 n a s2 := by rw [e2]; exact BB1.out.merge h2 (e := n) (by omega) HS5.out HT5.out
                  have hs3 := HS5.out
                  rw [e1] at hbk hs3
                  refine (hT.out.step hs3 hbk).all ?_
                  rw [Nat.add_mul, Nat.one_mul, ← e1]
                  omega
                case measure => simp [intOf]; omega
              · have HEND : Hid (BksFrom key f4 n s2 0) := by
                  have e1 := hq.out
                  have e2 := HS2.out
                  have e3 := HM.out
                  rcases Nat.lt_or_ge a n with h1 | h1
                  · have hbk : Bk key f4 n a s2 := by rw [e2]; exact (HP.out.1 h1).alone (by omega)
                    rw [e1] at hbk
                    refine (hT.out.step (Same.refl f4 (q * s2) n) hbk).all ?_
                    rw [Nat.add_mul, Nat.one_mul, ← e1]
                    omega
                  · exact hT.out.all (by rw [← e1]; omega)
                clear HP
                go_wp2
                go_roundw
                case rel => exact ⟨s2, f4, rfl, by omega, hsu, hR.out, HEND.out, hS.out⟩
                case measure => simp [intOf]; omega
        · have HEND : Hid (Srt key f3 0 n) := hB.out.1.whole (by omega)
          go_wp2
          exact bodyPost_end (v := .tuple #[]) (by simp [results, Tryz.results119, go_sem]) rfl ⟨rfl, f3, hR.out, HEND.out, hB.out.2⟩

theorem sortStable_any {Q : Rw} {w0 W : World} {g n bx : Nat} {key : Nat → Nat} (h : RowAt Q w0 g n (fun k => k) W) (hc : CmpAt Q w0 g n bx key) (hn : n ≤ 1000000) :
    Calls Tryz.prog 103 #[.slice (some ⟨g, 0, none⟩) n Q.cap, cmpV bx] W fun e w' => e = .returned (.tuple #[]) ∧ ∃ f', RowAt Q w0 g n f' w' ∧ Srt key f' 0 n ∧ Same (fun k => k) f' 0 n := by
  have HC := hid hc
  have H0 := hid h
  clear hc h
  unfold cmpV
  go_enter Tryz.func103, Tryz.ntmps103
  go_wp2_with (go_at_call 119; refine (stable_any H0.out HC.out hn).mono ?_; rintro e w5 ⟨rfl, f2, hr2, ht2, hs2⟩; have HR2 := hid hr2; have HT2 := hid ht2; have HS2 := hid hs2; clear hr2 ht2 hs2)
  exact bodyPost_end (v := .tuple #[]) (by simp [results, Tryz.results103, go_sem]) rfl ⟨rfl, f2, HR2.out, HT2.out, HS2.out⟩
end Go.Proofs.YtdplflcaanmmiaaGreat.Ids
