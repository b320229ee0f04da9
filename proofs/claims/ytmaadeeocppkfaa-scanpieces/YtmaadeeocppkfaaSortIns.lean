/-
  The library's stable sort of numbers: insertionSortCmpFunc.
-/
import Derived.Test.YtmaadeeocppkfaaSortRot
namespace Go.Proofs.Ytmaadeeocppkfaa
open Go.ChangeShapes Go.WideShapes Go.ChangeAt Go.RowKit

/-- What cmp.Compare answers of two keys. -/
def c3 (a b : Nat) : Int := if a < b then -1 else if b < a then 1 else 0

theorem c3_lt {a b : Nat} (h : a < b) : c3 a b = -1 := by unfold c3; rw [if_pos h]
theorem c3_ge {a b : Nat} (h : b ≤ a) : ¬ c3 a b < 0 := by unfold c3; rw [if_neg (by omega)]; split <;> decide

/-- The function that compares: by the keys of numbers below n, whatever stands in the row. -/
def CmpAt (w0 : World) (g n bx : Nat) (key : Nat → Nat) : Prop :=
  ∀ W, Kept (· = g) w0 W → ∀ x y : Nat, x < n → y < n → Calls Try.prog 45 #[.int .i64 (x : Int), .int .i64 (y : Int), .pointer (some ⟨bx, 0, none⟩)] W fun e w' => e = .returned (.int .i64 (c3 (key x) (key y))) ∧ ∃ q, w' = W.drewN q

/-- The value that is handed on. -/
abbrev cmpV (bx : Nat) : Value := .func (.func 45) #[] #[.pointer (some ⟨bx, 0, none⟩)]

/-- Moved to the left, one stands where it belongs. -/
theorem srt_mvL {key f : Nat → Nat} {a j i : Nat} (hs : Srt key f a i) (haj : a ≤ j) (hji : j ≤ i) (h1 : ∀ k, a ≤ k → k < j → rk key (f k) < rk key (f i)) (h2 : ∀ k, j ≤ k → k < i → rk key (f i) < rk key (f k)) : Srt key (mvL f j i) a (i + 1) := by
  intro p q hp hpq hq
  have hL : ∀ k, a ≤ k → k ≤ i → (k < j ∧ mvL f j i k = f k) ∨ (k = j ∧ mvL f j i k = f i) ∨ (j < k ∧ mvL f j i k = f (k - 1)) := by
    intro k _ hk
    unfold mvL rot
    rcases Nat.lt_trichotomy k j with h | h | h
    · exact .inl ⟨h, by rw [if_neg (by omega), if_neg (by omega)]⟩
    · refine .inr (.inl ⟨h, ?_⟩)
      rw [if_pos (by omega)]
      congr 1; omega
    · refine .inr (.inr ⟨h, ?_⟩)
      rw [if_neg (by omega), if_pos (by omega)]
      congr 1; omega
  rcases hL p hp (by omega) with ⟨hp1, ep⟩ | ⟨hp1, ep⟩ | ⟨hp1, ep⟩ <;> rcases hL q (by omega) (by omega) with ⟨hq1, eq⟩ | ⟨hq1, eq⟩ | ⟨hq1, eq⟩ <;> rw [ep, eq]
  · exact hs p q hp hpq (by omega)
  · exact h1 p hp hp1
  · rcases Nat.lt_or_ge p (q - 1) with h | h
    · exact hs p (q - 1) hp h (by omega)
    · omega
  · omega
  · omega
  · exact h2 (q - 1) (by omega) (by omega)
  · omega
  · omega
  · exact hs (p - 1) (q - 1) (by omega) (by omega) (by omega)

theorem same_mvL (f : Nat → Nat) (j i : Nat) (h : j ≤ i) : Same f (mvL f j i) j (i + 1) := same_rot f j i (i + 1) h (by omega)

set_option maxRecDepth 20000 in
set_option maxHeartbeats 4000000 in
/-- A block whose numbers are their own places is sorted. -/
theorem insertion_any {w0 W : World} {g n bx : Nat} {f key : Nat → Nat} (h : RowAt w0 g n f W) (hc : CmpAt w0 g n bx key) (a b : Nat) (hab : a ≤ b) (hb : b ≤ n) (hn : n ≤ 1000000) (hid0 : ∀ k, a ≤ k → k < b → f k = k) :
    Calls Try.prog 65 #[.slice (some ⟨g, 0, none⟩) n n, .int .i64 (a : Int), .int .i64 (b : Int), cmpV bx] W fun e w' => e = .returned (.tuple #[]) ∧ ∃ f', RowAt w0 g n f' w' ∧ Srt key f' a b ∧ Same f f' a b := by
  have mixed : Try.prog.follows .mixedOrders = true := by kernel_rfl
  have H := hid h
  have HC := hid hc
  have HI := hid hid0
  clear h hc hid0
  unfold cmpV
  go_enter Try.func65, Try.ntmps65
  go_wp2
  go_loopg [8] (b + 1) (fun g1 vi wr => ∃ (i : Nat) (f' : Nat → Nat), vi = .int .i64 i ∧ a < i ∧ i ≤ b + 1 ∧ b + 1 - i ≤ g1 ∧ Hid (RowAt w0 g n f' wr) ∧ Hid (Srt key f' a (min i b)) ∧ Hid (Same f f' a b) ∧ Hid (∀ k, a ≤ k → k < b → (i ≤ k → f' k = k) ∧ (k < i → f' k < i)))
  case atStart => exact ⟨a + 1, f, by go_num, by omega, by omega, by omega, H.out, (fun p q h1 h2 h3 => by omega), Same.refl _ _ _, (fun k h1 h2 => ⟨fun _ => HI.out k h1 h2, fun h3 => by rw [HI.out k h1 h2]; exact h3⟩)⟩
  case round =>
    obtain ⟨i, f1, rfl, hai, hib, hg1, hR, hS, hM, hV⟩ := hrel
    by_cases hlt : i < b
    · -- behind the inner loop
      have HOUT : Hid (∀ j, a ≤ j → j ≤ i → (∀ k, j ≤ k → k < i → rk key (f1 i) < rk key (f1 k)) → (j = a ∨ (a < j ∧ rk key (f1 (j - 1)) < rk key (f1 i))) → Srt key (mvL f1 j i) a (min (i + 1) b) ∧ Same f (mvL f1 j i) a b ∧ (∀ k, a ≤ k → k < b → (i + 1 ≤ k → mvL f1 j i k = k) ∧ (k < i + 1 → mvL f1 j i k < i + 1))) := by
        intro j haj hji h2 h1
        have hsi : Srt key f1 a i := by have := hS.out; rwa [Nat.min_eq_left (by omega)] at this
        refine ⟨?_, hM.out.trans ((same_mvL f1 j i hji).wide haj (by omega)), ?_⟩
        · rw [Nat.min_eq_left (by omega)]
          refine srt_mvL hsi haj hji (fun k hk1 hk2 => ?_) h2
          rcases h1 with rfl | ⟨h1, h3⟩
          · omega
          · rcases Nat.lt_or_ge k (j - 1) with h4 | h4
            · exact Nat.lt_trans (hsi k (j - 1) hk1 h4 (by omega)) h3
            · rw [show k = j - 1 by omega]; exact h3
        · intro k hk1 hk2
          have hsm := same_mvL f1 j i hji
          refine ⟨fun h3 => ?_, fun h3 => ?_⟩
          · rw [hsm.out k (by omega)]
            exact (hV.out k hk1 hk2).1 (by omega)
          · by_cases h4 : j ≤ k
            · obtain ⟨k', a1, b1, e1⟩ := hsm.back k h4 h3
              rw [e1]
              have h5 := hV.out k' (by omega) (by omega)
              rcases Nat.lt_or_ge k' i with h6 | h6
              · have := h5.2 h6; omega
              · rw [h5.1 h6]; omega
            · rw [hsm.out k (by omega)]
              have := (hV.out k hk1 hk2).2 (by omega)
              omega
      have HVI : Hid (f1 i = i ∧ ∀ k, a ≤ k → k < i → f1 k < i) := ⟨(hV.out i (by omega) hlt).1 (Nat.le_refl _), fun k h1 h2 => (hV.out k h1 (by omega)).2 h2⟩
      clear hS hM hV
      go_wp2
      go_loopg [9] i (fun g2 vj wr2 => ∃ j : Nat, vj = .int .i64 j ∧ a ≤ j ∧ j ≤ i ∧ j ≤ g2 ∧ Hid (RowAt w0 g n (mvL f1 j i) wr2) ∧ Hid (∀ k, j ≤ k → k < i → rk key (f1 i) < rk key (f1 k)))
      case atStart => exact ⟨i, rfl, by omega, by omega, by omega, by rw [mvL_zero]; exact hR.out, (fun k h1 h2 => by omega)⟩
      case round =>
        clear hR
        obtain ⟨j, rfl, haj, hji, hg2, hR, hB⟩ := hrel
        by_cases hja : a < j
        · obtain ⟨q, rfl⟩ : ∃ q, j = q + 1 := ⟨j - 1, by omega⟩
          obtain ⟨y, hy⟩ : ∃ y, y = f1 i := ⟨_, rfl⟩
          obtain ⟨x, hx⟩ : ∃ x, x = f1 q := ⟨_, rfl⟩
          have ey : mvL f1 (q + 1) i (q + 1) = y := by
            unfold mvL rot
            rw [if_pos (by omega), hy]
            congr 1; omega
          have ex : mvL f1 (q + 1) i q = x := by
            unfold mvL rot
            rw [if_neg (by omega), if_neg (by omega), hx]
          have hqn : q < n := by omega
          obtain ⟨p, hp⟩ : ∃ p, p = q + 1 := ⟨_, rfl⟩
          have hpn : p < n := by omega
          have ez : ((q + 1 : Nat) : Int) = (p : Int) := by omega
          have em : (p : Int) - 1 = (q : Int) := by omega
          have hapn : (a : Int) < (p : Int) := by omega
          have hap : decide ((p : Int) > (a : Int)) = true := decide_eq_true (by omega)
          have hap2 : decide (a < p) = true := decide_eq_true (by omega)
          have c1 := hR.out.row.cell hpn
          have c2 := hR.out.row.cell hqn
          have f1' := hR.out.row.frozen p
          have f2' := hR.out.row.frozen q
          have EY : Hid (mvL f1 p i p = y) := by show _ = _; rw [hp]; exact ey
          have EX : Hid (mvL f1 p i q = x) := by show _ = _; rw [hp]; exact ex
          rw [hp, ey, ← hp] at c1
          rw [ex] at c2
          have hyi : y = i := hy.trans HVI.out.1
          have hxi : x < i := by rw [hx]; exact HVI.out.2 q (by omega) (by omega)
          have hyn : y < n := by omega
          have hxn : x < n := by omega
          have hx1 : decide ((0 : Int) ≤ (p : Int) ∧ (p : Int) < (n : Int)) = true := decide_eq_true ⟨by omega, by omega⟩
          have hx2 : decide ((0 : Int) ≤ (q : Int) ∧ (q : Int) < (n : Int)) = true := decide_eq_true ⟨by omega, by omega⟩
          have hwp : IntKind.i64.wrap (p : Int) = (p : Int) := by rw [IntKind.wrap_i64]; omega
          have hwq : IntKind.i64.wrap (q : Int) = (q : Int) := by rw [IntKind.wrap_i64]; omega
          have hpi : p ≤ i := by omega
          have hpg : p ≤ gk := by omega
          have hap3 : a < p := by omega
          have hpq : p ≠ q := by omega
          have HY := hid hy
          have HX := hid hx
          have HP := hid hp
          have HYI := hid hyi
          have hqi : q < i := by omega
          have haq : a ≤ q := by omega
          have hqp : q < p := by omega
          have HR3 := hR.out
          rw [← hp] at HR3
          have HR4 := hid HR3
          rw [ez]
          clear hy hx ey ex ez hji hja haj hg2 hyi hp HR3 hR
          by_cases hk : key y < key x
          · have hcv := c3_lt hk
            have hcd : decide (c3 (key y) (key x) < 0) = true := decide_eq_true (by rw [hcv]; decide)
            have HB2 : Hid (∀ k, q ≤ k → k < i → rk key (f1 i) < rk key (f1 k)) := fun k h1 h2 => by
              rcases Nat.lt_or_ge q k with h3 | h3
              · exact hB.out k h3 h2
              · have e1 : k = q := by omega
                rw [e1, ← HY.out, ← HX.out]
                unfold rk
                omega
            clear hcv hk
            go_wp2_with fail
            go_quiet ((go_at_call 45; exact Calls.quiet_of (HC.out _ (HR4.out.kept.trans (Kept.drewN _ _ _)) y x hyn hxn)))
            have HR5 := hid (HR4.out.drewN nq)
            clear c1 c2 f1' f2' HR4
            generalize wr.drewN nq = w2 at HR5 ⊢
            have c1 := HR5.out.row.cell hpn
            have c2 := HR5.out.row.cell hqn
            have f1' := HR5.out.row.frozen p
            have f2' := HR5.out.row.frozen q
            have c3' : (w2.setCell ⟨g, p, none⟩ (.int .i64 (mvL f1 p i q : Int))).cell? ⟨g, q, none⟩ = some (.int .i64 (mvL f1 p i q : Int)) := by
              have h3 := (HR5.out.row.set p (.int .i64 (mvL f1 p i q : Int))).cell hqn
              simpa [Ne.symm hpq] using h3
            have HS := hid (HR5.out.swap p q hpq)
            have hsw : swp2 (mvL f1 p i) p q = mvL f1 q i := by rw [HP.out]; exact mvL_succ f1 q i (by omega)
            rw [hsw, EX.out, EY.out] at HS
            rw [EY.out] at c1
            rw [EX.out] at c2 c3'
            clear hsw HR5 EX EY
            go_wp2_with fail
            go_big_region_o
            clear c1 c2 c3' f1' f2' hx1 hx2 hwp hwq
            generalize ((w2.setCell ⟨g, p, none⟩ (.int .i64 (x : Int))).setCell ⟨g, q, none⟩ (.int .i64 (y : Int))).drew = w3 at HS ⊢
            go_wp2
            go_roundg q
            case measure => omega
            case rel => exact ⟨q, by first | rfl | go_num, haq, by omega, Nat.le_refl _, HS.out, HB2.out⟩
          · have hcv := c3_ge (Nat.le_of_not_lt hk)
            have hcd : decide (c3 (key y) (key x) < 0) = false := decide_eq_false hcv
            have HO := HOUT.out p (by omega) hpi (by rw [HP.out]; exact hB.out) (.inr ⟨hap3, by
              rw [show p - 1 = q by omega, ← HX.out, ← HY.out]
              have h4 := HYI.out
              unfold rk
              omega⟩)
            obtain ⟨ho1, ho2, ho3⟩ := HO
            have HO1 := hid ho1
            have HO2 := hid ho2
            have HO3 := hid ho3
            clear hcv hk ho1 ho2 ho3 HOUT
            go_wp2_with fail
            go_quiet ((go_at_call 45; exact Calls.quiet_of (HC.out _ (HR4.out.kept.trans (Kept.drewN _ _ _)) y x hyn hxn)))
            have HR5 := hid (HR4.out.drewN nq)
            clear c1 c2 f1' f2' HR4
            generalize wr.drewN nq = w2 at HR5 ⊢
            go_wp2
            go_roundg (b - i)
            case measure => omega
            case rel => exact ⟨i + 1, mvL f1 p i, by go_num, by omega, by omega, by omega, HR5.out, HO1.out, HO2.out, HO3.out⟩
        · obtain rfl : j = a := by omega
          obtain ⟨ho1, ho2, ho3⟩ := HOUT.out j (Nat.le_refl _) (by omega) hB.out (.inl rfl)
          have HO1 := hid ho1
          have HO2 := hid ho2
          have HO3 := hid ho3
          clear ho1 ho2 ho3 HOUT
          have hja2 : ¬ ((j : Int) < (j : Int)) := by omega
          go_wp2_with fail
          go_quiet (fail)
          have HR5 := hid (hR.out.drewN nq)
          clear hR
          generalize wr.drewN nq = w2 at HR5 ⊢
          go_wp2
          go_roundg (b - i)
          case measure => omega
          case rel => exact ⟨i + 1, mvL f1 j i, by go_num, by omega, by omega, by omega, HR5.out, HO1.out, HO2.out, HO3.out⟩
    · have hmin : min i b = b := by omega
      have hS2 := hS.out
      rw [hmin] at hS2
      have HS2 := hid hS2
      clear hS2 hmin
      go_wp2
      exact bodyPost_end (v := .tuple #[]) (by simp [results, Try.results65, go_sem]) rfl ⟨rfl, f1, hR.out, HS2.out, hM.out⟩
end Go.Proofs.Ytmaadeeocppkfaa
