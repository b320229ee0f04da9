/-
  The library's stable sort of numbers: symMergeCmpFunc where one of the blocks has one number alone.
-/
import Derived.Test.YtmaadeeocppkfabSortCut
namespace Go.Proofs.Ytmaadeeocppkfab
open Go.ChangeShapes Go.WideShapes Go.ChangeAt Go.RowKit

set_option maxRecDepth 20000 in
set_option maxHeartbeats 4000000 in
/-- The left block is one number. -/
theorem sym_left {w0 W : World} {g n bx : Nat} {f key : Nat → Nat} (h : RowAt w0 g n f W) (hc : CmpAt w0 g n bx key) (a m b : Nat) (ham : m = a + 1) (hmb : m < b) (hb : b ≤ n) (hn : n ≤ 1000000) (hsm : Small f n) (h2 : Srt key f m b) (hx : Cross key f a m b) :
    Calls Try.prog 57 #[.slice (some ⟨g, 0, none⟩) n n, .int .i64 (a : Int), .int .i64 (m : Int), .int .i64 (b : Int), cmpV bx] W fun e w' => e = .returned (.tuple #[]) ∧ ∃ f', RowAt w0 g n f' w' ∧ Srt key f' a b ∧ Same f f' a b := by
  have mixed : Try.prog.follows .mixedOrders = true := by kernel_rfl
  have HC := hid hc
  have HM := hid ham
  have H0 := hid h
  have han : a < n := by omega
  have ham1 : a < m := by omega
  have ema : (m : Int) - (a : Int) = 1 := by omega
  obtain ⟨y, hy⟩ : ∃ y, y = f a := ⟨_, rfl⟩
  have hyn : y < n := by rw [hy]; exact hsm a han
  have HY := hid hy
  have HSM := hid hsm
  have H2 := hid h2
  have HX := hid hx
  have hxa : decide ((0 : Int) ≤ (a : Int) ∧ (a : Int) < (n : Int)) = true := decide_eq_true ⟨by omega, by omega⟩
  clear hc ham h hy hsm h2 hx
  unfold cmpV
  go_enter Try.func57, Try.ntmps57
  go_wp2
  go_loopg [10, 11] n (fun g1 vi vj wr => ∃ i j : Nat, vi = .int .i64 i ∧ vj = .int .i64 j ∧ m ≤ i ∧ i ≤ j ∧ j ≤ b ∧ j - i ≤ g1 ∧ Hid (RowAt w0 g n f wr) ∧ Hid (∀ k, m ≤ k → k < i → rk key (f k) < rk key (f a)) ∧ Hid (∀ k, j ≤ k → k < b → rk key (f a) < rk key (f k)))
  case atStart => exact ⟨m, b, rfl, rfl, by omega, by omega, by omega, by omega, H0.out, (fun k h1 h2 => by omega), (fun k h1 h2 => by omega)⟩
  case round =>
    obtain ⟨i, j, rfl, rfl, hmi, hij, hjb, hg, hR, hA, hB⟩ := hrel
    by_cases hlt : i < j
    · obtain ⟨q, hq⟩ : ∃ q, q = (i + j) / 2 := ⟨_, rfl⟩
      have eq1 : ((i : Int) + (j : Int)) / 2 = (q : Int) := by omega
      have hqi : i ≤ q := by omega
      have hqj : q < j := by omega
      have hqn : q < n := by omega
      clear hq
      obtain ⟨x, hx⟩ : ∃ x, x = f q := ⟨_, rfl⟩
      have hxn : x < n := by rw [hx]; exact HSM.out q hqn
      have c1 := hR.out.row.cell hqn
      have c2 := hR.out.row.cell han
      rw [← hx] at c1
      rw [← HY.out] at c2
      have hxq : decide ((0 : Int) ≤ (q : Int) ∧ (q : Int) < (n : Int)) = true := decide_eq_true ⟨by omega, by omega⟩
      have HXE := hid hx
      clear hx
      by_cases hk : key x < key y
      · have hcv := c3_lt hk
        have hcd : decide (c3 (key x) (key y) < 0) = true := decide_eq_true (by rw [hcv]; decide)
        have HA2 : Hid (∀ k, m ≤ k → k < q + 1 → rk key (f k) < rk key (f a)) := fun k h1 h3 => by
          have h4 : rk key (f q) < rk key (f a) := by rw [← HXE.out, ← HY.out]; exact rk_lt (by omega) hk
          rcases Nat.lt_or_ge k q with h5 | h5
          · exact Nat.lt_trans (H2.out k q h1 h5 (by omega)) h4
          · rw [show k = q by omega]; exact h4
        clear hcv hk hA
        go_wp2_with fail
        go_quiet ((go_at_call 34; exact Calls.quiet_of (HC.out _ (hR.out.kept.trans (Kept.drewN _ _ _)) x y hxn hyn)))
        have HR5 := hid (hR.out.drewN nq)
        clear c1 c2 hR
        generalize wr.drewN nq = w2 at HR5 ⊢
        go_wp2
        go_roundg (j - (q + 1))
        case measure => omega
        case rel => exact ⟨q + 1, j, by go_num, rfl, by omega, by omega, hjb, by omega, HR5.out, HA2.out, hB.out⟩
      · have hcv := c3_ge (Nat.le_of_not_lt hk)
        have hcd : decide (c3 (key x) (key y) < 0) = false := decide_eq_false hcv
        have HB2 : Hid (∀ k, q ≤ k → k < b → rk key (f a) < rk key (f k)) := fun k h1 h3 => by
          have h4 : rk key (f a) < rk key (f q) := by
            refine rk_le (by rw [← HY.out]; omega) (by rw [← HXE.out, ← HY.out]; exact hk) (fun e => HX.out a q (Nat.le_refl _) ham1 (by omega) (by omega) e)
          rcases Nat.lt_or_ge q k with h5 | h5
          · exact Nat.lt_trans h4 (H2.out q k (by omega) h5 h3)
          · rw [show k = q by omega]; exact h4
        clear hcv hk hB
        go_wp2_with fail
        go_quiet ((go_at_call 34; exact Calls.quiet_of (HC.out _ (hR.out.kept.trans (Kept.drewN _ _ _)) x y hxn hyn)))
        have HR5 := hid (hR.out.drewN nq)
        clear c1 c2 hR
        generalize wr.drewN nq = w2 at HR5 ⊢
        go_wp2
        go_roundg (q - i)
        case measure => omega
        case rel => exact ⟨i, q, rfl, by first | rfl | go_num, by omega, by omega, by omega, by omega, HR5.out, hA.out, HB2.out⟩
    · obtain rfl : i = j := by omega
      obtain ⟨p, hp⟩ : ∃ p, i = p + 1 := ⟨i - 1, by omega⟩
      have ep : (i : Int) - 1 = (p : Int) := by omega
      have hap : a ≤ p := by omega
      have hpb : p < b := by omega
      have HEND : Hid (Srt key (mvR f a p) a b ∧ Same f (mvR f a p) a b) := by
        have hm := HM.out
        refine ⟨srt_mvR (by rw [← hm]; exact H2.out) hap hpb (fun k h1 h3 => hA.out k (by omega) (by omega)) (fun k h1 h3 => hB.out k (by omega) h3), (same_mvR f a p hap).wide (Nat.le_refl _) (by omega)⟩
      clear hA hB hp
      go_wp2
      go_loopw [13] (fun vk wr => ∃ k : Nat, vk = .int .i64 k ∧ a ≤ k ∧ k ≤ p ∧ Hid (RowAt w0 g n (mvR f a k) wr)) (fun vk _ => p - (intOf vk).toNat)
      case atStart => exact ⟨a, rfl, by omega, by omega, by rw [mvR_zero]; exact hR.out⟩
      case round =>
        clear hR
        obtain ⟨k, rfl, hak, hkp, hR⟩ := hrel
        by_cases hlt2 : k < p
        · obtain ⟨q, hq⟩ : ∃ q, q = k + 1 := ⟨_, rfl⟩
          have e2 : (k : Int) + 1 = (q : Int) := by omega
          have hkn : k < n := by omega
          have hqn : q < n := by omega
          have hkq : k ≠ q := by omega
          have c1 := hR.out.row.cell hkn
          have c2 := hR.out.row.cell hqn
          have f1 := hR.out.row.frozen k
          have f2 := hR.out.row.frozen q
          have c3' : (wr.setCell ⟨g, k, none⟩ (.int .i64 (mvR f a k q : Int))).cell? ⟨g, q, none⟩ = some (.int .i64 (mvR f a k q : Int)) := by
            have h3 := (hR.out.row.set k (.int .i64 (mvR f a k q : Int))).cell hqn
            simpa [Ne.symm hkq] using h3
          have HS := hid (hR.out.swap k q hkq)
          have hsw : swp2 (mvR f a k) k q = mvR f a q := by rw [hq]; exact mvR_succ f a k hak
          rw [hsw] at HS
          have hx1 : decide ((0 : Int) ≤ (k : Int) ∧ (k : Int) < (n : Int)) = true := decide_eq_true ⟨by omega, by omega⟩
          have hx2 : decide ((0 : Int) ≤ (q : Int) ∧ (q : Int) < (n : Int)) = true := decide_eq_true ⟨by omega, by omega⟩
          have hw1 : IntKind.i64.wrap (k : Int) = (k : Int) := by rw [IntKind.wrap_i64]; omega
          have hw2 : IntKind.i64.wrap (q : Int) = (q : Int) := by rw [IntKind.wrap_i64]; omega
          have haq : a ≤ q := by omega
          have hqp : q ≤ p := by omega
          have hkq2 : k < q := by omega
          clear hq hsw hR
          generalize (mvR f a k k : Nat) = x at c1 c3' HS
          generalize (mvR f a k q : Nat) = z at c2 c3' HS
          go_wp2_with fail
          go_big_region_o
          clear c1 c2 c3' f1 f2 hx1 hx2
          generalize ((wr.setCell ⟨g, k, none⟩ (.int .i64 (z : Int))).setCell ⟨g, q, none⟩ (.int .i64 (x : Int))).drew = w3 at HS ⊢
          go_wp2
          go_roundw
          case rel => exact ⟨q, by first | rfl | go_num, haq, hqp, HS.out⟩
          case measure => simp [intOf]; omega
        · obtain rfl : k = p := by omega
          go_wp2
          exact bodyPost_ret (v := .tuple #[]) (by simp [results, Try.results57, go_sem]) rfl ⟨rfl, _, hR.out, HEND.out.1, HEND.out.2⟩

set_option maxRecDepth 20000 in
set_option maxHeartbeats 4000000 in
/-- The right block is one number. -/
theorem sym_right {w0 W : World} {g n bx : Nat} {f key : Nat → Nat} (h : RowAt w0 g n f W) (hc : CmpAt w0 g n bx key) (a m b : Nat) (ham : a + 1 < m) (hmb : b = m + 1) (hb : b ≤ n) (hn : n ≤ 1000000) (hsm : Small f n) (h1 : Srt key f a m) (hx : Cross key f a m b) :
    Calls Try.prog 57 #[.slice (some ⟨g, 0, none⟩) n n, .int .i64 (a : Int), .int .i64 (m : Int), .int .i64 (b : Int), cmpV bx] W fun e w' => e = .returned (.tuple #[]) ∧ ∃ f', RowAt w0 g n f' w' ∧ Srt key f' a b ∧ Same f f' a b := by
  have mixed : Try.prog.follows .mixedOrders = true := by kernel_rfl
  have HC := hid hc
  have HM := hid hmb
  have H0 := hid h
  have hmn : m < n := by omega
  obtain ⟨d, hd⟩ : ∃ d, d = m - a := ⟨_, rfl⟩
  have ema : (m : Int) - (a : Int) = (d : Int) := by omega
  have hd1 : ¬ (d = 1) := by omega
  have hd2 : ¬ ((d : Int) = 1) := by omega
  have ebm : (b : Int) - (m : Int) = 1 := by omega
  obtain ⟨y, hy⟩ : ∃ y, y = f m := ⟨_, rfl⟩
  have hyn : y < n := by rw [hy]; exact hsm m hmn
  have HY := hid hy
  have HSM := hid hsm
  have H1 := hid h1
  have HX := hid hx
  have hxa : decide ((0 : Int) ≤ (m : Int) ∧ (m : Int) < (n : Int)) = true := decide_eq_true ⟨by omega, by omega⟩
  clear hc hmb h hy hsm h1 hx hd
  unfold cmpV
  go_enter Try.func57, Try.ntmps57
  go_wp2
  go_loopg [14, 15] n (fun g1 vi vj wr => ∃ i j : Nat, vi = .int .i64 i ∧ vj = .int .i64 j ∧ a ≤ i ∧ i ≤ j ∧ j ≤ m ∧ j - i ≤ g1 ∧ Hid (RowAt w0 g n f wr) ∧ Hid (∀ k, a ≤ k → k < i → rk key (f k) < rk key (f m)) ∧ Hid (∀ k, j ≤ k → k < m → rk key (f m) < rk key (f k)))
  case atStart => exact ⟨a, m, rfl, rfl, by omega, by omega, by omega, by omega, H0.out, (fun k h1 h2 => by omega), (fun k h1 h2 => by omega)⟩
  case round =>
    obtain ⟨i, j, rfl, rfl, hmi, hij, hjb, hg, hR, hA, hB⟩ := hrel
    by_cases hlt : i < j
    · obtain ⟨q, hq⟩ : ∃ q, q = (i + j) / 2 := ⟨_, rfl⟩
      have eq1 : ((i : Int) + (j : Int)) / 2 = (q : Int) := by omega
      have hqi : i ≤ q := by omega
      have hqj : q < j := by omega
      have hqn : q < n := by omega
      clear hq
      obtain ⟨x, hx⟩ : ∃ x, x = f q := ⟨_, rfl⟩
      have hxn : x < n := by rw [hx]; exact HSM.out q hqn
      have c1 := hR.out.row.cell hqn
      have c2 := hR.out.row.cell hmn
      rw [← hx] at c1
      rw [← HY.out] at c2
      have hxq : decide ((0 : Int) ≤ (q : Int) ∧ (q : Int) < (n : Int)) = true := decide_eq_true ⟨by omega, by omega⟩
      have HXE := hid hx
      clear hx
      by_cases hk : key y < key x
      · have hcv := c3_lt hk
        have hcd : decide (c3 (key y) (key x) < 0) = true := decide_eq_true (by rw [hcv]; decide)
        have HB2 : Hid (∀ k, q ≤ k → k < m → rk key (f m) < rk key (f k)) := fun k h1 h3 => by
          have h4 : rk key (f m) < rk key (f q) := by rw [← HXE.out, ← HY.out]; exact rk_lt (by omega) hk
          rcases Nat.lt_or_ge q k with h5 | h5
          · exact Nat.lt_trans h4 (H1.out q k (by omega) h5 h3)
          · rw [show k = q by omega]; exact h4
        clear hcv hk hB
        go_wp2_with fail
        go_quiet ((go_at_call 34; exact Calls.quiet_of (HC.out _ (hR.out.kept.trans (Kept.drewN _ _ _)) y x hyn hxn)))
        have HR5 := hid (hR.out.drewN nq)
        clear c1 c2 hR
        generalize wr.drewN nq = w2 at HR5 ⊢
        go_wp2
        go_roundg (q - i)
        case measure => omega
        case rel => exact ⟨i, q, rfl, by first | rfl | go_num, by omega, by omega, by omega, by omega, HR5.out, hA.out, HB2.out⟩
      · have hcv := c3_ge (Nat.le_of_not_lt hk)
        have hcd : decide (c3 (key y) (key x) < 0) = false := decide_eq_false hcv
        have HA2 : Hid (∀ k, a ≤ k → k < q + 1 → rk key (f k) < rk key (f m)) := fun k h1 h3 => by
          have h4 : rk key (f q) < rk key (f m) := by
            refine rk_le (by rw [← HXE.out]; omega) (by rw [← HXE.out, ← HY.out]; exact hk) (fun e => HX.out q m (by omega) (by omega) (Nat.le_refl _) (by have := HM.out; omega) e)
          rcases Nat.lt_or_ge k q with h5 | h5
          · exact Nat.lt_trans (H1.out k q h1 h5 (by omega)) h4
          · rw [show k = q by omega]; exact h4
        clear hcv hk hA
        go_wp2_with fail
        go_quiet ((go_at_call 34; exact Calls.quiet_of (HC.out _ (hR.out.kept.trans (Kept.drewN _ _ _)) y x hyn hxn)))
        have HR5 := hid (hR.out.drewN nq)
        clear c1 c2 hR
        generalize wr.drewN nq = w2 at HR5 ⊢
        go_wp2
        go_roundg (j - (q + 1))
        case measure => omega
        case rel => exact ⟨q + 1, j, by go_num, rfl, by omega, by omega, hjb, by omega, HR5.out, HA2.out, hB.out⟩
    · obtain rfl : i = j := by omega
      have HEND : Hid (Srt key (mvL f i m) a b ∧ Same f (mvL f i m) a b) := by
        have hm := HM.out
        refine ⟨by rw [hm]; exact srt_mvL H1.out hmi hjb (fun k h1 h3 => hA.out k h1 h3) (fun k h1 h3 => hB.out k h1 h3), (same_mvL f i m hjb).wide hmi (by omega)⟩
      clear hA hB
      go_wp2
      go_loopw [17] (fun vk wr => ∃ k : Nat, vk = .int .i64 k ∧ i ≤ k ∧ k ≤ m ∧ Hid (RowAt w0 g n (mvL f k m) wr)) (fun vk _ => (intOf vk).toNat - i)
      case atStart => exact ⟨m, rfl, by omega, by omega, by rw [mvL_zero]; exact hR.out⟩
      case round =>
        clear hR
        obtain ⟨k, rfl, hak, hkp, hR⟩ := hrel
        by_cases hlt2 : i < k
        · obtain ⟨q, hq⟩ : ∃ q, k = q + 1 := ⟨k - 1, by omega⟩
          have e2 : (k : Int) - 1 = (q : Int) := by omega
          have hkn : k < n := by omega
          have hqn : q < n := by omega
          have hkq : k ≠ q := by omega
          have c1 := hR.out.row.cell hkn
          have c2 := hR.out.row.cell hqn
          have f1 := hR.out.row.frozen k
          have f2 := hR.out.row.frozen q
          have c3' : (wr.setCell ⟨g, k, none⟩ (.int .i64 (mvL f k m q : Int))).cell? ⟨g, q, none⟩ = some (.int .i64 (mvL f k m q : Int)) := by
            have h3 := (hR.out.row.set k (.int .i64 (mvL f k m q : Int))).cell hqn
            simpa [Ne.symm hkq] using h3
          have HS := hid (hR.out.swap k q hkq)
          have hsw : swp2 (mvL f k m) k q = mvL f q m := by rw [hq]; exact mvL_succ f q m (by omega)
          rw [hsw] at HS
          have hx1 : decide ((0 : Int) ≤ (k : Int) ∧ (k : Int) < (n : Int)) = true := decide_eq_true ⟨by omega, by omega⟩
          have hx2 : decide ((0 : Int) ≤ (q : Int) ∧ (q : Int) < (n : Int)) = true := decide_eq_true ⟨by omega, by omega⟩
          have hw1 : IntKind.i64.wrap (k : Int) = (k : Int) := by rw [IntKind.wrap_i64]; omega
          have hw2 : IntKind.i64.wrap (q : Int) = (q : Int) := by rw [IntKind.wrap_i64]; omega
          have haq : i ≤ q := by omega
          have hqp : q ≤ m := by omega
          have hkq2 : q < k := by omega
          clear hq hsw hR
          generalize (mvL f k m k : Nat) = x at c1 c3' HS
          generalize (mvL f k m q : Nat) = z at c2 c3' HS
          go_wp2_with fail
          go_big_region_o
          clear c1 c2 c3' f1 f2 hx1 hx2
          generalize ((wr.setCell ⟨g, k, none⟩ (.int .i64 (z : Int))).setCell ⟨g, q, none⟩ (.int .i64 (x : Int))).drew = w3 at HS ⊢
          go_wp2
          go_roundw
          case rel => exact ⟨q, by first | rfl | go_num, haq, hqp, HS.out⟩
          case measure => simp [intOf]; omega
        · obtain rfl : k = i := by omega
          go_wp2
          exact bodyPost_ret (v := .tuple #[]) (by simp [results, Try.results57, go_sem]) rfl ⟨rfl, _, hR.out, HEND.out.1, HEND.out.2⟩
end Go.Proofs.Ytmaadeeocppkfab
