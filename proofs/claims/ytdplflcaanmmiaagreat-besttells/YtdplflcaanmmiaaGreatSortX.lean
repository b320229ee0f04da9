/-
  The library's stable sort of numbers: symMergeCmpFunc. Blocks of a row that are sorted, two by two made one. No Go here. The library's stable sort of numbers: stableCmpFunc, SortStableFunc.
-/
import Derived.Test.YtdplflcaanmmiaaGreatSort
namespace Go.Proofs.YtdplflcaanmmiaaGreat
open Go.ChangeShapes Go.WideShapes Go.ChangeAt Go.RowKit

theorem rot_none {f : Nat → Nat} {s m e : Nat} (h : ¬ (s < m ∧ m < e)) (h1 : s ≤ m) (h2 : m ≤ e) : rot f s m e = f := by
  funext k
  unfold rot
  by_cases h3 : s ≤ k ∧ k < s + (e - m)
  · rw [if_pos h3]
    congr 1; omega
  · rw [if_neg h3]
    by_cases h4 : s + (e - m) ≤ k ∧ k < e
    · rw [if_pos h4]
      congr 1; omega
    · rw [if_neg h4]

theorem Cross.congr {key f g : Nat → Nat} {a m b : Nat} (h : Cross key f a m b) (he : ∀ k, a ≤ k → k < b → g k = f k) : Cross key g a m b := fun i j h1 h2 h3 h4 => by
  rw [he i h1 (by omega), he j (by omega) h4]
  exact h i j h1 h2 h3 h4

/-- What symMergeCmpFunc does, at blocks of at most s numbers. -/
def SymAt (w0 : World) (g n bx : Nat) (key : Nat → Nat) (s : Nat) : Prop :=
  ∀ (W : World) (f : Nat → Nat) (a m b : Nat), b - a ≤ s → RowAt w0 g n f W → a < m → m < b → b ≤ n → Small f n → Srt key f a m → Srt key f m b → Cross key f a m b →
    Calls Tryz.prog 129 #[.slice (some ⟨g, 0, none⟩) n n, .int .i64 (a : Int), .int .i64 (m : Int), .int .i64 (b : Int), cmpV bx] W fun e w' => e = .returned (.tuple #[]) ∧ ∃ f', RowAt w0 g n f' w' ∧ Srt key f' a b ∧ Same f f' a b

/-- Where the search begins and ends. -/
def LoOf (a m b mid lo r0 : Nat) : Prop := (m > mid ∧ lo = mid + m - b ∧ r0 = mid) ∨ (m ≤ mid ∧ lo = a ∧ r0 = m)

/-- What is known behind the turning. -/
structure Turned (key f : Nat → Nat) (a m b mid st fin n : Nat) : Prop where
  apart : ∀ i j, a ≤ i → i < mid → mid ≤ j → j < b → rk key (rot f st m fin i) < rk key (rot f st m fin j)
  s1 : Srt key (rot f st m fin) a st
  s2 : Srt key (rot f st m fin) st mid
  s3 : Srt key (rot f st m fin) mid fin
  s4 : Srt key (rot f st m fin) fin b
  x1 : Cross key (rot f st m fin) a st mid
  x2 : Cross key (rot f st m fin) mid fin b
  small : Small (rot f st m fin) n
  same : Same f (rot f st m fin) a b

theorem Turned.n1 {key f : Nat → Nat} {a m b mid st fin n : Nat} (t : Turned key f a m b mid st fin n) (h : ¬ (a < st ∧ st < mid)) (h1 : a ≤ st) (h2 : st ≤ mid) : Srt key (rot f st m fin) a mid := by
  rcases Nat.lt_or_ge a st with p | p
  · have e : mid = st := by omega
    have := t.s1
    rw [← e] at this
    rw [← e]
    exact this
  · have e : st = a := by omega
    have := t.s2
    rw [e] at this
    rw [e]
    exact this

theorem Turned.n2 {key f : Nat → Nat} {a m b mid st fin n : Nat} (t : Turned key f a m b mid st fin n) (h : ¬ (mid < fin ∧ fin < b)) (h1 : mid ≤ fin) (h2 : fin ≤ b) : Srt key (rot f st m fin) mid b := by
  rcases Nat.lt_or_ge mid fin with p | p
  · have e : fin = b := by omega
    have := t.s3
    rw [e] at this
    rw [e]
    exact this
  · have e : mid = fin := by omega
    have := t.s4
    rw [← e] at this
    rw [← e]
    exact this

theorem Cut.turned {key f : Nat → Nat} {a m b mid st fin n : Nat} (c : Cut key f a m b mid st fin) (h1 : Srt key f a m) (h2 : Srt key f m b) (hx : Cross key f a m b) (hs : Small f n) (hb : b ≤ n) : Turned key f a m b mid st fin n where
  apart := c.apart h1 h2
  s1 := (c.srt1 h1 h2).1
  s2 := (c.srt1 h1 h2).2.1
  s3 := (c.srt1 h1 h2).2.2.1
  s4 := (c.srt1 h1 h2).2.2.2
  x1 := (c.cross hx).1
  x2 := (c.cross hx).2
  small := hs.same (same_rot f st m fin c.sm c.me) (Nat.le_trans c.hi hb)
  same := (same_rot f st m fin c.sm c.me).wide c.lo c.hi

set_option maxRecDepth 20000 in
set_option maxHeartbeats 16000000 in
theorem sym_up {w0 W : World} {g n bx : Nat} {f key : Nat → Nat} (h : RowAt w0 g n f W) (hc : CmpAt w0 g n bx key) (a m b s mid : Nat) (hmid : mid = (a + b) / 2) (hmm : m > mid) (ham : a + 1 < m) (hmb : m + 1 < b) (hb : b ≤ n) (hn : n ≤ 1000000) (hbs : b - a ≤ s + 1) (ih : SymAt w0 g n bx key s) (hsm : Small f n) (h1 : Srt key f a m) (h2 : Srt key f m b) (hx : Cross key f a m b) :
    Calls Tryz.prog 129 #[.slice (some ⟨g, 0, none⟩) n n, .int .i64 (a : Int), .int .i64 (m : Int), .int .i64 (b : Int), cmpV bx] W fun e w' => e = .returned (.tuple #[]) ∧ ∃ f', RowAt w0 g n f' w' ∧ Srt key f' a b ∧ Same f f' a b := by
  have mixed : Tryz.prog.follows .mixedOrders = true := by kernel_rfl
  have HC := hid hc
  have H0 := hid h
  have IH := hid ih
  have HSM := hid hsm
  have H1 := hid h1
  have H2 := hid h2
  have HX := hid hx
  have HMID := hid hmid
  obtain ⟨d, hd⟩ : ∃ d, d = m - a := ⟨_, rfl⟩
  have ema : (m : Int) - (a : Int) = (d : Int) := by omega
  have hd1 : ¬ (d = 1) := by omega
  have hd2 : ¬ ((d : Int) = 1) := by omega
  obtain ⟨d', hd'⟩ : ∃ d, d = b - m := ⟨_, rfl⟩
  have ebm : (b : Int) - (m : Int) = (d' : Int) := by omega
  have hd3 : ¬ (d' = 1) := by omega
  have hd4 : ¬ ((d' : Int) = 1) := by omega
  have emid : ((a : Int) + (b : Int)) / 2 = (mid : Int) := by omega
  obtain ⟨nn, hnn⟩ : ∃ q, q = mid + m := ⟨_, rfl⟩
  have enn : (mid : Int) + (m : Int) = (nn : Int) := by omega
  obtain ⟨pp, hpp⟩ : ∃ q, q = mid + m - 1 := ⟨_, rfl⟩
  have epp : (nn : Int) - 1 = (pp : Int) := by omega
  have hma : a < mid := by omega
  have hmb2 : mid < b := by omega
  have HNN := hid hnn
  have HPP := hid hpp
  have hnnb : nn ≤ 2000000 := by omega
  have hppb : pp ≤ 2000000 := by omega
  obtain ⟨lo, hlo1⟩ : ∃ q, q = mid + m - b := ⟨_, rfl⟩
  have elo : (nn : Int) - (b : Int) = (lo : Int) := by omega
  have hlo : (m > mid ∧ lo = mid + m - b ∧ mid = mid) ∨ (m ≤ mid ∧ lo = a ∧ mid = m) := .inl ⟨hmm, hlo1, rfl⟩
  clear hlo1
  have HLO : Hid (LoOf a m b mid lo mid) := hlo
  have HRNG : Hid (∀ q, lo ≤ q → q < mid → a ≤ q ∧ q < m ∧ m ≤ pp - q ∧ pp - q < b ∧ q ≤ pp) := fun q p1 p2 => by rcases hlo with ⟨e1, e2, e3⟩ | ⟨e1, e2, e3⟩ <;> refine ⟨by omega, by omega, by omega, by omega, by omega⟩
  have hlr : lo ≤ mid := by rcases hlo with ⟨e1, e2, e3⟩ | ⟨e1, e2, e3⟩ <;> omega
  have hr0 : mid ≤ n := by rcases hlo with ⟨e1, e2, e3⟩ | ⟨e1, e2, e3⟩ <;> omega
  clear hc h ih hsm h1 h2 hx hd hd' hnn hpp hmid hlo
  unfold cmpV
  go_enter Tryz.func129, Tryz.ntmps129
  go_wp2
  go_loopg [20, 21] n (fun g1 vi vj wr => ∃ i j : Nat, vi = .int .i64 i ∧ vj = .int .i64 j ∧ lo ≤ i ∧ i ≤ j ∧ j ≤ mid ∧ j - i ≤ g1 ∧ Hid (RowAt w0 g n f wr) ∧ Hid (lo < i → rk key (f (i - 1)) < rk key (f (mid + m - i))) ∧ Hid (j < mid → rk key (f (mid + m - 1 - j)) < rk key (f j)))
  case atStart => exact ⟨lo, mid, rfl, rfl, by omega, by omega, by omega, by omega, H0.out, (fun h => by omega), (fun h => by omega)⟩
  case round =>
    obtain ⟨i, j, rfl, rfl, hmi, hij, hjb, hg, hR, hA, hB⟩ := hrel
    by_cases hlt : i < j
    · obtain ⟨q, hq⟩ : ∃ q, q = (i + j) / 2 := ⟨_, rfl⟩
      have eq1 : ((i : Int) + (j : Int)) / 2 = (q : Int) := by omega
      have hqi : i ≤ q := by omega
      have hqj : q < j := by omega
      obtain ⟨g1, g2, g3, g4, g5⟩ := HRNG.out q (by omega) (by omega)
      have hqn : q < n := by omega
      obtain ⟨t, ht⟩ : ∃ t, t = pp - q := ⟨_, rfl⟩
      have et : (pp : Int) - (q : Int) = (t : Int) := by omega
      have htn : t < n := by omega
      have htm : m ≤ t := by omega
      have htb : t < b := by omega
      have HT : Hid (t = mid + m - 1 - q) := by have := HPP.out; show _ = _; omega
      have HQM : Hid (a ≤ q ∧ q < m) := ⟨g1, g2⟩
      clear hq ht g1 g2 g3 g4 g5
      obtain ⟨x, hx⟩ : ∃ x, x = f q := ⟨_, rfl⟩
      have hxn : x < n := by rw [hx]; exact HSM.out q hqn
      obtain ⟨y, hy⟩ : ∃ x, x = f t := ⟨_, rfl⟩
      have hyn : y < n := by rw [hy]; exact HSM.out t htn
      have c1 := hR.out.row.cell hqn
      have c2 := hR.out.row.cell htn
      rw [← hx] at c1
      rw [← hy] at c2
      have hxq : decide ((0 : Int) ≤ (q : Int) ∧ (q : Int) < (n : Int)) = true := decide_eq_true ⟨by omega, by omega⟩
      have hxt : decide ((0 : Int) ≤ (t : Int) ∧ (t : Int) < (n : Int)) = true := decide_eq_true ⟨by omega, by omega⟩
      have hwq : IntKind.i64.wrap (q : Int) = (q : Int) := by rw [IntKind.wrap_i64]; omega
      have hwt : IntKind.i64.wrap (t : Int) = (t : Int) := by rw [IntKind.wrap_i64]; omega
      have HXE := hid hx
      have HYE := hid hy
      clear hx hy
      by_cases hk : key y < key x
      · have hcv := c3_lt hk
        have hcd : decide (c3 (key y) (key x) < 0) = true := decide_eq_true (by rw [hcv]; decide)
        have HB2 : Hid (q < mid → rk key (f (mid + m - 1 - q)) < rk key (f q)) := fun _ => by
          rw [← HT.out, ← HXE.out, ← HYE.out]; exact rk_lt (by omega) hk
        clear hcv hk hB
        go_wp2_with fail
        go_quiet ((go_at_call 104; exact Calls.quiet_of (HC.out _ (hR.out.kept.trans (Kept.drewN _ _ _)) y x hyn hxn)))
        have HR5 := hid (hR.out.drewN nq)
        clear c1 c2 hR
        generalize wr.drewN nq = w2 at HR5 ⊢
        go_wp2
        go_roundg (q - i)
        case measure => omega
        case rel => exact ⟨i, q, rfl, by first | rfl | go_num, by omega, by omega, by omega, by omega, HR5.out, hA.out, HB2.out⟩
      · have hcv := c3_ge (Nat.le_of_not_lt hk)
        have hcd : decide (c3 (key y) (key x) < 0) = false := decide_eq_false hcv
        have HA2 : Hid (lo < q + 1 → rk key (f (q + 1 - 1)) < rk key (f (mid + m - (q + 1)))) := fun _ => by
          have ht := HT.out
          rw [show q + 1 - 1 = q by omega, show mid + m - (q + 1) = t by omega]
          exact rk_le (by rw [← HXE.out]; omega) (by rw [← HXE.out, ← HYE.out]; exact hk) (fun e => HX.out q t HQM.out.1 HQM.out.2 htm htb e)
        clear hcv hk hA
        go_wp2_with fail
        go_quiet ((go_at_call 104; exact Calls.quiet_of (HC.out _ (hR.out.kept.trans (Kept.drewN _ _ _)) y x hyn hxn)))
        have HR5 := hid (hR.out.drewN nq)
        clear c1 c2 hR
        generalize wr.drewN nq = w2 at HR5 ⊢
        go_wp2
        go_roundg (j - (q + 1))
        case measure => omega
        case rel => exact ⟨q + 1, j, by go_num, rfl, by omega, by omega, hjb, by omega, HR5.out, HA2.out, hB.out⟩
    · obtain rfl : i = j := by omega
      have hcut := cut_found HMID.out (by omega) (by omega) HLO.out H1.out H2.out hmi hjb hA.out hB.out
      obtain ⟨fin, hfin⟩ : ∃ q, q = mid + m - i := ⟨_, rfl⟩
      rw [← hfin] at hcut
      have k1 := hcut.len
      have k2 := hcut.lo
      have k3 := hcut.sm
      have k4 := hcut.me
      have k5 := hcut.hi
      have k6 := hcut.smid
      have TT := hid (hcut.turned H1.out H2.out HX.out HSM.out hb)
      have efin : (nn : Int) - (i : Int) = (fin : Int) := by have := HNN.out; omega
      clear hA hB hfin hcut H1 H2 HX HSM HLO HRNG H0 HMID hlt emid enn epp hmi hjb hg
      by_cases A1 : i < m <;> by_cases A2 : m < fin <;> by_cases B1 : a < i <;> by_cases C2 : fin < b <;>
        (first | have B2 : i < mid := by omega | have B2 : ¬ (i < mid) := by omega) <;>
        (first | have C1 : mid < fin := by omega | have C1 : ¬ (mid < fin) := by omega) <;>
        (first | have hA : i < m ∧ m < fin := ⟨A1, A2⟩ | have hnA : ¬ (i < m ∧ m < fin) := by omega) <;>
        (first | have hB : a < i ∧ i < mid := ⟨B1, B2⟩ | have hnB : ¬ (a < i ∧ i < mid) := by omega) <;>
        (first | have hC : mid < fin ∧ fin < b := ⟨C1, C2⟩ | have hnC : ¬ (mid < fin ∧ fin < b) := by omega) <;>
        (first | have HR1 : Hid (RowAt w0 g n (rot f i m fin) wr) := (by show RowAt _ _ _ _ _; rw [rot_none hnA k3 k4]; exact hR.out) | skip) <;>
        (first | have TN1 := hid (TT.out.n1 hnB k2 k6) | skip) <;>
        (first | have TN2 := hid (TT.out.n2 hnC (by omega) k5) | skip) <;>
        clear k1 k6
      all_goals go_wp2_with (first
        | (go_at_call 136; refine (rotate_any hR.out i m fin A1 A2 (by omega) hn _).mono ?_; rintro e w5 ⟨rfl, hr⟩; have HR1 := hid hr; clear hr)
        | (have _h := HR2; go_at_call 129; refine (IH.out _ f2 mid fin b (by omega) HR2.out C1 C2 hb (TT.out.small.same S1.out (by omega)) (TT.out.s3.congr (fun k q1 _ => S1.out.out k (.inr q1))) (TT.out.s4.congr (fun k q1 _ => S1.out.out k (.inr (by omega)))) (TT.out.x2.congr (fun k q1 _ => S1.out.out k (.inr q1)))).mono ?_; rintro e w7 ⟨rfl, f3, hr3, ht3, hs3⟩; have HR3 := hid hr3; have T3 := hid ht3; have S3 := hid hs3; clear hr3 ht3 hs3)
        | (have _h := hnB; go_at_call 129; refine (IH.out _ (rot f i m fin) mid fin b (by omega) HR1.out C1 C2 hb TT.out.small TT.out.s3 TT.out.s4 TT.out.x2).mono ?_; rintro e w7 ⟨rfl, f3, hr3, ht3, hs3⟩; have HR3 := hid hr3; have T3 := hid ht3; have S3 := hid hs3; clear hr3 ht3 hs3)
        | (go_at_call 129; refine (IH.out _ (rot f i m fin) a i mid (by omega) HR1.out B1 B2 (by omega) TT.out.small TT.out.s1 TT.out.s2 TT.out.x1).mono ?_; rintro e w6 ⟨rfl, f2, hr2, ht2, hs2⟩; have HR2 := hid hr2; have T1 := hid ht2; have S1 := hid hs2; clear hr2 ht2 hs2))
      all_goals first
        | (have J := srt_join (by omega) (by omega) TT.out.apart S1.out T1.out S3.out T3.out; exact bodyPost_end (v := .tuple #[]) (by simp [results, Tryz.results129, go_sem]) rfl ⟨rfl, _, HR3.out, J.1, TT.out.same.trans J.2⟩)
        | (have J := srt_join (by omega) (by omega) TT.out.apart S1.out T1.out (Same.refl _ _ _) (TN2.out.congr (fun k q1 _ => S1.out.out k (.inr q1))); exact bodyPost_end (v := .tuple #[]) (by simp [results, Tryz.results129, go_sem]) rfl ⟨rfl, _, HR2.out, J.1, TT.out.same.trans J.2⟩)
        | (have J := srt_join (by omega) (by omega) TT.out.apart (Same.refl _ _ _) TN1.out S3.out T3.out; exact bodyPost_end (v := .tuple #[]) (by simp [results, Tryz.results129, go_sem]) rfl ⟨rfl, _, HR3.out, J.1, TT.out.same.trans J.2⟩)
        | (have J := srt_join (by omega) (by omega) TT.out.apart (Same.refl _ _ _) TN1.out (Same.refl _ _ _) TN2.out; exact bodyPost_end (v := .tuple #[]) (by simp [results, Tryz.results129, go_sem]) rfl ⟨rfl, _, HR1.out, J.1, TT.out.same.trans J.2⟩)

set_option maxRecDepth 20000 in
set_option maxHeartbeats 16000000 in
theorem sym_down {w0 W : World} {g n bx : Nat} {f key : Nat → Nat} (h : RowAt w0 g n f W) (hc : CmpAt w0 g n bx key) (a m b s mid : Nat) (hmid : mid = (a + b) / 2) (hmm : m ≤ mid) (ham : a + 1 < m) (hmb : m + 1 < b) (hb : b ≤ n) (hn : n ≤ 1000000) (hbs : b - a ≤ s + 1) (ih : SymAt w0 g n bx key s) (hsm : Small f n) (h1 : Srt key f a m) (h2 : Srt key f m b) (hx : Cross key f a m b) :
    Calls Tryz.prog 129 #[.slice (some ⟨g, 0, none⟩) n n, .int .i64 (a : Int), .int .i64 (m : Int), .int .i64 (b : Int), cmpV bx] W fun e w' => e = .returned (.tuple #[]) ∧ ∃ f', RowAt w0 g n f' w' ∧ Srt key f' a b ∧ Same f f' a b := by
  have mixed : Tryz.prog.follows .mixedOrders = true := by kernel_rfl
  have HC := hid hc
  have H0 := hid h
  have IH := hid ih
  have HSM := hid hsm
  have H1 := hid h1
  have H2 := hid h2
  have HX := hid hx
  have HMID := hid hmid
  obtain ⟨d, hd⟩ : ∃ d, d = m - a := ⟨_, rfl⟩
  have ema : (m : Int) - (a : Int) = (d : Int) := by omega
  have hd1 : ¬ (d = 1) := by omega
  have hd2 : ¬ ((d : Int) = 1) := by omega
  obtain ⟨d', hd'⟩ : ∃ d, d = b - m := ⟨_, rfl⟩
  have ebm : (b : Int) - (m : Int) = (d' : Int) := by omega
  have hd3 : ¬ (d' = 1) := by omega
  have hd4 : ¬ ((d' : Int) = 1) := by omega
  have emid : ((a : Int) + (b : Int)) / 2 = (mid : Int) := by omega
  obtain ⟨nn, hnn⟩ : ∃ q, q = mid + m := ⟨_, rfl⟩
  have enn : (mid : Int) + (m : Int) = (nn : Int) := by omega
  obtain ⟨pp, hpp⟩ : ∃ q, q = mid + m - 1 := ⟨_, rfl⟩
  have epp : (nn : Int) - 1 = (pp : Int) := by omega
  have hma : a < mid := by omega
  have hmb2 : mid < b := by omega
  have HNN := hid hnn
  have HPP := hid hpp
  have hnnb : nn ≤ 2000000 := by omega
  have hppb : pp ≤ 2000000 := by omega
  have hlo : (m > mid ∧ a = mid + m - b ∧ m = mid) ∨ (m ≤ mid ∧ a = a ∧ m = m) := .inr ⟨hmm, rfl, rfl⟩
  have HLO : Hid (LoOf a m b mid a m) := hlo
  have HRNG : Hid (∀ q, a ≤ q → q < m → a ≤ q ∧ q < m ∧ m ≤ pp - q ∧ pp - q < b ∧ q ≤ pp) := fun q p1 p2 => by rcases hlo with ⟨e1, e2, e3⟩ | ⟨e1, e2, e3⟩ <;> refine ⟨by omega, by omega, by omega, by omega, by omega⟩
  have hlr : a ≤ m := by rcases hlo with ⟨e1, e2, e3⟩ | ⟨e1, e2, e3⟩ <;> omega
  have hr0 : m ≤ n := by rcases hlo with ⟨e1, e2, e3⟩ | ⟨e1, e2, e3⟩ <;> omega
  clear hc h ih hsm h1 h2 hx hd hd' hnn hpp hmid hlo
  unfold cmpV
  go_enter Tryz.func129, Tryz.ntmps129
  go_wp2
  go_loopg [20, 21] n (fun g1 vi vj wr => ∃ i j : Nat, vi = .int .i64 i ∧ vj = .int .i64 j ∧ a ≤ i ∧ i ≤ j ∧ j ≤ m ∧ j - i ≤ g1 ∧ Hid (RowAt w0 g n f wr) ∧ Hid (a < i → rk key (f (i - 1)) < rk key (f (mid + m - i))) ∧ Hid (j < m → rk key (f (mid + m - 1 - j)) < rk key (f j)))
  case atStart => exact ⟨a, m, rfl, rfl, by omega, by omega, by omega, by omega, H0.out, (fun h => by omega), (fun h => by omega)⟩
  case round =>
    obtain ⟨i, j, rfl, rfl, hmi, hij, hjb, hg, hR, hA, hB⟩ := hrel
    by_cases hlt : i < j
    · obtain ⟨q, hq⟩ : ∃ q, q = (i + j) / 2 := ⟨_, rfl⟩
      have eq1 : ((i : Int) + (j : Int)) / 2 = (q : Int) := by omega
      have hqi : i ≤ q := by omega
      have hqj : q < j := by omega
      obtain ⟨g1, g2, g3, g4, g5⟩ := HRNG.out q (by omega) (by omega)
      have hqn : q < n := by omega
      obtain ⟨t, ht⟩ : ∃ t, t = pp - q := ⟨_, rfl⟩
      have et : (pp : Int) - (q : Int) = (t : Int) := by omega
      have htn : t < n := by omega
      have htm : m ≤ t := by omega
      have htb : t < b := by omega
      have HT : Hid (t = mid + m - 1 - q) := by have := HPP.out; show _ = _; omega
      have HQM : Hid (a ≤ q ∧ q < m) := ⟨g1, g2⟩
      clear hq ht g1 g2 g3 g4 g5
      obtain ⟨x, hx⟩ : ∃ x, x = f q := ⟨_, rfl⟩
      have hxn : x < n := by rw [hx]; exact HSM.out q hqn
      obtain ⟨y, hy⟩ : ∃ x, x = f t := ⟨_, rfl⟩
      have hyn : y < n := by rw [hy]; exact HSM.out t htn
      have c1 := hR.out.row.cell hqn
      have c2 := hR.out.row.cell htn
      rw [← hx] at c1
      rw [← hy] at c2
      have hxq : decide ((0 : Int) ≤ (q : Int) ∧ (q : Int) < (n : Int)) = true := decide_eq_true ⟨by omega, by omega⟩
      have hxt : decide ((0 : Int) ≤ (t : Int) ∧ (t : Int) < (n : Int)) = true := decide_eq_true ⟨by omega, by omega⟩
      have hwq : IntKind.i64.wrap (q : Int) = (q : Int) := by rw [IntKind.wrap_i64]; omega
      have hwt : IntKind.i64.wrap (t : Int) = (t : Int) := by rw [IntKind.wrap_i64]; omega
      have HXE := hid hx
      have HYE := hid hy
      clear hx hy
      by_cases hk : key y < key x
      · have hcv := c3_lt hk
        have hcd : decide (c3 (key y) (key x) < 0) = true := decide_eq_true (by rw [hcv]; decide)
        have HB2 : Hid (q < m → rk key (f (mid + m - 1 - q)) < rk key (f q)) := fun _ => by
          rw [← HT.out, ← HXE.out, ← HYE.out]; exact rk_lt (by omega) hk
        clear hcv hk hB
        go_wp2_with fail
        go_quiet ((go_at_call 104; exact Calls.quiet_of (HC.out _ (hR.out.kept.trans (Kept.drewN _ _ _)) y x hyn hxn)))
        have HR5 := hid (hR.out.drewN nq)
        clear c1 c2 hR
        generalize wr.drewN nq = w2 at HR5 ⊢
        go_wp2
        go_roundg (q - i)
        case measure => omega
        case rel => exact ⟨i, q, rfl, by first | rfl | go_num, by omega, by omega, by omega, by omega, HR5.out, hA.out, HB2.out⟩
      · have hcv := c3_ge (Nat.le_of_not_lt hk)
        have hcd : decide (c3 (key y) (key x) < 0) = false := decide_eq_false hcv
        have HA2 : Hid (a < q + 1 → rk key (f (q + 1 - 1)) < rk key (f (mid + m - (q + 1)))) := fun _ => by
          have ht := HT.out
          rw [show q + 1 - 1 = q by omega, show mid + m - (q + 1) = t by omega]
          exact rk_le (by rw [← HXE.out]; omega) (by rw [← HXE.out, ← HYE.out]; exact hk) (fun e => HX.out q t HQM.out.1 HQM.out.2 htm htb e)
        clear hcv hk hA
        go_wp2_with fail
        go_quiet ((go_at_call 104; exact Calls.quiet_of (HC.out _ (hR.out.kept.trans (Kept.drewN _ _ _)) y x hyn hxn)))
        have HR5 := hid (hR.out.drewN nq)
        clear c1 c2 hR
        generalize wr.drewN nq = w2 at HR5 ⊢
        go_wp2
        go_roundg (j - (q + 1))
        case measure => omega
        case rel => exact ⟨q + 1, j, by go_num, rfl, by omega, by omega, hjb, by omega, HR5.out, HA2.out, hB.out⟩
    · obtain rfl : i = j := by omega
      have hcut := cut_found HMID.out (by omega) (by omega) HLO.out H1.out H2.out hmi hjb hA.out hB.out
      obtain ⟨fin, hfin⟩ : ∃ q, q = mid + m - i := ⟨_, rfl⟩
      rw [← hfin] at hcut
      have k1 := hcut.len
      have k2 := hcut.lo
      have k3 := hcut.sm
      have k4 := hcut.me
      have k5 := hcut.hi
      have k6 := hcut.smid
      have TT := hid (hcut.turned H1.out H2.out HX.out HSM.out hb)
      have efin : (nn : Int) - (i : Int) = (fin : Int) := by have := HNN.out; omega
      clear hA hB hfin hcut H1 H2 HX HSM HLO HRNG H0 HMID hlt emid enn epp hmi hjb hg
      by_cases A1 : i < m <;> by_cases A2 : m < fin <;> by_cases B1 : a < i <;> by_cases C2 : fin < b <;>
        (first | have B2 : i < mid := by omega | have B2 : ¬ (i < mid) := by omega) <;>
        (first | have C1 : mid < fin := by omega | have C1 : ¬ (mid < fin) := by omega) <;>
        (first | have hA : i < m ∧ m < fin := ⟨A1, A2⟩ | have hnA : ¬ (i < m ∧ m < fin) := by omega) <;>
        (first | have hB : a < i ∧ i < mid := ⟨B1, B2⟩ | have hnB : ¬ (a < i ∧ i < mid) := by omega) <;>
        (first | have hC : mid < fin ∧ fin < b := ⟨C1, C2⟩ | have hnC : ¬ (mid < fin ∧ fin < b) := by omega) <;>
        (first | have HR1 : Hid (RowAt w0 g n (rot f i m fin) wr) := (by show RowAt _ _ _ _ _; rw [rot_none hnA k3 k4]; exact hR.out) | skip) <;>
        (first | have TN1 := hid (TT.out.n1 hnB k2 k6) | skip) <;>
        (first | have TN2 := hid (TT.out.n2 hnC (by omega) k5) | skip) <;>
        clear k1 k6
      all_goals go_wp2_with (first
        | (go_at_call 136; refine (rotate_any hR.out i m fin A1 A2 (by omega) hn _).mono ?_; rintro e w5 ⟨rfl, hr⟩; have HR1 := hid hr; clear hr)
        | (have _h := HR2; go_at_call 129; refine (IH.out _ f2 mid fin b (by omega) HR2.out C1 C2 hb (TT.out.small.same S1.out (by omega)) (TT.out.s3.congr (fun k q1 _ => S1.out.out k (.inr q1))) (TT.out.s4.congr (fun k q1 _ => S1.out.out k (.inr (by omega)))) (TT.out.x2.congr (fun k q1 _ => S1.out.out k (.inr q1)))).mono ?_; rintro e w7 ⟨rfl, f3, hr3, ht3, hs3⟩; have HR3 := hid hr3; have T3 := hid ht3; have S3 := hid hs3; clear hr3 ht3 hs3)
        | (have _h := hnB; go_at_call 129; refine (IH.out _ (rot f i m fin) mid fin b (by omega) HR1.out C1 C2 hb TT.out.small TT.out.s3 TT.out.s4 TT.out.x2).mono ?_; rintro e w7 ⟨rfl, f3, hr3, ht3, hs3⟩; have HR3 := hid hr3; have T3 := hid ht3; have S3 := hid hs3; clear hr3 ht3 hs3)
        | (go_at_call 129; refine (IH.out _ (rot f i m fin) a i mid (by omega) HR1.out B1 B2 (by omega) TT.out.small TT.out.s1 TT.out.s2 TT.out.x1).mono ?_; rintro e w6 ⟨rfl, f2, hr2, ht2, hs2⟩; have HR2 := hid hr2; have T1 := hid ht2; have S1 := hid hs2; clear hr2 ht2 hs2))
      all_goals first
        | (have J := srt_join (by omega) (by omega) TT.out.apart S1.out T1.out S3.out T3.out; exact bodyPost_end (v := .tuple #[]) (by simp [results, Tryz.results129, go_sem]) rfl ⟨rfl, _, HR3.out, J.1, TT.out.same.trans J.2⟩)
        | (have J := srt_join (by omega) (by omega) TT.out.apart S1.out T1.out (Same.refl _ _ _) (TN2.out.congr (fun k q1 _ => S1.out.out k (.inr q1))); exact bodyPost_end (v := .tuple #[]) (by simp [results, Tryz.results129, go_sem]) rfl ⟨rfl, _, HR2.out, J.1, TT.out.same.trans J.2⟩)
        | (have J := srt_join (by omega) (by omega) TT.out.apart (Same.refl _ _ _) TN1.out S3.out T3.out; exact bodyPost_end (v := .tuple #[]) (by simp [results, Tryz.results129, go_sem]) rfl ⟨rfl, _, HR3.out, J.1, TT.out.same.trans J.2⟩)
        | (have J := srt_join (by omega) (by omega) TT.out.apart (Same.refl _ _ _) TN1.out (Same.refl _ _ _) TN2.out; exact bodyPost_end (v := .tuple #[]) (by simp [results, Tryz.results129, go_sem]) rfl ⟨rfl, _, HR1.out, J.1, TT.out.same.trans J.2⟩)

theorem sym_any {w0 : World} {g n bx : Nat} {key : Nat → Nat} (hc : CmpAt w0 g n bx key) (hn : n ≤ 1000000) (s : Nat) : SymAt w0 g n bx key s := by
  induction s with
  | zero => intro W f a m b hs hR h1 h2; omega
  | succ s ih =>
    intro W f a m b hs hR ham hmb hb hsm h1 h2 hx
    by_cases e1 : m = a + 1
    · exact sym_left hR hc a m b e1 hmb hb hn hsm h2 hx
    · by_cases e2 : b = m + 1
      · exact sym_right hR hc a m b (by omega) e2 hb hn hsm h1 hx
      · by_cases e3 : m > (a + b) / 2
        · exact sym_up hR hc a m b s _ rfl e3 (by omega) (by omega) hb hn hs ih hsm h1 h2 hx
        · exact sym_down hR hc a m b s _ rfl (by omega) (by omega) (by omega) hb hn hs ih hsm h1 h2 hx
end Go.Proofs.YtdplflcaanmmiaaGreat

namespace Go.Proofs.YtdplflcaanmmiaaGreat

/-- The block from A on, of s places (or fewer, at the end of the row), is sorted, and has its own numbers. -/
structure Bk (key f : Nat → Nat) (n A s : Nat) : Prop where
  srt : Srt key f A (min (A + s) n)
  own : ∀ k, A ≤ k → k < A + s → k < n → A ≤ f k ∧ f k < A + s ∧ f k < n

theorem Bk.same {key f g : Nat → Nat} {n A s a b : Nat} (h : Bk key f n A s) (hs : Same f g a b) (ho : A + s ≤ a ∨ b ≤ A) : Bk key g n A s where
  srt := h.srt.congr (fun k h1 h2 => hs.out k (by omega))
  own := fun k h1 h2 h3 => by rw [hs.out k (by omega)]; exact h.own k h1 h2 h3

theorem Bk.cross {key f : Nat → Nat} {n A s : Nat} (h1 : Bk key f n A s) (h2 : Bk key f n (A + s) s) (e : Nat) (he : e ≤ A + s + s) (hn : e ≤ n) : Cross key f A (A + s) e := fun i j p1 p2 p3 p4 _ => by
  have q1 := h1.own i p1 p2 (by omega)
  have q2 := h2.own j p3 (by omega) (by omega)
  omega

theorem Bk.merge {key f g : Nat → Nat} {n A s e : Nat} (h1 : Bk key f n A s) (h2 : Bk key f n (A + s) s) (he : e = min (A + 2 * s) n) (hs : Same f g A e) (ht : Srt key g A e) : Bk key g n A (2 * s) where
  srt := by rw [← he]; exact ht
  own := fun k p1 p2 p3 => by
    obtain ⟨k', a1, b1, e1⟩ := hs.back k p1 (by omega)
    rw [e1]
    rcases Nat.lt_or_ge k' (A + s) with q | q
    · have := h1.own k' a1 q (by omega); omega
    · have := h2.own k' q (by omega) (by omega); omega

theorem Bk.alone {key f : Nat → Nat} {n A s : Nat} (h : Bk key f n A s) (hn : n ≤ A + s) : Bk key f n A (2 * s) where
  srt := by have := h.srt; rw [show min (A + 2 * s) n = min (A + s) n by omega]; exact this
  own := fun k p1 p2 p3 => by have := h.own k p1 (by omega) p3; omega

theorem small_of_same {f : Nat → Nat} {n : Nat} (h : Same (fun k => k) f 0 n) : Small f n := fun k hk => by
  obtain ⟨k', _, b1, e1⟩ := h.back k (Nat.zero_le _) hk
  rw [e1]; exact b1

/-- A block whose numbers are their own places, sorted. -/
theorem Bk.first {key f g : Nat → Nat} {n A s e : Nat} (he : e = min (A + s) n) (hid : ∀ k, A ≤ k → k < e → f k = k) (hs : Same f g A e) (ht : Srt key g A e) : Bk key g n A s where
  srt := by rw [← he]; exact ht
  own := fun k p1 p2 p3 => by
    obtain ⟨k', a1, b1, e1⟩ := hs.back k p1 (by omega)
    rw [e1, hid k' a1 b1]
    omega

/-- Blocks of s places, all from place a on. -/
def BksFrom (key f : Nat → Nat) (n s a : Nat) : Prop := ∀ p, a ≤ p * s → p * s < n → Bk key f n (p * s) s
/-- The first q blocks of s places. -/
def BksTo (key f : Nat → Nat) (n s q : Nat) : Prop := ∀ p, p < q → Bk key f n (p * s) s

theorem two_mul_blk (q s : Nat) : (2 * q) * s = q * (2 * s) ∧ (2 * q + 1) * s = q * (2 * s) + s ∧ (q + 1) * (2 * s) = q * (2 * s) + 2 * s := by
  have e1 : (2 * q) * s = q * (2 * s) := by rw [Nat.mul_comm 2 q, Nat.mul_assoc]
  exact ⟨e1, by rw [Nat.add_mul, e1, Nat.one_mul], by rw [Nat.add_mul, Nat.one_mul]⟩

/-- Two blocks at q * (2 * s). -/
theorem BksFrom.pair {key f : Nat → Nat} {n s q : Nat} (h : BksFrom key f n s (q * (2 * s))) : (q * (2 * s) < n → Bk key f n (q * (2 * s)) s) ∧ (q * (2 * s) + s < n → Bk key f n (q * (2 * s) + s) s) := by
  obtain ⟨e1, e2, _⟩ := two_mul_blk q s
  refine ⟨fun hn => ?_, fun hn => ?_⟩
  · have := h (2 * q) (by omega) (by omega)
    rw [e1] at this; exact this
  · have := h (2 * q + 1) (by omega) (by omega)
    rw [e2] at this; exact this

theorem BksTo.step {key f g : Nat → Nat} {n s q b : Nat} (h : BksTo key f n s q) (hs : Same f g (q * s) b) (hb : Bk key g n (q * s) s) : BksTo key g n s (q + 1) := fun p hp => by
  rcases Nat.lt_or_ge p q with h1 | h1
  · refine (h p h1).same hs (.inl ?_)
    have := Nat.mul_le_mul_right s (show p + 1 ≤ q by omega)
    rw [Nat.add_mul, Nat.one_mul] at this
    exact this
  · rw [show p = q by omega]; exact hb

theorem BksFrom.step {key f g : Nat → Nat} {n s a c b : Nat} (h : BksFrom key f n s a) (hs : Same f g a b) (hab : a ≤ c) (hb : b ≤ c) : BksFrom key g n s c := fun p h1 h2 => (h p (by omega) h2).same hs (.inr (by omega))

/-- All blocks. -/
theorem BksTo.all {key f : Nat → Nat} {n s q : Nat} (h : BksTo key f n s q) (hq : n ≤ q * s) : BksFrom key f n s 0 := fun p _ h2 => h p (by
  rcases Nat.lt_or_ge p q with h1 | h1
  · exact h1
  · have := Nat.mul_le_mul_right s h1; omega)

theorem BksFrom.whole {key f : Nat → Nat} {n s : Nat} (h : BksFrom key f n s 0) (hn : n ≤ s) : Srt key f 0 n := by
  rcases Nat.eq_zero_or_pos n with h0 | h0
  · intro i j _ _ h3; omega
  · have := (h 0 (by omega) (by omega)).srt
    rw [Nat.zero_mul, Nat.zero_add, Nat.min_eq_right hn] at this
    exact this
end Go.Proofs.YtdplflcaanmmiaaGreat

namespace Go.Proofs.YtdplflcaanmmiaaGreat
open Go.ChangeShapes Go.WideShapes Go.ChangeAt Go.RowKit

set_option maxRecDepth 20000 in
set_option maxHeartbeats 8000000 in
theorem stable_any {w0 W : World} {g n bx : Nat} {key : Nat → Nat} (h : RowAt w0 g n (fun k => k) W) (hc : CmpAt w0 g n bx key) (hn : n ≤ 1000000) :
    Calls Tryz.prog 119 #[.slice (some ⟨g, 0, none⟩) n n, .int .i64 (n : Int), cmpV bx] W fun e w' => e = .returned (.tuple #[]) ∧ ∃ f', RowAt w0 g n f' w' ∧ Srt key f' 0 n ∧ Same (fun k => k) f' 0 n := by
  have HC := hid hc
  have H0 := hid h
  clear hc h
  unfold cmpV
  go_enter Tryz.func119, Tryz.ntmps119
  go_wp2
  go_loopw [7, 8] (fun va vb wr => ∃ (q a b : Nat) (f' : Nat → Nat), va = .int .i64 a ∧ vb = .int .i64 b ∧ b ≤ a + 20 ∧ a + 20 ≤ b ∧ a ≤ n ∧ Hid (a = q * 20) ∧ Hid (RowAt w0 g n f' wr) ∧ Hid (BksTo key f' n 20 q) ∧ Hid (∀ k, a ≤ k → f' k = k) ∧ Hid (Same (fun k => k) f' 0 n)) (fun _ vb _ => n + 20 - (intOf vb).toNat)
  case atStart => exact ⟨0, 0, 20, fun k => k, rfl, rfl, by omega, by omega, by omega, (by show (0 : Nat) = 0 * 20; omega), H0.out, (fun p hp => by omega), (fun k _ => rfl), Same.refl _ _ _⟩
  case round =>
    obtain ⟨q, a, b, f', rfl, rfl, hb1, hb2, han, hq, hR, hT, hI, hS⟩ := hrel
    by_cases hbn : b ≤ n
    · have hab : a ≤ b := by omega
      obtain ⟨b', hb'⟩ : ∃ c, c = b + 20 := ⟨_, rfl⟩
      have eb' : (b : Int) + 20 = (b' : Int) := by omega
      have hb3 : b' ≤ b + 20 := by omega
      have hb4 : b + 20 ≤ b' := by omega
      clear hb'
      go_wp2_with (go_at_call 128; refine (insertion_any hR.out HC.out a b hab hbn hn (fun k h1 _ => hI.out k h1)).mono ?_; rintro e w5 ⟨rfl, f2, hr2, ht2, hs2⟩; have HR2 := hid hr2; have HT2 := hid ht2; have HS2 := hid hs2; clear hr2 ht2 hs2)
      go_roundw
      case rel =>
        have e1 := hq.out
        refine ⟨q + 1, b, b', f2, rfl, rfl, hb3, hb4, hbn, (by show b = (q + 1) * 20; omega), HR2.out, ?_, ?_, hS.out.trans (HS2.out.wide (Nat.zero_le _) hbn)⟩
        · have hbk : Bk key f2 n a 20 := Bk.first (e := b) (by omega) (fun k h1 _ => hI.out k h1) HS2.out HT2.out
          have hs3 := HS2.out
          rw [e1] at hbk hs3
          exact hT.out.step hs3 hbk
        · intro k hk
          rw [HS2.out.out k (.inr hk)]
          exact hI.out k (by omega)
      case measure => simp [intOf]; omega
    · go_wp2_with (go_at_call 128; refine (insertion_any hR.out HC.out a n han (Nat.le_refl _) hn (fun k h1 _ => hI.out k h1)).mono ?_; rintro e w5 ⟨rfl, f2, hr2, ht2, hs2⟩; have HR2 := hid hr2; have HT2 := hid ht2; have HS2 := hid hs2; clear hr2 ht2 hs2)
      have HALL : Hid (BksFrom key f2 n 20 0 ∧ Same (fun k => k) f2 0 n) := by
        have e1 := hq.out
        have hbk : Bk key f2 n a 20 := Bk.first (e := n) (by omega) (fun k h1 _ => hI.out k h1) HS2.out HT2.out
        have hs3 := HS2.out
        refine ⟨?_, hS.out.trans (hs3.wide (Nat.zero_le _) (Nat.le_refl _))⟩
        rw [e1] at hbk hs3
        exact (hT.out.step hs3 hbk).all (by omega)
      clear hq hR hT hI hS HT2 HS2 hb1 hb2 han hbn
      go_loopw [6] (fun vs wr => ∃ (s : Nat) (f' : Nat → Nat), vs = .int .i64 s ∧ 20 ≤ s ∧ s ≤ 2000000 ∧ Hid (RowAt w0 g n f' wr) ∧ Hid (BksFrom key f' n s 0 ∧ Same (fun k => k) f' 0 n)) (fun vs _ => n - (intOf vs).toNat)
      case atStart => exact ⟨20, f2, rfl, by omega, by omega, HR2.out, HALL.out⟩
      case round =>
        clear HR2 HALL
        obtain ⟨s, f3, rfl, hs20, hsb, hR, hB⟩ := hrel
        by_cases hsn : s < n
        · obtain ⟨s2, hs2⟩ : ∃ c, c = 2 * s := ⟨_, rfl⟩
          have es2 : (s : Int) * 2 = (s2 : Int) := by omega
          have es3 : 2 * (s : Int) = (s2 : Int) := by omega
          have HS2 := hid hs2
          have hsl : 40 ≤ s2 := by omega
          have hsu : s2 ≤ 2000000 := by omega
          have hss : s < s2 := by omega
          clear hs2
          go_wp2
          go_loopw [7, 8] (fun va vb wr => ∃ (q a b : Nat) (f' : Nat → Nat), va = .int .i64 a ∧ vb = .int .i64 b ∧ b ≤ a + s2 ∧ a + s2 ≤ b ∧ a ≤ n ∧ Hid (a = q * s2) ∧ Hid (RowAt w0 g n f' wr) ∧ Hid (BksTo key f' n s2 q) ∧ Hid (BksFrom key f' n s a) ∧ Hid (Same (fun k => k) f' 0 n)) (fun _ vb _ => n + s2 - (intOf vb).toNat)
          case atStart => exact ⟨0, 0, s2, f3, rfl, rfl, by omega, by omega, by omega, (by show (0 : Nat) = 0 * s2; omega), hR.out, (fun p hp => by omega), hB.out.1, hB.out.2⟩
          case round =>
            clear hR hB
            obtain ⟨q, a, b, f4, rfl, rfl, hb1, hb2, han, hq, hR, hT, hF, hS⟩ := hrel
            obtain ⟨m, hm⟩ : ∃ c, c = a + s := ⟨_, rfl⟩
            have em : (a : Int) + (s : Int) = (m : Int) := by omega
            have ham : a < m := by omega
            have HM := hid hm
            have HP : Hid ((a < n → Bk key f4 n a s) ∧ (m < n → Bk key f4 n m s)) := by
              have h1 := hF.out
              have e1 := hq.out
              have e2 := HS2.out
              rw [e1, e2] at h1
              have h2 := h1.pair
              rw [hm, e1, e2]
              exact h2
            clear hm
            by_cases hbn : b ≤ n
            · have hmb : m < b := by have := HM.out; have := HS2.out; omega
              obtain ⟨b', hb'⟩ : ∃ c, c = b + s2 := ⟨_, rfl⟩
              have eb' : (b : Int) + (s2 : Int) = (b' : Int) := by omega
              have hb3 : b' ≤ b + s2 := by omega
              have hb4 : b + s2 ≤ b' := by omega
              clear hb'
              have BK1 := HP.out.1 (by omega)
              have BK2 := HP.out.2 (by omega)
              have P1 : Hid (Srt key f4 a m) := by have h1 := BK1.srt; have := HM.out; rw [show min (a + s) n = m by omega] at h1; exact h1
              have P2 : Hid (Srt key f4 m b) := by have h1 := BK2.srt; have := HM.out; have := HS2.out; rw [show min (m + s) n = b by omega] at h1; exact h1
              have P3 : Hid (Cross key f4 a m b) := by
                have := HM.out; have := HS2.out
                have h2 := BK2
                rw [HM.out] at h2
                have h3 := BK1.cross h2 b (by omega) hbn
                rw [← HM.out] at h3
                exact h3
              have BB1 := hid BK1
              have BB2 := hid BK2
              clear BK1 BK2 HP
              go_wp2_with (go_at_call 129; refine (sym_any HC.out hn (b - a) _ f4 a m b (Nat.le_refl _) hR.out ham hmb hbn (small_of_same hS.out) P1.out P2.out P3.out).mono ?_; rintro e w5 ⟨rfl, f5, hr5, ht5, hs5⟩; have HR5 := hid hr5; have HT5 := hid ht5; have HS5 := hid hs5; clear hr5 ht5 hs5)
              go_roundw
              case rel =>
                have e1 := hq.out
                have e2 := HS2.out
                have e3 := HM.out
                refine ⟨q + 1, b, b', f5, rfl, rfl, hb3, hb4, hbn, (by show b = (q + 1) * s2; rw [Nat.add_mul, Nat.one_mul, ← e1]; omega), HR5.out, ?_, hF.out.step HS5.out (by omega) (by omega), hS.out.trans (HS5.out.wide (Nat.zero_le _) hbn)⟩
                have h2 := BB2.out
                rw [e3] at h2
                have hbk : Bk key f5 n a s2 := by rw [e2]; exact BB1.out.merge h2 (e := b) (by omega) HS5.out HT5.out
                have hs3 := HS5.out
                rw [e1] at hbk hs3
                exact hT.out.step hs3 hbk
              case measure => simp [intOf]; omega
            · by_cases hmn : m < n
              · have BK1 := HP.out.1 (by omega)
                have BK2 := HP.out.2 hmn
                have P1 : Hid (Srt key f4 a m) := by have h1 := BK1.srt; have := HM.out; rw [show min (a + s) n = m by omega] at h1; exact h1
                have P2 : Hid (Srt key f4 m n) := by have h1 := BK2.srt; have := HM.out; have := HS2.out; rw [show min (m + s) n = n by omega] at h1; exact h1
                have P3 : Hid (Cross key f4 a m n) := by
                  have := HM.out; have := HS2.out
                  have h2 := BK2
                  rw [HM.out] at h2
                  have h3 := BK1.cross h2 n (by omega) (Nat.le_refl _)
                  rw [← HM.out] at h3
                  exact h3
                have BB1 := hid BK1
                have BB2 := hid BK2
                clear BK1 BK2 HP
                go_wp2_with (go_at_call 129; refine (sym_any HC.out hn (n - a) _ f4 a m n (Nat.le_refl _) hR.out ham hmn (Nat.le_refl _) (small_of_same hS.out) P1.out P2.out P3.out).mono ?_; rintro e w5 ⟨rfl, f5, hr5, ht5, hs5⟩; have HR5 := hid hr5; have HT5 := hid ht5; have HS5 := hid hs5; clear hr5 ht5 hs5)
                go_roundw
                case rel =>
                  have e1 := hq.out
                  have e2 := HS2.out
                  have e3 := HM.out
                  refine ⟨s2, f5, rfl, by omega, hsu, HR5.out, ?_, hS.out.trans (HS5.out.wide (Nat.zero_le _) (Nat.le_refl _))⟩
                  have h2 := BB2.out
                  rw [e3] at h2
                  have hbk : Bk key f5 n a s2 := by rw [e2]; exact BB1.out.merge h2 (e := n) (by omega) HS5.out HT5.out
                  have hs3 := HS5.out
                  rw [e1] at hbk hs3
                  refine (hT.out.step hs3 hbk).all ?_
                  rw [Nat.add_mul, Nat.one_mul, ← e1]
                  omega
                case measure => simp [intOf]; omega
              · have HEND : Hid (BksFrom key f4 n s2 0) := by
                  have e1 := hq.out
                  have e2 := HS2.out
                  have e3 := HM.out
                  rcases Nat.lt_or_ge a n with h1 | h1
                  · have hbk : Bk key f4 n a s2 := by rw [e2]; exact (HP.out.1 h1).alone (by omega)
                    rw [e1] at hbk
                    refine (hT.out.step (Same.refl f4 (q * s2) n) hbk).all ?_
                    rw [Nat.add_mul, Nat.one_mul, ← e1]
                    omega
                  · exact hT.out.all (by rw [← e1]; omega)
                clear HP
                go_wp2
                go_roundw
                case rel => exact ⟨s2, f4, rfl, by omega, hsu, hR.out, HEND.out, hS.out⟩
                case measure => simp [intOf]; omega
        · have HEND : Hid (Srt key f3 0 n) := hB.out.1.whole (by omega)
          go_wp2
          exact bodyPost_end (v := .tuple #[]) (by simp [results, Tryz.results119, go_sem]) rfl ⟨rfl, f3, hR.out, HEND.out, hB.out.2⟩

theorem sortStable_any {w0 W : World} {g n bx : Nat} {key : Nat → Nat} (h : RowAt w0 g n (fun k => k) W) (hc : CmpAt w0 g n bx key) (hn : n ≤ 1000000) :
    Calls Tryz.prog 103 #[.slice (some ⟨g, 0, none⟩) n n, cmpV bx] W fun e w' => e = .returned (.tuple #[]) ∧ ∃ f', RowAt w0 g n f' w' ∧ Srt key f' 0 n ∧ Same (fun k => k) f' 0 n := by
  have HC := hid hc
  have H0 := hid h
  clear hc h
  unfold cmpV
  go_enter Tryz.func103, Tryz.ntmps103
  go_wp2_with (go_at_call 119; refine (stable_any H0.out HC.out hn).mono ?_; rintro e w5 ⟨rfl, f2, hr2, ht2, hs2⟩; have HR2 := hid hr2; have HT2 := hid ht2; have HS2 := hid hs2; clear hr2 ht2 hs2)
  exact bodyPost_end (v := .tuple #[]) (by simp [results, Tryz.results103, go_sem]) rfl ⟨rfl, f2, HR2.out, HT2.out, HS2.out⟩
end Go.Proofs.YtdplflcaanmmiaaGreat
