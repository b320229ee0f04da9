/-
  The library's stable sort of numbers: symMergeCmpFunc.
-/
import Derived.Test.YtdplflcaanmmiaaSort
namespace Go.Proofs.Ytdplflcaanmmiaa
open Go.ChangeShapes Go.WideShapes Go.ChangeAt Go.RowKit

theorem rot_none {f : Nat → Nat} {s m e : Nat} (h : ¬ (s < m ∧ m < e)) (h1 : s ≤ m) (h2 : m ≤ e) : rot f s m e = f := by
  funext k
  unfold rot
  by_cases h3 : s ≤ k ∧ k < s + (e - m)
  · rw [if_pos h3]
    congr 1; omega
  · rw [if_neg h3]
    by_cases h4 : s + (e - m) ≤ k ∧ k < e
    · rw [if_pos h4]
      congr 1; omega
    · rw [if_neg h4]

theorem Cross.congr {key f g : Nat → Nat} {a m b : Nat} (h : Cross key f a m b) (he : ∀ k, a ≤ k → k < b → g k = f k) : Cross key g a m b := fun i j h1 h2 h3 h4 => by
  rw [he i h1 (by omega), he j (by omega) h4]
  exact h i j h1 h2 h3 h4

/-- What symMergeCmpFunc does, at blocks of at most s numbers. -/
def SymAt (w0 : World) (g n bx : Nat) (key : Nat → Nat) (s : Nat) : Prop :=
  ∀ (W : World) (f : Nat → Nat) (a m b : Nat), b - a ≤ s → RowAt w0 g n f W → a < m → m < b → b ≤ n → Small f n → Srt key f a m → Srt key f m b → Cross key f a m b →
    Calls Try.prog 83 #[.slice (some ⟨g, 0, none⟩) n n, .int .i64 (a : Int), .int .i64 (m : Int), .int .i64 (b : Int), cmpV bx] W fun e w' => e = .returned (.tuple #[]) ∧ ∃ f', RowAt w0 g n f' w' ∧ Srt key f' a b ∧ Same f f' a b

/-- Where the search begins and ends. -/
def LoOf (a m b mid lo r0 : Nat) : Prop := (m > mid ∧ lo = mid + m - b ∧ r0 = mid) ∨ (m ≤ mid ∧ lo = a ∧ r0 = m)

/-- What is known behind the turning. -/
structure Turned (key f : Nat → Nat) (a m b mid st fin n : Nat) : Prop where
  apart : ∀ i j, a ≤ i → i < mid → mid ≤ j → j < b → rk key (rot f st m fin i) < rk key (rot f st m fin j)
  s1 : Srt key (rot f st m fin) a st
  s2 : Srt key (rot f st m fin) st mid
  s3 : Srt key (rot f st m fin) mid fin
  s4 : Srt key (rot f st m fin) fin b
  x1 : Cross key (rot f st m fin) a st mid
  x2 : Cross key (rot f st m fin) mid fin b
  small : Small (rot f st m fin) n
  same : Same f (rot f st m fin) a b

theorem Turned.n1 {key f : Nat → Nat} {a m b mid st fin n : Nat} (t : Turned key f a m b mid st fin n) (h : ¬ (a < st ∧ st < mid)) (h1 : a ≤ st) (h2 : st ≤ mid) : Srt key (rot f st m fin) a mid := by
  rcases Nat.lt_or_ge a st with p | p
  · have e : mid = st := by omega
    have := t.s1
    rw [← e] at this
    rw [← e]
    exact this
  · have e : st = a := by omega
    have := t.s2
    rw [e] at this
    rw [e]
    exact this

theorem Turned.n2 {key f : Nat → Nat} {a m b mid st fin n : Nat} (t : Turned key f a m b mid st fin n) (h : ¬ (mid < fin ∧ fin < b)) (h1 : mid ≤ fin) (h2 : fin ≤ b) : Srt key (rot f st m fin) mid b := by
  rcases Nat.lt_or_ge mid fin with p | p
  · have e : fin = b := by omega
    have := t.s3
    rw [e] at this
    rw [e]
    exact this
  · have e : mid = fin := by omega
    have := t.s4
    rw [← e] at this
    rw [← e]
    exact this

theorem Cut.turned {key f : Nat → Nat} {a m b mid st fin n : Nat} (c : Cut key f a m b mid st fin) (h1 : Srt key f a m) (h2 : Srt key f m b) (hx : Cross key f a m b) (hs : Small f n) (hb : b ≤ n) : Turned key f a m b mid st fin n where
  apart := c.apart h1 h2
  s1 := (c.srt1 h1 h2).1
  s2 := (c.srt1 h1 h2).2.1
  s3 := (c.srt1 h1 h2).2.2.1
  s4 := (c.srt1 h1 h2).2.2.2
  x1 := (c.cross hx).1
  x2 := (c.cross hx).2
  small := hs.same (same_rot f st m fin c.sm c.me) (Nat.le_trans c.hi hb)
  same := (same_rot f st m fin c.sm c.me).wide c.lo c.hi

set_option maxRecDepth 20000 in
set_option maxHeartbeats 16000000 in
theorem sym_up {w0 W : World} {g n bx : Nat} {f key : Nat → Nat} (h : RowAt w0 g n f W) (hc : CmpAt w0 g n bx key) (a m b s mid : Nat) (hmid : mid = (a + b) / 2) (hmm : m > mid) (ham : a + 1 < m) (hmb : m + 1 < b) (hb : b ≤ n) (hn : n ≤ 1000000) (hbs : b - a ≤ s + 1) (ih : SymAt w0 g n bx key s) (hsm : Small f n) (h1 : Srt key f a m) (h2 : Srt key f m b) (hx : Cross key f a m b) :
    Calls Try.prog 83 #[.slice (some ⟨g, 0, none⟩) n n, .int .i64 (a : Int), .int .i64 (m : Int), .int .i64 (b : Int), cmpV bx] W fun e w' => e = .returned (.tuple #[]) ∧ ∃ f', RowAt w0 g n f' w' ∧ Srt key f' a b ∧ Same f f' a b := by
  have mixed : Try.prog.follows .mixedOrders = true := by kernel_rfl
  have HC := hid hc
  have H0 := hid h
  have IH := hid ih
  have HSM := hid hsm
  have H1 := hid h1
  have H2 := hid h2
  have HX := hid hx
  have HMID := hid hmid
  obtain ⟨d, hd⟩ : ∃ d, d = m - a := ⟨_, rfl⟩
  have ema : (m : Int) - (a : Int) = (d : Int) := by omega
  have hd1 : ¬ (d = 1) := by omega
  have hd2 : ¬ ((d : Int) = 1) := by omega
  obtain ⟨d', hd'⟩ : ∃ d, d = b - m := ⟨_, rfl⟩
  have ebm : (b : Int) - (m : Int) = (d' : Int) := by omega
  have hd3 : ¬ (d' = 1) := by omega
  have hd4 : ¬ ((d' : Int) = 1) := by omega
  have emid : ((a : Int) + (b : Int)) / 2 = (mid : Int) := by omega
  obtain ⟨nn, hnn⟩ : ∃ q, q = mid + m := ⟨_, rfl⟩
  have enn : (mid : Int) + (m : Int) = (nn : Int) := by omega
  obtain ⟨pp, hpp⟩ : ∃ q, q = mid + m - 1 := ⟨_, rfl⟩
  have epp : (nn : Int) - 1 = (pp : Int) := by omega
  have hma : a < mid := by omega
  have hmb2 : mid < b := by omega
  have HNN := hid hnn
  have HPP := hid hpp
  have hnnb : nn ≤ 2000000 := by omega
  have hppb : pp ≤ 2000000 := by omega
  obtain ⟨lo, hlo1⟩ : ∃ q, q = mid + m - b := ⟨_, rfl⟩
  have elo : (nn : Int) - (b : Int) = (lo : Int) := by omega
  have hlo : (m > mid ∧ lo = mid + m - b ∧ mid = mid) ∨ (m ≤ mid ∧ lo = a ∧ mid = m) := .inl ⟨hmm, hlo1, rfl⟩
  clear hlo1
  have HLO : Hid (LoOf a m b mid lo mid) := hlo
  have HRNG : Hid (∀ q, lo ≤ q → q < mid → a ≤ q ∧ q < m ∧ m ≤ pp - q ∧ pp - q < b ∧ q ≤ pp) := fun q p1 p2 => by rcases hlo with ⟨e1, e2, e3⟩ | ⟨e1, e2, e3⟩ <;> refine ⟨by omega, by omega, by omega, by omega, by omega⟩
  have hlr : lo ≤ mid := by rcases hlo with ⟨e1, e2, e3⟩ | ⟨e1, e2, e3⟩ <;> omega
  have hr0 : mid ≤ n := by rcases hlo with ⟨e1, e2, e3⟩ | ⟨e1, e2, e3⟩ <;> omega
  clear hc h ih hsm h1 h2 hx hd hd' hnn hpp hmid hlo
  unfold cmpV
  go_enter Try.func83, Try.ntmps83
  go_wp2
  go_loopg [20, 21] n (fun g1 vi vj wr => ∃ i j : Nat, vi = .int .i64 i ∧ vj = .int .i64 j ∧ lo ≤ i ∧ i ≤ j ∧ j ≤ mid ∧ j - i ≤ g1 ∧ Hid (RowAt w0 g n f wr) ∧ Hid (lo < i → rk key (f (i - 1)) < rk key (f (mid + m - i))) ∧ Hid (j < mid → rk key (f (mid + m - 1 - j)) < rk key (f j)))
  case atStart => exact ⟨lo, mid, rfl, rfl, by omega, by omega, by omega, by omega, H0.out, (fun h => by omega), (fun h => by omega)⟩
  case round =>
    obtain ⟨i, j, rfl, rfl, hmi, hij, hjb, hg, hR, hA, hB⟩ := hrel
    by_cases hlt : i < j
    · obtain ⟨q, hq⟩ : ∃ q, q = (i + j) / 2 := ⟨_, rfl⟩
      have eq1 : ((i : Int) + (j : Int)) / 2 = (q : Int) := by omega
      have hqi : i ≤ q := by omega
      have hqj : q < j := by omega
      obtain ⟨g1, g2, g3, g4, g5⟩ := HRNG.out q (by omega) (by omega)
      have hqn : q < n := by omega
      obtain ⟨t, ht⟩ : ∃ t, t = pp - q := ⟨_, rfl⟩
      have et : (pp : Int) - (q : Int) = (t : Int) := by omega
      have htn : t < n := by omega
      have htm : m ≤ t := by omega
      have htb : t < b := by omega
      have HT : Hid (t = mid + m - 1 - q) := by have := HPP.out; show _ = _; omega
      have HQM : Hid (a ≤ q ∧ q < m) := ⟨g1, g2⟩
      clear hq ht g1 g2 g3 g4 g5
      obtain ⟨x, hx⟩ : ∃ x, x = f q := ⟨_, rfl⟩
      have hxn : x < n := by rw [hx]; exact HSM.out q hqn
      obtain ⟨y, hy⟩ : ∃ x, x = f t := ⟨_, rfl⟩
      have hyn : y < n := by rw [hy]; exact HSM.out t htn
      have c1 := hR.out.row.cell hqn
      have c2 := hR.out.row.cell htn
      rw [← hx] at c1
      rw [← hy] at c2
      have hxq : decide ((0 : Int) ≤ (q : Int) ∧ (q : Int) < (n : Int)) = true := decide_eq_true ⟨by omega, by omega⟩
      have hxt : decide ((0 : Int) ≤ (t : Int) ∧ (t : Int) < (n : Int)) = true := decide_eq_true ⟨by omega, by omega⟩
      have hwq : IntKind.i64.wrap (q : Int) = (q : Int) := by rw [IntKind.wrap_i64]; omega
      have hwt : IntKind.i64.wrap (t : Int) = (t : Int) := by rw [IntKind.wrap_i64]; omega
      have HXE := hid hx
      have HYE := hid hy
      clear hx hy
      by_cases hk : key y < key x
      · have hcv := c3_lt hk
        have hcd : decide (c3 (key y) (key x) < 0) = true := decide_eq_true (by rw [hcv]; decide)
        have HB2 : Hid (q < mid → rk key (f (mid + m - 1 - q)) < rk key (f q)) := fun _ => by
          rw [← HT.out, ← HXE.out, ← HYE.out]; exact rk_lt (by omega) hk
        clear hcv hk hB
        go_wp2_with fail
        go_quiet ((go_at_call 57; exact Calls.quiet_of (HC.out _ (hR.out.kept.trans (Kept.drewN _ _ _)) y x hyn hxn)))
        have HR5 := hid (hR.out.drewN nq)
        clear c1 c2 hR
        generalize wr.drewN nq = w2 at HR5 ⊢
        go_wp2
        go_roundg (q - i)
        case measure => omega
        case rel => exact ⟨i, q, rfl, by first | rfl | go_num, by omega, by omega, by omega, by omega, HR5.out, hA.out, HB2.out⟩
      · have hcv := c3_ge (Nat.le_of_not_lt hk)
        have hcd : decide (c3 (key y) (key x) < 0) = false := decide_eq_false hcv
        have HA2 : Hid (lo < q + 1 → rk key (f (q + 1 - 1)) < rk key (f (mid + m - (q + 1)))) := fun _ => by
          have ht := HT.out
          rw [show q + 1 - 1 = q by omega, show mid + m - (q + 1) = t by omega]
          exact rk_le (by rw [← HXE.out]; omega) (by rw [← HXE.out, ← HYE.out]; exact hk) (fun e => HX.out q t HQM.out.1 HQM.out.2 htm htb e)
        clear hcv hk hA
        go_wp2_with fail
        go_quiet ((go_at_call 57; exact Calls.quiet_of (HC.out _ (hR.out.kept.trans (Kept.drewN _ _ _)) y x hyn hxn)))
        have HR5 := hid (hR.out.drewN nq)
        clear c1 c2 hR
        generalize wr.drewN nq = w2 at HR5 ⊢
        go_wp2
        go_roundg (j - (q + 1))
        case measure => omega
        case rel => exact ⟨q + 1, j, by go_num, rfl, by omega, by omega, hjb, by omega, HR5.out, HA2.out, hB.out⟩
    · obtain rfl : i = j := by omega
      have hcut := cut_found HMID.out (by omega) (by omega) HLO.out H1.out H2.out hmi hjb hA.out hB.out
      obtain ⟨fin, hfin⟩ : ∃ q, q = mid + m - i := ⟨_, rfl⟩
      rw [← hfin] at hcut
      have k1 := hcut.len
      have k2 := hcut.lo
      have k3 := hcut.sm
      have k4 := hcut.me
      have k5 := hcut.hi
      have k6 := hcut.smid
      have TT := hid (hcut.turned H1.out H2.out HX.out HSM.out hb)
      have efin : (nn : Int) - (i : Int) = (fin : Int) := by have := HNN.out; omega
      clear hA hB hfin hcut H1 H2 HX HSM HLO HRNG H0 HMID hlt emid enn epp hmi hjb hg
      by_cases A1 : i < m <;> by_cases A2 : m < fin <;> by_cases B1 : a < i <;> by_cases C2 : fin < b <;>
        (first | have B2 : i < mid := by omega | have B2 : ¬ (i < mid) := by omega) <;>
        (first | have C1 : mid < fin := by omega | have C1 : ¬ (mid < fin) := by omega) <;>
        (first | have hA : i < m ∧ m < fin := ⟨A1, A2⟩ | have hnA : ¬ (i < m ∧ m < fin) := by omega) <;>
        (first | have hB : a < i ∧ i < mid := ⟨B1, B2⟩ | have hnB : ¬ (a < i ∧ i < mid) := by omega) <;>
        (first | have hC : mid < fin ∧ fin < b := ⟨C1, C2⟩ | have hnC : ¬ (mid < fin ∧ fin < b) := by omega) <;>
        (first | have HR1 : Hid (RowAt w0 g n (rot f i m fin) wr) := (by show RowAt _ _ _ _ _; rw [rot_none hnA k3 k4]; exact hR.out) | skip) <;>
        (first | have TN1 := hid (TT.out.n1 hnB k2 k6) | skip) <;>
        (first | have TN2 := hid (TT.out.n2 hnC (by omega) k5) | skip) <;>
        clear k1 k6
      all_goals go_wp2_with (first
        | (go_at_call 90; refine (rotate_any hR.out i m fin A1 A2 (by omega) hn _).mono ?_; rintro e w5 ⟨rfl, hr⟩; have HR1 := hid hr; clear hr)
        | (have _h := HR2; go_at_call 83; refine (IH.out _ f2 mid fin b (by omega) HR2.out C1 C2 hb (TT.out.small.same S1.out (by omega)) (TT.out.s3.congr (fun k q1 _ => S1.out.out k (.inr q1))) (TT.out.s4.congr (fun k q1 _ => S1.out.out k (.inr (by omega)))) (TT.out.x2.congr (fun k q1 _ => S1.out.out k (.inr q1)))).mono ?_; rintro e w7 ⟨rfl, f3, hr3, ht3, hs3⟩; have HR3 := hid hr3; have T3 := hid ht3; have S3 := hid hs3; clear hr3 ht3 hs3)
        | (have _h := hnB; go_at_call 83; refine (IH.out _ (rot f i m fin) mid fin b (by omega) HR1.out C1 C2 hb TT.out.small TT.out.s3 TT.out.s4 TT.out.x2).mono ?_; rintro e w7 ⟨rfl, f3, hr3, ht3, hs3⟩; have HR3 := hid hr3; have T3 := hid ht3; have S3 := hid hs3; clear hr3 ht3 hs3)
        | (go_at_call 83; refine (IH.out _ (rot f i m fin) a i mid (by omega) HR1.out B1 B2 (by omega) TT.out.small TT.out.s1 TT.out.s2 TT.out.x1).mono ?_; rintro e w6 ⟨rfl, f2, hr2, ht2, hs2⟩; have HR2 := hid hr2; have T1 := hid ht2; have S1 := hid hs2; clear hr2 ht2 hs2))
      all_goals first
        | (have J := srt_join (by omega) (by omega) TT.out.apart S1.out T1.out S3.out T3.out; exact bodyPost_end (v := .tuple #[]) (by simp [results, Try.results83, go_sem]) rfl ⟨rfl, _, HR3.out, J.1, TT.out.same.trans J.2⟩)
        | (have J := srt_join (by omega) (by omega) TT.out.apart S1.out T1.out (Same.refl _ _ _) (TN2.out.congr (fun k q1 _ => S1.out.out k (.inr q1))); exact bodyPost_end (v := .tuple #[]) (by simp [results, Try.results83, go_sem]) rfl ⟨rfl, _, HR2.out, J.1, TT.out.same.trans J.2⟩)
        | (have J := srt_join (by omega) (by omega) TT.out.apart (Same.refl _ _ _) TN1.out S3.out T3.out; exact bodyPost_end (v := .tuple #[]) (by simp [results, Try.results83, go_sem]) rfl ⟨rfl, _, HR3.out, J.1, TT.out.same.trans J.2⟩)
        | (have J := srt_join (by omega) (by omega) TT.out.apart (Same.refl _ _ _) TN1.out (Same.refl _ _ _) TN2.out; exact bodyPost_end (v := .tuple #[]) (by simp [results, Try.results83, go_sem]) rfl ⟨rfl, _, HR1.out, J.1, TT.out.same.trans J.2⟩)

set_option maxRecDepth 20000 in
set_option maxHeartbeats 16000000 in
theorem sym_down {w0 W : World} {g n bx : Nat} {f key : Nat → Nat} (h : RowAt w0 g n f W) (hc : CmpAt w0 g n bx key) (a m b s mid : Nat) (hmid : mid = (a + b) / 2) (hmm : m ≤ mid) (ham : a + 1 < m) (hmb : m + 1 < b) (hb : b ≤ n) (hn : n ≤ 1000000) (hbs : b - a ≤ s + 1) (ih : SymAt w0 g n bx key s) (hsm : Small f n) (h1 : Srt key f a m) (h2 : Srt key f m b) (hx : Cross key f a m b) :
    Calls Try.prog 83 #[.slice (some ⟨g, 0, none⟩) n n, .int .i64 (a : Int), .int .i64 (m : Int), .int .i64 (b : Int), cmpV bx] W fun e w' => e = .returned (.tuple #[]) ∧ ∃ f', RowAt w0 g n f' w' ∧ Srt key f' a b ∧ Same f f' a b := by
  have mixed : Try.prog.follows .mixedOrders = true := by kernel_rfl
  have HC := hid hc
  have H0 := hid h
  have IH := hid ih
  have HSM := hid hsm
  have H1 := hid h1
  have H2 := hid h2
  have HX := hid hx
  have HMID := hid hmid
  obtain ⟨d, hd⟩ : ∃ d, d = m - a := ⟨_, rfl⟩
  have ema : (m : Int) - (a : Int) = (d : Int) := by omega
  have hd1 : ¬ (d = 1) := by omega
  have hd2 : ¬ ((d : Int) = 1) := by omega
  obtain ⟨d', hd'⟩ : ∃ d, d = b - m := ⟨_, rfl⟩
  have ebm : (b : Int) - (m : Int) = (d' : Int) := by omega
  have hd3 : ¬ (d' = 1) := by omega
  have hd4 : ¬ ((d' : Int) = 1) := by omega
  have emid : ((a : Int) + (b : Int)) / 2 = (mid : Int) := by omega
  obtain ⟨nn, hnn⟩ : ∃ q, q = mid + m := ⟨_, rfl⟩
  have enn : (mid : Int) + (m : Int) = (nn : Int) := by omega
  obtain ⟨pp, hpp⟩ : ∃ q, q = mid + m - 1 := ⟨_, rfl⟩
  have epp : (nn : Int) - 1 = (pp : Int) := by omega
  have hma : a < mid := by omega
  have hmb2 : mid < b := by omega
  have HNN := hid hnn
  have HPP := hid hpp
  have hnnb : nn ≤ 2000000 := by omega
  have hppb : pp ≤ 2000000 := by omega
  have hlo : (m > mid ∧ a = mid + m - b ∧ m = mid) ∨ (m ≤ mid ∧ a = a ∧ m = m) := .inr ⟨hmm, rfl, rfl⟩
  have HLO : Hid (LoOf a m b mid a m) := hlo
  have HRNG : Hid (∀ q, a ≤ q → q < m → a ≤ q ∧ q < m ∧ m ≤ pp - q ∧ pp - q < b ∧ q ≤ pp) := fun q p1 p2 => by rcases hlo with ⟨e1, e2, e3⟩ | ⟨e1, e2, e3⟩ <;> refine ⟨by omega, by omega, by omega, by omega, by omega⟩
  have hlr : a ≤ m := by rcases hlo with ⟨e1, e2, e3⟩ | ⟨e1, e2, e3⟩ <;> omega
  have hr0 : m ≤ n := by rcases hlo with ⟨e1, e2, e3⟩ | ⟨e1, e2, e3⟩ <;> omega
  clear hc h ih hsm h1 h2 hx hd hd' hnn hpp hmid hlo
  unfold cmpV
  go_enter Try.func83, Try.ntmps83
  go_wp2
  go_loopg [20, 21] n (fun g1 vi vj wr => ∃ i j : Nat, vi = .int .i64 i ∧ vj = .int .i64 j ∧ a ≤ i ∧ i ≤ j ∧ j ≤ m ∧ j - i ≤ g1 ∧ Hid (RowAt w0 g n f wr) ∧ Hid (a < i → rk key (f (i - 1)) < rk key (f (mid + m - i))) ∧ Hid (j < m → rk key (f (mid + m - 1 - j)) < rk key (f j)))
  case atStart => exact ⟨a, m, rfl, rfl, by omega, by omega, by omega, by omega, H0.out, (fun h => by omega), (fun h => by omega)⟩
  case round =>
    obtain ⟨i, j, rfl, rfl, hmi, hij, hjb, hg, hR, hA, hB⟩ := hrel
    by_cases hlt : i < j
    · obtain ⟨q, hq⟩ : ∃ q, q = (i + j) / 2 := ⟨_, rfl⟩
      have eq1 : ((i : Int) + (j : Int)) / 2 = (q : Int) := by omega
      have hqi : i ≤ q := by omega
      have hqj : q < j := by omega
      obtain ⟨g1, g2, g3, g4, g5⟩ := HRNG.out q (by omega) (by omega)
      have hqn : q < n := by omega
      obtain ⟨t, ht⟩ : ∃ t, t = pp - q := ⟨_, rfl⟩
      have et : (pp : Int) - (q : Int) = (t : Int) := by omega
      have htn : t < n := by omega
      have htm : m ≤ t := by omega
      have htb : t < b := by omega
      have HT : Hid (t = mid + m - 1 - q) := by have := HPP.out; show _ = _; omega
      have HQM : Hid (a ≤ q ∧ q < m) := ⟨g1, g2⟩
      clear hq ht g1 g2 g3 g4 g5
      obtain ⟨x, hx⟩ : ∃ x, x = f q := ⟨_, rfl⟩
      have hxn : x < n := by rw [hx]; exact HSM.out q hqn
      obtain ⟨y, hy⟩ : ∃ x, x = f t := ⟨_, rfl⟩
      have hyn : y < n := by rw [hy]; exact HSM.out t htn
      have c1 := hR.out.row.cell hqn
      have c2 := hR.out.row.cell htn
      rw [← hx] at c1
      rw [← hy] at c2
      have hxq : decide ((0 : Int) ≤ (q : Int) ∧ (q : Int) < (n : Int)) = true := decide_eq_true ⟨by omega, by omega⟩
      have hxt : decide ((0 : Int) ≤ (t : Int) ∧ (t : Int) < (n : Int)) = true := decide_eq_true ⟨by omega, by omega⟩
      have hwq : IntKind.i64.wrap (q : Int) = (q : Int) := by rw [IntKind.wrap_i64]; omega
      have hwt : IntKind.i64.wrap (t : Int) = (t : Int) := by rw [IntKind.wrap_i64]; omega
      have HXE := hid hx
      have HYE := hid hy
      clear hx hy
      by_cases hk : key y < key x
      · have hcv := c3_lt hk
        have hcd : decide (c3 (key y) (key x) < 0) = true := decide_eq_true (by rw [hcv]; decide)
        have HB2 : Hid (q < m → rk key (f (mid + m - 1 - q)) < rk key (f q)) := fun _ => by
          rw [← HT.out, ← HXE.out, ← HYE.out]; exact rk_lt (by omega) hk
        clear hcv hk hB
        go_wp2_with fail
        go_quiet ((go_at_call 57; exact Calls.quiet_of (HC.out _ (hR.out.kept.trans (Kept.drewN _ _ _)) y x hyn hxn)))
        have HR5 := hid (hR.out.drewN nq)
        clear c1 c2 hR
        generalize wr.drewN nq = w2 at HR5 ⊢
        go_wp2
        go_roundg (q - i)
        case measure => omega
        case rel => exact ⟨i, q, rfl, by first | rfl | go_num, by omega, by omega, by omega, by omega, HR5.out, hA.out, HB2.out⟩
      · have hcv := c3_ge (Nat.le_of_not_lt hk)
        have hcd : decide (c3 (key y) (key x) < 0) = false := decide_eq_false hcv
        have HA2 : Hid (a < q + 1 → rk key (f (q + 1 - 1)) < rk key (f (mid + m - (q + 1)))) := fun _ => by
          have ht := HT.out
          rw [show q + 1 - 1 = q by omega, show mid + m - (q + 1) = t by omega]
          exact rk_le (by rw [← HXE.out]; omega) (by rw [← HXE.out, ← HYE.out]; exact hk) (fun e => HX.out q t HQM.out.1 HQM.out.2 htm htb e)
        clear hcv hk hA
        go_wp2_with fail
        go_quiet ((go_at_call 57; exact Calls.quiet_of (HC.out _ (hR.out.kept.trans (Kept.drewN _ _ _)) y x hyn hxn)))
        have HR5 := hid (hR.out.drewN nq)
        clear c1 c2 hR
        generalize wr.drewN nq = w2 at HR5 ⊢
        go_wp2
        go_roundg (j - (q + 1))
        case measure => omega
        case rel => exact ⟨q + 1, j, by go_num, rfl, by omega, by omega, hjb, by omega, HR5.out, HA2.out, hB.out⟩
    · obtain rfl : i = j := by omega
      have hcut := cut_found HMID.out (by omega) (by omega) HLO.out H1.out H2.out hmi hjb hA.out hB.out
      obtain ⟨fin, hfin⟩ : ∃ q, q = mid + m - i := ⟨_, rfl⟩
      rw [← hfin] at hcut
      have k1 := hcut.len
      have k2 := hcut.lo
      have k3 := hcut.sm
      have k4 := hcut.me
      have k5 := hcut.hi
      have k6 := hcut.smid
      have TT := hid (hcut.turned H1.out H2.out HX.out HSM.out hb)
      have efin : (nn : Int) - (i : Int) = (fin : Int) := by have := HNN.out; omega
      clear hA hB hfin hcut H1 H2 HX HSM HLO HRNG H0 HMID hlt emid enn epp hmi hjb hg
      by_cases A1 : i < m <;> by_cases A2 : m < fin <;> by_cases B1 : a < i <;> by_cases C2 : fin < b <;>
        (first | have B2 : i < mid := by omega | have B2 : ¬ (i < mid) := by omega) <;>
        (first | have C1 : mid < fin := by omega | have C1 : ¬ (mid < fin) := by omega) <;>
        (first | have hA : i < m ∧ m < fin := ⟨A1, A2⟩ | have hnA : ¬ (i < m ∧ m < fin) := by omega) <;>
        (first | have hB : a < i ∧ i < mid := ⟨B1, B2⟩ | have hnB : ¬ (a < i ∧ i < mid) := by omega) <;>
        (first | have hC : mid < fin ∧ fin < b := ⟨C1, C2⟩ | have hnC : ¬ (mid < fin ∧ fin < b) := by omega) <;>
        (first | have HR1 : Hid (RowAt w0 g n (rot f i m fin) wr) := (by show RowAt _ _ _ _ _; rw [rot_none hnA k3 k4]; exact hR.out) | skip) <;>
        (first | have TN1 := hid (TT.out.n1 hnB k2 k6) | skip) <;>
        (first | have TN2 := hid (TT.out.n2 hnC (by omega) k5) | skip) <;>
        clear k1 k6
      all_goals go_wp2_with (first
        | (go_at_call 90; refine (rotate_any hR.out i m fin A1 A2 (by omega) hn _).mono ?_; rintro e w5 ⟨rfl, hr⟩; have HR1 := hid hr; clear hr)
        | (have _h := HR2; go_at_call 83; refine (IH.out _ f2 mid fin b (by omega) HR2.out C1 C2 hb (TT.out.small.same S1.out (by omega)) (TT.out.s3.congr (fun k q1 _ => S1.out.out k (.inr q1))) (TT.out.s4.congr (fun k q1 _ => S1.out.out k (.inr (by omega)))) (TT.out.x2.congr (fun k q1 _ => S1.out.out k (.inr q1)))).mono ?_; rintro e w7 ⟨rfl, f3, hr3, ht3, hs3⟩; have HR3 := hid hr3; have T3 := hid ht3; have S3 := hid hs3; clear hr3 ht3 hs3)
        | (have _h := hnB; go_at_call 83; refine (IH.out _ (rot f i m fin) mid fin b (by omega) HR1.out C1 C2 hb TT.out.small TT.out.s3 TT.out.s4 TT.out.x2).mono ?_; rintro e w7 ⟨rfl, f3, hr3, ht3, hs3⟩; have HR3 := hid hr3; have T3 := hid ht3; have S3 := hid hs3; clear hr3 ht3 hs3)
        | (go_at_call 83; refine (IH.out _ (rot f i m fin) a i mid (by omega) HR1.out B1 B2 (by omega) TT.out.small TT.out.s1 TT.out.s2 TT.out.x1).mono ?_; rintro e w6 ⟨rfl, f2, hr2, ht2, hs2⟩; have HR2 := hid hr2; have T1 := hid ht2; have S1 := hid hs2; clear hr2 ht2 hs2))
      all_goals first
        | (have J := srt_join (by omega) (by omega) TT.out.apart S1.out T1.out S3.out T3.out; exact bodyPost_end (v := .tuple #[]) (by simp [results, Try.results83, go_sem]) rfl ⟨rfl, _, HR3.out, J.1, TT.out.same.trans J.2⟩)
        | (have J := srt_join (by omega) (by omega) TT.out.apart S1.out T1.out (Same.refl _ _ _) (TN2.out.congr (fun k q1 _ => S1.out.out k (.inr q1))); exact bodyPost_end (v := .tuple #[]) (by simp [results, Try.results83, go_sem]) rfl ⟨rfl, _, HR2.out, J.1, TT.out.same.trans J.2⟩)
        | (have J := srt_join (by omega) (by omega) TT.out.apart (Same.refl _ _ _) TN1.out S3.out T3.out; exact bodyPost_end (v := .tuple #[]) (by simp [results, Try.results83, go_sem]) rfl ⟨rfl, _, HR3.out, J.1, TT.out.same.trans J.2⟩)
        | (have J := srt_join (by omega) (by omega) TT.out.apart (Same.refl _ _ _) TN1.out (Same.refl _ _ _) TN2.out; exact bodyPost_end (v := .tuple #[]) (by simp [results, Try.results83, go_sem]) rfl ⟨rfl, _, HR1.out, J.1, TT.out.same.trans J.2⟩)

theorem sym_any {w0 : World} {g n bx : Nat} {key : Nat → Nat} (hc : CmpAt w0 g n bx key) (hn : n ≤ 1000000) (s : Nat) : SymAt w0 g n bx key s := by
  induction s with
  | zero => intro W f a m b hs hR h1 h2; omega
  | succ s ih =>
    intro W f a m b hs hR ham hmb hb hsm h1 h2 hx
    by_cases e1 : m = a + 1
    · exact sym_left hR hc a m b e1 hmb hb hn hsm h2 hx
    · by_cases e2 : b = m + 1
      · exact sym_right hR hc a m b (by omega) e2 hb hn hsm h1 hx
      · by_cases e3 : m > (a + b) / 2
        · exact sym_up hR hc a m b s _ rfl e3 (by omega) (by omega) hb hn hs ih hsm h1 h2 hx
        · exact sym_down hR hc a m b s _ rfl (by omega) (by omega) (by omega) hb hn hs ih hsm h1 h2 hx
end Go.Proofs.Ytdplflcaanmmiaa
