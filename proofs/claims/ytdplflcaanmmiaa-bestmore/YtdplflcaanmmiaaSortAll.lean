/-
  The library's stable sort of numbers: stableCmpFunc, SortStableFunc.
-/
import Derived.Test.YtdplflcaanmmiaaSortSym
import Derived.Test.YtdplflcaanmmiaaSortBlk
namespace Go.Proofs.Ytdplflcaanmmiaa
open Go.ChangeShapes Go.WideShapes Go.ChangeAt Go.RowKit

set_option maxRecDepth 20000 in
set_option maxHeartbeats 8000000 in
theorem stable_any {w0 W : World} {g n bx : Nat} {key : Nat → Nat} (h : RowAt w0 g n (fun k => k) W) (hc : CmpAt w0 g n bx key) (hn : n ≤ 1000000) :
    Calls Try.prog 73 #[.slice (some ⟨g, 0, none⟩) n n, .int .i64 (n : Int), cmpV bx] W fun e w' => e = .returned (.tuple #[]) ∧ ∃ f', RowAt w0 g n f' w' ∧ Srt key f' 0 n ∧ Same (fun k => k) f' 0 n := by
  have HC := hid hc
  have H0 := hid h
  clear hc h
  unfold cmpV
  go_enter Try.func73, Try.ntmps73
  go_wp2
  go_loopw [7, 8] (fun va vb wr => ∃ (q a b : Nat) (f' : Nat → Nat), va = .int .i64 a ∧ vb = .int .i64 b ∧ b ≤ a + 20 ∧ a + 20 ≤ b ∧ a ≤ n ∧ Hid (a = q * 20) ∧ Hid (RowAt w0 g n f' wr) ∧ Hid (BksTo key f' n 20 q) ∧ Hid (∀ k, a ≤ k → f' k = k) ∧ Hid (Same (fun k => k) f' 0 n)) (fun _ vb _ => n + 20 - (intOf vb).toNat)
  case atStart => exact ⟨0, 0, 20, fun k => k, rfl, rfl, by omega, by omega, by omega, (by show (0 : Nat) = 0 * 20; omega), H0.out, (fun p hp => by omega), (fun k _ => rfl), Same.refl _ _ _⟩
  case round =>
    obtain ⟨q, a, b, f', rfl, rfl, hb1, hb2, han, hq, hR, hT, hI, hS⟩ := hrel
    by_cases hbn : b ≤ n
    · have hab : a ≤ b := by omega
      obtain ⟨b', hb'⟩ : ∃ c, c = b + 20 := ⟨_, rfl⟩
      have eb' : (b : Int) + 20 = (b' : Int) := by omega
      have hb3 : b' ≤ b + 20 := by omega
      have hb4 : b + 20 ≤ b' := by omega
      clear hb'
      go_wp2_with (go_at_call 82; refine (insertion_any hR.out HC.out a b hab hbn hn (fun k h1 _ => hI.out k h1)).mono ?_; rintro e w5 ⟨rfl, f2, hr2, ht2, hs2⟩; have HR2 := hid hr2; have HT2 := hid ht2; have HS2 := hid hs2; clear hr2 ht2 hs2)
      go_roundw
      case rel =>
        have e1 := hq.out
        refine ⟨q + 1, b, b', f2, rfl, rfl, hb3, hb4, hbn, (by show b = (q + 1) * 20; omega), HR2.out, ?_, ?_, hS.out.trans (HS2.out.wide (Nat.zero_le _) hbn)⟩
        · have hbk : Bk key f2 n a 20 := Bk.first (e := b) (by omega) (fun k h1 _ => hI.out k h1) HS2.out HT2.out
          have hs3 := HS2.out
          rw [e1] at hbk hs3
          exact hT.out.step hs3 hbk
        · intro k hk
          rw [HS2.out.out k (.inr hk)]
          exact hI.out k (by omega)
      case measure => simp [intOf]; omega
    · go_wp2_with (go_at_call 82; refine (insertion_any hR.out HC.out a n han (Nat.le_refl _) hn (fun k h1 _ => hI.out k h1)).mono ?_; rintro e w5 ⟨rfl, f2, hr2, ht2, hs2⟩; have HR2 := hid hr2; have HT2 := hid ht2; have HS2 := hid hs2; clear hr2 ht2 hs2)
      have HALL : Hid (BksFrom key f2 n 20 0 ∧ Same (fun k => k) f2 0 n) := by
        have e1 := hq.out
        have hbk : Bk key f2 n a 20 := Bk.first (e := n) (by omega) (fun k h1 _ => hI.out k h1) HS2.out HT2.out
        have hs3 := HS2.out
        refine ⟨?_, hS.out.trans (hs3.wide (Nat.zero_le _) (Nat.le_refl _))⟩
        rw [e1] at hbk hs3
        exact (hT.out.step hs3 hbk).all (by omega)
      clear hq hR hT hI hS HT2 HS2 hb1 hb2 han hbn
      go_loopw [6] (fun vs wr => ∃ (s : Nat) (f' : Nat → Nat), vs = .int .i64 s ∧ 20 ≤ s ∧ s ≤ 2000000 ∧ Hid (RowAt w0 g n f' wr) ∧ Hid (BksFrom key f' n s 0 ∧ Same (fun k => k) f' 0 n)) (fun vs _ => n - (intOf vs).toNat)
      case atStart => exact ⟨20, f2, rfl, by omega, by omega, HR2.out, HALL.out⟩
      case round =>
        clear HR2 HALL
        obtain ⟨s, f3, rfl, hs20, hsb, hR, hB⟩ := hrel
        by_cases hsn : s < n
        · obtain ⟨s2, hs2⟩ : ∃ c, c = 2 * s := ⟨_, rfl⟩
          have es2 : (s : Int) * 2 = (s2 : Int) := by omega
          have es3 : 2 * (s : Int) = (s2 : Int) := by omega
          have HS2 := hid hs2
          have hsl : 40 ≤ s2 := by omega
          have hsu : s2 ≤ 2000000 := by omega
          have hss : s < s2 := by omega
          clear hs2
          go_wp2
          go_loopw [7, 8] (fun va vb wr => ∃ (q a b : Nat) (f' : Nat → Nat), va = .int .i64 a ∧ vb = .int .i64 b ∧ b ≤ a + s2 ∧ a + s2 ≤ b ∧ a ≤ n ∧ Hid (a = q * s2) ∧ Hid (RowAt w0 g n f' wr) ∧ Hid (BksTo key f' n s2 q) ∧ Hid (BksFrom key f' n s a) ∧ Hid (Same (fun k => k) f' 0 n)) (fun _ vb _ => n + s2 - (intOf vb).toNat)
          case atStart => exact ⟨0, 0, s2, f3, rfl, rfl, by omega, by omega, by omega, (by show (0 : Nat) = 0 * s2; omega), hR.out, (fun p hp => by omega), hB.out.1, hB.out.2⟩
          case round =>
            clear hR hB
            obtain ⟨q, a, b, f4, rfl, rfl, hb1, hb2, han, hq, hR, hT, hF, hS⟩ := hrel
            obtain ⟨m, hm⟩ : ∃ c, c = a + s := ⟨_, rfl⟩
            have em : (a : Int) + (s : Int) = (m : Int) := by omega
            have ham : a < m := by omega
            have HM := hid hm
            have HP : Hid ((a < n → Bk key f4 n a s) ∧ (m < n → Bk key f4 n m s)) := by
              have h1 := hF.out
              have e1 := hq.out
              have e2 := HS2.out
              rw [e1, e2] at h1
              have h2 := h1.pair
              rw [hm, e1, e2]
              exact h2
            clear hm
            by_cases hbn : b ≤ n
            · have hmb : m < b := by have := HM.out; have := HS2.out; omega
              obtain ⟨b', hb'⟩ : ∃ c, c = b + s2 := ⟨_, rfl⟩
              have eb' : (b : Int) + (s2 : Int) = (b' : Int) := by omega
              have hb3 : b' ≤ b + s2 := by omega
              have hb4 : b + s2 ≤ b' := by omega
              clear hb'
              have BK1 := HP.out.1 (by omega)
              have BK2 := HP.out.2 (by omega)
              have P1 : Hid (Srt key f4 a m) := by have h1 := BK1.srt; have := HM.out; rw [show min (a + s) n = m by omega] at h1; exact h1
              have P2 : Hid (Srt key f4 m b) := by have h1 := BK2.srt; have := HM.out; have := HS2.out; rw [show min (m + s) n = b by omega] at h1; exact h1
              have P3 : Hid (Cross key f4 a m b) := by
                have := HM.out; have := HS2.out
                have h2 := BK2
                rw [HM.out] at h2
                have h3 := BK1.cross h2 b (by omega) hbn
                rw [← HM.out] at h3
                exact h3
              have BB1 := hid BK1
              have BB2 := hid BK2
              clear BK1 BK2 HP
              go_wp2_with (go_at_call 83; refine (sym_any HC.out hn (b - a) _ f4 a m b (Nat.le_refl _) hR.out ham hmb hbn (small_of_same hS.out) P1.out P2.out P3.out).mono ?_; rintro e w5 ⟨rfl, f5, hr5, ht5, hs5⟩; have HR5 := hid hr5; have HT5 := hid ht5; have HS5 := hid hs5; clear hr5 ht5 hs5)
              go_roundw
              case rel =>
                have e1 := hq.out
                have e2 := HS2.out
                have e3 := HM.out
                refine ⟨q + 1, b, b', f5, rfl, rfl, hb3, hb4, hbn, (by show b = (q + 1) * s2; rw [Nat.add_mul, Nat.one_mul, ← e1]; omega), HR5.out, ?_, hF.out.step HS5.out (by omega) (by omega), hS.out.trans (HS5.out.wide (Nat.zero_le _) hbn)⟩
                have h2 := BB2.out
                rw [e3] at h2
                have hbk : Bk key f5 n a s2 := by rw [e2]; exact BB1.out.merge h2 (e := b) (by omega) HS5.out HT5.out
                have hs3 := HS5.out
                rw [e1] at hbk hs3
                exact hT.out.step hs3 hbk
              case measure => simp [intOf]; omega
            · by_cases hmn : m < n
              · have BK1 := HP.out.1 (by omega)
                have BK2 := HP.out.2 hmn
                have P1 : Hid (Srt key f4 a m) := by have h1 := BK1.srt; have := HM.out; rw [show min (a + s) n = m by omega] at h1; exact h1
                have P2 : Hid (Srt key f4 m n) := by have h1 := BK2.srt; have := HM.out; have := HS2.out; rw [show min (m + s) n = n by omega] at h1; exact h1
                have P3 : Hid (Cross key f4 a m n) := by
                  have := HM.out; have := HS2.out
                  have h2 := BK2
                  rw [HM.out] at h2
                  have h3 := BK1.cross h2 n (by omega) (Nat.le_refl _)
                  rw [← HM.out] at h3
                  exact h3
                have BB1 := hid BK1
                have BB2 := hid BK2
                clear BK1 BK2 HP
                go_wp2_with (go_at_call 83; refine (sym_any HC.out hn (n - a) _ f4 a m n (Nat.le_refl _) hR.out ham hmn (Nat.le_refl _) (small_of_same hS.out) P1.out P2.out P3.out).mono ?_; rintro e w5 ⟨rfl, f5, hr5, ht5, hs5⟩; have HR5 := hid hr5; have HT5 := hid ht5; have HS5 := hid hs5; clear hr5 ht5 hs5)
                go_roundw
                case rel =>
                  have e1 := hq.out
                  have e2 := HS2.out
                  have e3 := HM.out
                  refine ⟨s2, f5, rfl, by omega, hsu, HR5.out, ?_, hS.out.trans (HS5.out.wide (Nat.zero_le _) (Nat.le_refl _))⟩
                  have h2 := BB2.out
                  rw [e3] at h2
                  have hbk : Bk key f5 n a s2 := by rw [e2]; exact BB1.out.merge h2 (e := n) (by omega) HS5.out HT5.out
                  have hs3 := HS5.out
                  rw [e1] at hbk hs3
                  refine (hT.out.step hs3 hbk).all ?_
                  rw [Nat.add_mul, Nat.one_mul, ← e1]
                  omega
                case measure => simp [intOf]; omega
              · have HEND : Hid (BksFrom key f4 n s2 0) := by
                  have e1 := hq.out
                  have e2 := HS2.out
                  have e3 := HM.out
                  rcases Nat.lt_or_ge a n with h1 | h1
                  · have hbk : Bk key f4 n a s2 := by rw [e2]; exact (HP.out.1 h1).alone (by omega)
                    rw [e1] at hbk
                    refine (hT.out.step (Same.refl f4 (q * s2) n) hbk).all ?_
                    rw [Nat.add_mul, Nat.one_mul, ← e1]
                    omega
                  · exact hT.out.all (by rw [← e1]; omega)
                clear HP
                go_wp2
                go_roundw
                case rel => exact ⟨s2, f4, rfl, by omega, hsu, hR.out, HEND.out, hS.out⟩
                case measure => simp [intOf]; omega
        · have HEND : Hid (Srt key f3 0 n) := hB.out.1.whole (by omega)
          go_wp2
          exact bodyPost_end (v := .tuple #[]) (by simp [results, Try.results73, go_sem]) rfl ⟨rfl, f3, hR.out, HEND.out, hB.out.2⟩

theorem sortStable_any {w0 W : World} {g n bx : Nat} {key : Nat → Nat} (h : RowAt w0 g n (fun k => k) W) (hc : CmpAt w0 g n bx key) (hn : n ≤ 1000000) :
    Calls Try.prog 56 #[.slice (some ⟨g, 0, none⟩) n n, cmpV bx] W fun e w' => e = .returned (.tuple #[]) ∧ ∃ f', RowAt w0 g n f' w' ∧ Srt key f' 0 n ∧ Same (fun k => k) f' 0 n := by
  have HC := hid hc
  have H0 := hid h
  clear hc h
  unfold cmpV
  go_enter Try.func56, Try.ntmps56
  go_wp2_with (go_at_call 73; refine (stable_any H0.out HC.out hn).mono ?_; rintro e w5 ⟨rfl, f2, hr2, ht2, hs2⟩; have HR2 := hid hr2; have HT2 := hid ht2; have HS2 := hid hs2; clear hr2 ht2 hs2)
  exact bodyPost_end (v := .tuple #[]) (by simp [results, Try.results56, go_sem]) rfl ⟨rfl, f2, HR2.out, HT2.out, HS2.out⟩
end Go.Proofs.Ytdplflcaanmmiaa
