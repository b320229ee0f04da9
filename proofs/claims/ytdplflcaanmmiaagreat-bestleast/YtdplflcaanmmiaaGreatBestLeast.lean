/-
  BestLeast: no tokens that mean the same bytes cost less, or are fewer: not greedy's, not flex's, not any; within each window. For every list of texts, every bytes, every number, every list of numbers.
  No condition: whatever the input, in whatever memory; the arguments read as before.
-/
import Derived.Test.YtdplflcaanmmiaaGreatAlive15
import Derived.Test.YtdplflcaanmmiaaGreatRefG
import Derived.Test.YtdplflcaanmmiaaGreatFlex
import Derived.BigQuiet
import Derived.ShutString
import Derived.ChangeOld
import Derived.SizedLaws
namespace Go.Proofs.YtdplflcaanmmiaaGreat
open Go.ChangeShapes Go.WideShapes Go.ChangeAt Go.RowKit
open Go.ChangeMaps (open_string shut_string)

/-- Where the list is cut. -/
theorem cut_at (k : Int) (K : Nat) : ∃ r : Int, r = Int.tmod k ((K : Int) + 1) ∧ ∃ n : Nat, n ≤ K ∧ Int.tmod (r + (K : Int) + 1) ((K : Int) + 1) = (n : Int) ∧ -(K : Int) ≤ r ∧ r ≤ (K : Int) := by
  refine ⟨_, rfl, ?_⟩
  have h1 : Int.tmod k ((K : Int) + 1) < (K : Int) + 1 := Int.tmod_lt_of_pos k (by omega)
  have h2 : -((K : Int) + 1) < Int.tmod k ((K : Int) + 1) := by
    have h3 := Int.tmod_lt_of_pos (-k) (b := (K : Int) + 1) (by omega)
    rw [Int.neg_tmod] at h3
    omega
  obtain ⟨r, hr⟩ : ∃ r, r = Int.tmod k ((K : Int) + 1) := ⟨_, rfl⟩
  rw [← hr] at h1 h2 ⊢
  have h4 : 0 ≤ r + (K : Int) + 1 := by omega
  have h5 := Int.tmod_nonneg ((K : Int) + 1) h4
  have h6 := Int.tmod_lt_of_pos (r + (K : Int) + 1) (b := (K : Int) + 1) (by omega)
  exact ⟨(Int.tmod (r + (K : Int) + 1) ((K : Int) + 1)).toNat, by omega, by omega, by omega, by omega⟩

/-- The cut, as it is reckoned. -/
theorem cut_wrap (k : Int) (K : Nat) (hK : K ≤ 6000) : ∃ n : Nat, n ≤ K ∧ (wrap64 (wrap64 (k.tmod ((K : Int) + 1) + (K : Int)) + 1)).tmod ((K : Int) + 1) = (n : Int) := by
  obtain ⟨r, hr, n, h1, h2, h3, h4⟩ := cut_at k K
  rw [← hr]
  have e1 : wrap64 (r + (K : Int)) = r + (K : Int) := by unfold wrap64; omega
  have e2 : wrap64 (r + (K : Int) + 1) = r + (K : Int) + 1 := by unfold wrap64; omega
  rw [e1, e2]
  exact ⟨n, h1, h2⟩

theorem xA_means {L : List ByteArray} (hL : Fine L) (b : ByteArray) : meanT (L.map nums) (xA L (nums b)) = nums b := parsT_means _ _ (xN_takes hL) _ (nums_byte b)
theorem xA_tokens {L : List ByteArray} (hL : Fine L) (b : ByteArray) : ∀ t ∈ xA L (nums b), isT (L.map nums) t := parsT_tokens _ _ (xN_takes hL) _ (nums_byte b)
theorem xA_few {L : List ByteArray} (hL : Fine L) (b : ByteArray) : (xA L (nums b)).length ≤ b.size := by have := parsT_few _ _ (xN_takes hL) (nums b); rwa [nums_length] at this

theorem cost_cell {w : World} {B g N cap : Nat} {L : List ByteArray} {y : List Nat} (h : w.ownsRow B 43 1 (.slice (some ⟨g, 0, none⟩) N cap) N (cNs (bCs L y))) (k : Nat) (hk : k ≤ y.length) : w.cell? ⟨g, k, none⟩ = some (.complex .f64 (fN (bC L (y.drop k)).1) (fN (bC L (y.drop k)).2)) := by
  have hN : (bCs L y).length = y.length + 1 := bCs_length L y
  have h1 := h.1
  rw [cNs_length, hN] at h1
  have h2 := h.cellAt k (by omega)
  rw [h2, cNs_at _ k (by omega)]
  have h3 := bCs_at L y k hk
  rw [List.getD_eq_getElem?_getD, List.getElem?_eq_getElem (by omega), Option.getD_some] at h3
  rw [h3]
  rfl

/-- Tokens that mean a text cost no less than its own, and are no fewer. -/
theorem least_of {L : List ByteArray} (hL : Fine L) {x os : List Nat} (hx : Txt x) (ht : ∀ t ∈ os, isT (L.map nums) t) (hm : meanT (L.map nums) os = x) : ¬ lt2 (tks (ints os), bts (ints os)) (bC L x) ∧ (bA L x).length ≤ os.length := by
  have hl100 : L.length ≤ 100 := hL.1
  have h1 := bestT_least (L.map nums) 40 (phrases_short hL) bB bigN (fine_nodup hL) (fine_some hL) os ht (by rw [hm]; exact hx.1) (by rw [hm]; exact hx.big)
  have h2 := (bestT_right (L.map nums) 40 (phrases_short hL) bB bigN _ x (Nat.le_refl _) hx.1 hx.big).2.1
  rw [hm, h2] at h1
  have h3 := sum_ints (fun t h => isT_small hl100 (ht t h))
  refine ⟨?_, h1.2⟩
  rw [h3]
  exact not_lt_of_le2 h1.1

theorem own_sum {L : List ByteArray} (hL : Fine L) {x : List Nat} (hx : Txt x) : (tks (ints (bA L x)), bts (ints (bA L x))) = bC L x := by
  have hl100 : L.length ≤ 100 := hL.1
  obtain ⟨_, h2, h3⟩ := bestT_right (L.map nums) 40 (phrases_short hL) bB bigN _ x (Nat.le_refl _) hx.1 hx.big
  exact (sum_ints (fun t h => isT_small hl100 (h3 t h))).trans h2

theorem mean_more {P : List (List Nat)} {us x : List Nat} {c t k : Nat} (hmu : meanT P us = x.take c) (hs : sayT P t = (x.drop c).take k) : meanT P (us ++ [t]) = x.take (c + k) := by
  rw [meanT_append, hmu, meanT_cons, meanT_nil, List.append_nil, hs, List.take_add]

/-- Rows of elements of one type, of which the one was made behind the other. -/
theorem append_apart {w w' : World} {B n : Nat} {v u : Value} {xs : List Value} {e : TypeId} (h : w.ownsRow B e 1 v n xs) (hg : w.grownBy w' u.ownBlock) (hu : ∀ g, u.ownBlock = some g → g < B) : w'.ownsRow B e 1 v n xs :=
  ownsRow_same h (fun g hv => hg.block g (h.lt g hv).2 (fun e => by
    have h1 := hu g e.symm
    have h2 := (h.lt g hv).1
    omega))

set_option maxRecDepth 20000 in
set_option maxHeartbeats 8000000 in
theorem least_walk (v : Value) (L : List ByteArray) (b : ByteArray) (win : Int) (a0 : Option Addr) (len cap : Nat) (z0 : Nat → Int) (w : World) (h : ListIn w v L) (hin : IsInts w a0 len z0) :
    Calls Tryz.prog 4 #[v, .string b, .int .i64 win, .slice a0 len cap] w fun e w' => e = .returned (.bool true) ∧ Below w.heap.size w w' := by
  have H := hid h
  clear h
  by_cases hfits : Fits L (b)
  · obtain ⟨_, h400, hF⟩ := id hfits
    have HF := hid hF
    have hl100 := hF.1
    have HFits := hid hfits
    clear hF hfits
    by_cases h1 : win < 1
    ·
      have e1 : decide (win < 1) = true := decide_eq_true h1
      go_enter Tryz.func4, Tryz.ntmps4
      go_wp2_with (first
        | (go_at_call 5; refine (dict_fits H.out HFits.out).mono ?_; rintro e w1 ⟨p, rfl, hd1, hb1⟩; have HD1 := hid hd1; have H1 := hid (H.out.below hb1); have HB1 := hid hb1; clear hd1 hb1)
        | (go_at_call 6; refine (alive_15 _).mono ?_; rintro e w2 ⟨rfl, hb2⟩))
      go_ret
      exact ⟨rfl, below_more HB1.out hb2⟩
    · by_cases h2 : 1024 < win
      ·
        have e1 : decide (win < 1) = false := decide_eq_false h1
        have e3 : decide (1024 < win) = true := decide_eq_true h2
        go_enter Tryz.func4, Tryz.ntmps4
        go_wp2_with (first
          | (go_at_call 5; refine (dict_fits H.out HFits.out).mono ?_; rintro e w1 ⟨p, rfl, hd1, hb1⟩; have HD1 := hid hd1; have H1 := hid (H.out.below hb1); have HB1 := hid hb1; clear hd1 hb1)
          | (go_at_call 6; refine (alive_15 _).mono ?_; rintro e w2 ⟨rfl, hb2⟩))
        go_ret
        exact ⟨rfl, below_more HB1.out hb2⟩
      ·
        obtain ⟨n, rfl⟩ : ∃ n : Nat, win = (n : Int) := ⟨win.toNat, by omega⟩
        have hn1 : 1 ≤ n := by omega
        have hn2 : n ≤ 1024 := by omega
        have e1 : decide ((n : Int) < 1) = false := decide_eq_false (by omega)
        have e3 : decide ((1024 : Int) < (n : Int)) = false := decide_eq_false (by omega)
        have HT := hid (txt_nums b (by omega))
        obtain ⟨al, hal⟩ : ∃ al, al = bW L n (nums b) := ⟨_, rfl⟩
        have HALL : Hid (al.length ≤ 400) := by show _ ≤ _; rw [hal]; have := bW_few HF.out hn1 HT.out; rw [nums_length] at this; omega
        have HAL := hid hal
        obtain ⟨pks, hpks⟩ : ∃ pks, pks = (List.range len).map z0 := ⟨_, rfl⟩
        have hpl : pks.length = len := by rw [hpks]; simp
        have HPK := hid (isInts_reads (cap := cap) hin)
        rw [← hpks] at HPK
        have HPL := hid hpl
        have hl1 : L.length ≤ 1000 := by omega
        clear hal hpks hpl h1 h2
        clear hin
        go_enter Tryz.func4, Tryz.ntmps4
        go_wp2_with (first
          | (go_at_call 5; refine (dict_fits H.out HFits.out).mono ?_; rintro e w1 ⟨p, rfl, hd1, hb1⟩; have HD1 := hid hd1; have H1 := hid (H.out.below hb1); have HB1 := hid hb1; clear hd1 hb1)
          | (go_at_call 6; refine (alive_15 _).mono ?_; rintro e w2 ⟨rfl, hb2⟩; have H2 := hid (H1.out.below hb2); have HD2 := hid (HD1.out.below hb2); have HB2 := hid (HB1.out.trans (hb2.mono HB1.out.size)); clear hb2)
          | (go_at_call 7; refine (parseB_any HD2.out HF.out b (by omega) n (by omega) (by omega)).mono ?_; rintro e w3 ⟨v3, rfl, ho3, hb3⟩; rw [← HAL.out] at ho3; have HA3 := hid (ownsRow_reads ho3); have HD3 := hid (HD2.out.below hb3); have H3 := hid (H2.out.below hb3); have HPK3 := hid (HPK.out.below (HB2.out.trans (hb3.mono HB2.out.size))); have HB3 := hid (HB2.out.trans (hb3.mono HB2.out.size)); clear ho3 hb3))
        go_loopw [12, 13] (fun u vi wr => ∃ (a : Nat) (ts : List Nat), vi = .int .i64 a ∧ a ≤ b.size + n ∧ ts.length ≤ min a b.size ∧ Hid (wr.ownsRow w3.heap.size 3 1 u (ints ts).length (nats (ints ts))) ∧ Hid (ts ++ bW L n ((nums b).drop a) = bW L n (nums b)) ∧ Hid (Below w3.heap.size w3 wr)) (fun _ vi _ => b.size - (intOf vi).toNat)
        case atStart => exact ⟨0, [], rfl, by omega, by simp, World.ownsRow_nil _ _ _ _, by show _ = _; simp, Below.refl _ _⟩
        case round =>
          obtain ⟨a, ts, rfl, ha, hts, hown, heq, hB⟩ := hrel
          obtain ⟨aj, cj, rfl⟩ := ownsRow_slice hown.out
          by_cases hin : a < b.size
          · have hd3 : decide ((a : Int) < (b.size : Int)) = true := decide_eq_true (by omega)
            have hne : (nums b).drop a ≠ [] := by
              intro e
              have := congrArg List.length e
              rw [List.length_drop, nums_length] at this
              simp at this
              omega
            obtain ⟨k, hk⟩ : ∃ k, k = min n (b.size - a) := ⟨_, rfl⟩
            have he := heq.out
            rw [bW_cons L n (by omega) _ hne, List.drop_drop] at he
            obtain ⟨j, hj⟩ : ∃ j, j = a + k := ⟨_, rfl⟩
            obtain ⟨e0, he0⟩ : ∃ e0, e0 = a + n := ⟨_, rfl⟩
            have hsum : (a : Int) + (n : Int) = (e0 : Int) := by omega
            have hwe := Go.IntWalk.i64_in (e0 : Int) (by omega)
            have hmn : min (e0 : Int) (b.size : Int) = (j : Int) := by omega
            have hsl := fun W => slice_amid b a j (by omega) (by omega) W
            obtain ⟨s, hs⟩ : ∃ s, s = b.extract a j := ⟨_, rfl⟩
            have hns : nums s = ((nums b).drop a).take n := by
              rw [hs, hj, nums_amid]
              by_cases hc : n ≤ b.size - a
              · rw [hk, Nat.min_eq_left hc]
              · rw [List.take_of_length_le (by rw [List.length_drop, nums_length, hk]; omega), List.take_of_length_le (by rw [List.length_drop, nums_length]; omega)]
            have hss : s.size = k := by
              rw [← nums_length, hns, List.length_take, List.length_drop, nums_length, hk]
            rw [← hs] at hsl
            rw [← hns] at he
            have hs400 : s.size ≤ 400 := by omega
            have hs1 : 1 ≤ s.size := by omega
            have HTS := hid (txt_nums s (by omega))
            obtain ⟨x, hx⟩ : ∃ x, x = nums s := ⟨_, rfl⟩
            rw [← hx] at he HTS
            have HXL : Hid (x.length = s.size) := by show _ = _; rw [hx, nums_length]
            have HX := hid hx
            have HE := hid he
            have HEK : Hid (k = min n (b.size - a)) := hk
            have HSS := hid hss
            have HE0 := hid he0
            have hak : min a b.size + s.size ≤ min (a + n) b.size := by omega
            obtain ⟨ps, hps⟩ : ∃ ps, ps = bA L x := ⟨_, rfl⟩
            have hpl : ps.length ≤ s.size := by rw [hps]; have := bA_few (phrases_short HF.out) HTS.out; rw [HXL.out] at this; exact this
            have HPS := hid hps
            have HW1 : Hid (bW L s.size (nums s) = ps) := by show _ = _; rw [bW_one hs1 (by rw [nums_length]; exact Nat.le_refl _), hps, HX.out]
            have hsum1 := own_sum HF.out HTS.out
            rw [← hps] at hsum1
            have hps2 : ps.length ≤ 400 := by omega
            have htl : ts.length ≤ 400 := by omega
            have hd4 : decide ((s.size : Int) < 1) = false := decide_eq_false (by omega)
            have HPC := hid (parseB_any (HD3.out.below hB.out) HF.out s (by omega) s.size (by omega) (by omega))
            rw [HW1.out] at HPC
            obtain ⟨pl, hpl0⟩ : ∃ pl, pl = (ints ps).length := ⟨_, rfl⟩
            rw [← hpl0] at HPC
            rw [ints_length] at hpl0
            have HPL0 := hid hpl0
            have hpl9 : pl ≤ 400 := by omega
            clear hpl0
            clear hk he heq hne hj he0 hs hns hss hx hps
            go_wp2_with (first
              | (go_at_call 7; refine (HPC.out).mono ?_; rintro e w4 ⟨v4, rfl, ho4, hb4⟩; obtain ⟨a4, c4, rfl⟩ := ownsRow_slice ho4; have HO4 := hid ho4; have HJ4 := hid (ownsRow_below hown.out hb4); have HB4 := hid (below_more hB.out hb4); have HJB := hid (fun q hq => (hown.out.lt q hq).2); have HZ4 := hid (Nat.le_trans hB.out.size hb4.size); clear ho4 hb4)
              | (at_builtin; refine wpList_append_intsG rfl (.tmp 73) (.tmp 74) rfl w3.heap.size _ (ints ts) rfl HJ4.out _ (ints ps) rfl (ownsRow_reads HO4.out) (by rw [ints_length, ints_length]; omega) HZ4.out ?_; intro v5 w5 hown5 hgr5; have HJ5 := hid hown5; have HP5 := hid (append_apart HO4.out hgr5 HJB.out); have HB5 := hid (HB4.out.grown hgr5 HZ4.out (fun q hq => (HJ4.out.lt q hq).1)); clear hown5 hgr5))
            have HZ5 := hid HB5.out.size
            have H5 := hid (H3.out.below HB5.out)
            have HPK5 := hid (HPK3.out.below HB5.out)
            have HD5 := hid (HD3.out.below HB5.out)
            clear hown hB HPC HJ4 HO4 HB4 HJB HZ4
            go_loopw [16, 17, 18] (fun u vc vi wr => ∃ (c i : Nat) (us : List Nat), vc = .int .i64 (c : Int) ∧ vi = .int .i64 (i : Int) ∧ c ≤ s.size ∧ i ≤ c ∧ us.length ≤ c ∧ Hid (wr.ownsRow w5.heap.size 3 1 u (ints us).length (nats (ints us))) ∧ Hid ((∀ t ∈ us, isT (L.map nums) t) ∧ meanT (L.map nums) us = x.take c) ∧ Hid (Below w5.heap.size w5 wr)) (fun _ vc _ _ => s.size - (intOf vc).toNat)
            case atStart => exact ⟨0, 0, [], rfl, rfl, by omega, by omega, by simp, World.ownsRow_nil _ _ _ _, ⟨fun t ht => (by cases ht), rfl⟩, Below.refl _ _⟩
            case round =>
              obtain ⟨c, i, us, rfl, rfl, hc, hic, hul, hown, hmu, hbr⟩ := hrel
              obtain ⟨au, cu, rfl⟩ := ownsRow_slice hown.out
              by_cases hcs : c < s.size
              · have hd5 : decide ((c : Int) < (s.size : Int)) = true := decide_eq_true (by omega)
                obtain ⟨z, hz⟩ : ∃ z, z = x.drop c := ⟨_, rfl⟩
                have hzl : z.length = s.size - c := by rw [hz, List.length_drop, HXL.out]
                have hzt : Txt z := by rw [hz]; exact HTS.out.drop c
                have HST := hid (stands_any (H5.out.below hbr.out).1 hl1 s (by omega) c hcs)
                rw [← HX.out, ← hz] at HST
                obtain ⟨S, hS⟩ : ∃ S, S = standsT (L.map nums) 40 z := ⟨_, rfl⟩
                rw [← hS] at HST
                obtain ⟨m, hm⟩ : ∃ m, m = S.length := ⟨_, rfl⟩
                rw [← hm] at HST
                have hm40 : m ≤ 40 := by rw [hm, hS]; unfold standsT; refine Nat.le_trans (List.length_filter_le _ _) ?_; rw [List.length_reverse, List.length_range']; omega
                have HZ := hid hz
                have HSt := hid hS
                have HM := hid hm
                have HZL := hid hzl
                have HZT := hid hzt
                clear hz hzl hzt hS hm
                by_cases hip : i < len
                · have hdp : decide ((i : Int) < (len : Int)) = true := decide_eq_true (by omega)
                  have hiP : i < pks.length := by rw [HPL.out]; exact hip
                  obtain ⟨b1, off1, e0', hlp, hb1, hcell⟩ := reads_int HPK5.out (by omega)
                  clear hlp
                  subst e0'
                  have hcp := keeps hbr.out _ _ (hcell i hiP)
                  have HCP := hid hcp
                  obtain ⟨pk, hpk⟩ : ∃ pk, pk = pks[i]'hiP := ⟨_, rfl⟩
                  rw [← hpk] at HCP
                  obtain ⟨q, hqm, hcw⟩ := cut_wrap pk m (by omega)
                  have hxi : (decide ((0 : Int) ≤ (i : Int) ∧ (i : Int) < (len : Int))) = true := decide_eq_true ⟨by omega, by omega⟩
                  clear hcell hcp hpk hiP
                  by_cases hqq : q = m
                  · have hq : ((q : Int) == (m : Int)) = true := by rw [beq_iff_eq]; omega
                    obtain ⟨c0, hc0⟩ : ∃ c0, c0 = z.headD 0 := ⟨_, rfl⟩
                    have hzd : (nums s).drop c = (s[c]'hcs).toNat :: (nums s).drop (c + 1) := by
                      rw [List.drop_eq_getElem_cons (by rw [nums_length]; exact hcs), nums_at s c hcs]
                    have hcb : ((s[c]'hcs).toNat : Int) = (c0 : Int) := by
                      rw [hc0, HZ.out, HX.out, hzd]
                      rfl
                    have hc1 : c0 < 256 := by have := (s[c]'hcs).toNat_lt; omega
                    have hbi := fun W => byte_index s c hcs W
                    rw [hcb] at hbi
                    have hwc := Go.IntWalk.i64_in (c0 : Int) (by omega)
                    have HNM : Hid ((∀ t ∈ us ++ [c0], isT (L.map nums) t) ∧ meanT (L.map nums) (us ++ [c0]) = x.take (c + 1)) := by
                      refine ⟨fun t ht => ?_, mean_more hmu.out.2 ?_⟩
                      · rcases List.mem_append.1 ht with h | h
                        · exact hmu.out.1 t h
                        · rw [List.mem_singleton] at h
                          subst h
                          unfold isT
                          omega
                      · unfold sayT
                        rw [if_pos hc1, HX.out, hzd, List.take_succ_cons, List.take_zero]
                        congr 1
                        omega
                    clear hc0 hcb hzd
                    go_wp2_with (first
                      | (go_at_call 16; refine (HST.out).mono ?_; rintro e w6 ⟨v6, rfl, ho6, hb6⟩; obtain ⟨a6, c6, rfl⟩ := ownsRow_slice ho6; have HR6 := hid ho6; have HO6 := hid (ownsRow_below hown.out hb6); have HB6 := hid (below_more hbr.out hb6); have HOB := hid (fun q hq => (hown.out.lt q hq).2); have HZ6 := hid (Nat.le_trans hbr.out.size hb6.size); have cpk := keeps hb6 _ _ HCP.out; clear ho6 hb6)
                      | (at_builtin; refine wpList_append_intsG rfl (.tmp 112) (.tmp 117) rfl w5.heap.size _ (ints us) rfl (HO6.out.alloc _) _ [(c0 : Int)] rfl (reads_built _ #[.int .i64 (c0 : Int)] _ 1 rfl) (by rw [ints_length]; simp; omega) (by have := HZ6.out; simp; omega) ?_; intro v9 w9 hown9 hgr9; have HO9 := hid hown9; have HB9 := hid ((HB6.out.alloc HB6.out.size _).grown hgr9 (by have := HZ6.out; simp; omega) (fun q hq => (HO6.out.lt q hq).1)); clear hown9 hgr9))
                    have HO10 : Hid (w9.ownsRow w5.heap.size 3 1 v9 (ints (us ++ [c0])).length (nats (ints (us ++ [c0])))) := by
                      have e : ints (us ++ [c0]) = ints us ++ [(c0 : Int)] := by simp [ints]
                      show World.ownsRow _ _ _ _ _ _ _
                      rw [e]
                      exact HO9.out
                    go_roundw
                    case rel => exact ⟨c + 1, i + 1, us ++ [c0], by go_num, by go_num, by omega, by omega, by rw [List.length_append, List.length_singleton]; omega, HO10.out, HNM.out, HB9.out⟩
                    case measure => simp [intOf]; omega
                  · have hq : ((q : Int) == (m : Int)) = false := by rw [beq_eq_false_iff_ne]; omega
                    have hqS : q < S.length := by rw [← HM.out]; omega
                    have hxq : (decide ((0 : Int) ≤ (q : Int) ∧ (q : Int) < (m : Int))) = true := decide_eq_true ⟨by omega, by omega⟩
                    obtain ⟨d, hd⟩ : ∃ d, d = S[q]'hqS := ⟨_, rfl⟩
                    have hdS := (standsT_mem (L.map nums) 40 (phrases_short HF.out) z d).1 (by rw [hd, ← HSt.out]; exact List.getElem_mem _)
                    obtain ⟨hd1, hd2, hd33⟩ := hdS
                    have hts := tokT_says (L.map nums) z d HZT.out.1 hd1 hd2 (.inl hd33)
                    have hti := tokT_is (L.map nums) z d HZT.out.1
                    have htl2 := isT_small hl100 hti
                    rw [HZL.out] at hd2
                    have HTOK := fun (W : World) (hW : Below w5.heap.size w5 W) => hid (token_any (H5.out.below hW).1 hl1 s (by omega) c d hcs (by omega))
                    simp only [← HX.out, ← HZ.out] at HTOK
                    obtain ⟨t, ht⟩ : ∃ t, t = tokT (L.map nums) z d := ⟨_, rfl⟩
                    simp only [← ht] at HTOK
                    rw [← ht] at hts hti htl2
                    have HNM : Hid ((∀ t' ∈ us ++ [t], isT (L.map nums) t') ∧ meanT (L.map nums) (us ++ [t]) = x.take (c + d)) := by
                      refine ⟨fun t' ht' => ?_, mean_more hmu.out.2 (by rw [hts, HZ.out])⟩
                      rcases List.mem_append.1 ht' with h | h
                      · exact hmu.out.1 t' h
                      · rw [List.mem_singleton] at h
                        subst h
                        exact hti
                    have HDQ : Hid ((numsI S)[q]? = some (.int .i64 (d : Int))) := by show _ = _; rw [numsI_at _ q hqS, ← hd]
                    obtain ⟨c2, hc2⟩ : ∃ c2, c2 = c + d := ⟨_, rfl⟩
                    have hsumc : (c : Int) + (d : Int) = (c2 : Int) := by omega
                    have HC2 := hid hc2
                    clear hd hd33 hts hti ht hc2
                    go_wp2_with (first
                      | (go_at_call 16; refine (HST.out).mono ?_; rintro e w6 ⟨v6, rfl, ho6, hb6⟩; obtain ⟨g6, c6, rfl, _, _⟩ := ho6.form (by omega); have HR6 := hid ho6; have k6 := ho6.cellAt q (by omega); rw [HDQ.out] at k6; have HO6 := hid (ownsRow_below hown.out hb6); have HB6 := hid (below_more hbr.out hb6); have HOB := hid (fun q hq => (hown.out.lt q hq).2); have HZ6 := hid (Nat.le_trans hbr.out.size hb6.size); have cpk := keeps hb6 _ _ HCP.out; clear ho6 hb6)
                      | (go_at_call 17; refine ((HTOK _ HB6.out).out).mono ?_; rintro e w7 ⟨rfl, rfl⟩)
                      | (at_builtin; refine wpList_append_intsG rfl (.tmp 121) (.tmp 130) rfl w5.heap.size _ (ints us) rfl (HO6.out.alloc _) _ [(t : Int)] rfl (reads_built _ #[.int .i64 (t : Int)] _ 1 rfl) (by rw [ints_length]; simp; omega) (by have := HZ6.out; simp; omega) ?_; intro v9 w9 hown9 hgr9; have HO9 := hid hown9; have HB9 := hid ((HB6.out.alloc HB6.out.size _).grown hgr9 (by have := HZ6.out; simp; omega) (fun q hq => (HO6.out.lt q hq).1)); have k9 := (append_apart (HR6.out.alloc _) hgr9 HOB.out).cellAt q (by omega); rw [HDQ.out] at k9; clear hown9 hgr9))
                    have HO10 : Hid (w9.ownsRow w5.heap.size 3 1 v9 (ints (us ++ [t])).length (nats (ints (us ++ [t])))) := by
                      have e : ints (us ++ [t]) = ints us ++ [(t : Int)] := by simp [ints]
                      show World.ownsRow _ _ _ _ _ _ _
                      rw [e]
                      exact HO9.out
                    go_roundw
                    case rel => exact ⟨c2, i + 1, us ++ [t], by first | rfl | rw [← hsumc], by go_num, by have := HC2.out; omega, by have := HC2.out; omega, by rw [List.length_append, List.length_singleton]; have := HC2.out; omega, HO10.out, by rw [HC2.out]; exact HNM.out, HB9.out⟩
                    case measure => have := HC2.out; simp [intOf]; omega
                · have hdp : decide ((i : Int) < (len : Int)) = false := decide_eq_false (by omega)
                  have hq : ((m : Int) == (m : Int)) = true := by simp
                  obtain ⟨c0, hc0⟩ : ∃ c0, c0 = z.headD 0 := ⟨_, rfl⟩
                  have hzd : (nums s).drop c = (s[c]'hcs).toNat :: (nums s).drop (c + 1) := by
                    rw [List.drop_eq_getElem_cons (by rw [nums_length]; exact hcs), nums_at s c hcs]
                  have hcb : ((s[c]'hcs).toNat : Int) = (c0 : Int) := by
                    rw [hc0, HZ.out, HX.out, hzd]
                    rfl
                  have hc1 : c0 < 256 := by have := (s[c]'hcs).toNat_lt; omega
                  have hbi := fun W => byte_index s c hcs W
                  rw [hcb] at hbi
                  have hwc := Go.IntWalk.i64_in (c0 : Int) (by omega)
                  have HNM : Hid ((∀ t ∈ us ++ [c0], isT (L.map nums) t) ∧ meanT (L.map nums) (us ++ [c0]) = x.take (c + 1)) := by
                    refine ⟨fun t ht => ?_, mean_more hmu.out.2 ?_⟩
                    · rcases List.mem_append.1 ht with h | h
                      · exact hmu.out.1 t h
                      · rw [List.mem_singleton] at h
                        subst h
                        unfold isT
                        omega
                    · unfold sayT
                      rw [if_pos hc1, HX.out, hzd, List.take_succ_cons, List.take_zero]
                      congr 1
                      omega
                  clear hc0 hcb hzd
                  go_wp2_with (first
                    | (go_at_call 16; refine (HST.out).mono ?_; rintro e w6 ⟨v6, rfl, ho6, hb6⟩; obtain ⟨a6, c6, rfl⟩ := ownsRow_slice ho6; have HR6 := hid ho6; have HO6 := hid (ownsRow_below hown.out hb6); have HB6 := hid (below_more hbr.out hb6); have HOB := hid (fun q hq => (hown.out.lt q hq).2); have HZ6 := hid (Nat.le_trans hbr.out.size hb6.size); clear ho6 hb6)
                    | (at_builtin; refine wpList_append_intsG rfl (.tmp 112) (.tmp 117) rfl w5.heap.size _ (ints us) rfl (HO6.out.alloc _) _ [(c0 : Int)] rfl (reads_built _ #[.int .i64 (c0 : Int)] _ 1 rfl) (by rw [ints_length]; simp; omega) (by have := HZ6.out; simp; omega) ?_; intro v9 w9 hown9 hgr9; have HO9 := hid hown9; have HB9 := hid ((HB6.out.alloc HB6.out.size _).grown hgr9 (by have := HZ6.out; simp; omega) (fun q hq => (HO6.out.lt q hq).1)); clear hown9 hgr9))
                  have HO10 : Hid (w9.ownsRow w5.heap.size 3 1 v9 (ints (us ++ [c0])).length (nats (ints (us ++ [c0])))) := by
                    have e : ints (us ++ [c0]) = ints us ++ [(c0 : Int)] := by simp [ints]
                    show World.ownsRow _ _ _ _ _ _ _
                    rw [e]
                    exact HO9.out
                  go_roundw
                  case rel => exact ⟨c + 1, i + 1, us ++ [c0], by go_num, by go_num, by omega, by omega, by rw [List.length_append, List.length_singleton]; omega, HO10.out, HNM.out, HB9.out⟩
                  case measure => simp [intOf]; omega
              · obtain rfl : c = s.size := by omega
                have hmx := hmu.out.2
                rw [List.take_of_length_le (by rw [HXL.out]; exact Nat.le_refl _)] at hmx
                have HMX := hid hmx
                have HIT := hid hmu.out.1
                have HP6 := hid (ownsRow_below HP5.out hbr.out)
                have HJ6 := hid (ownsRow_below HJ5.out hbr.out)
                have HD6 := hid (HD5.out.below hbr.out)
                have H6 := hid (H5.out.below hbr.out)
                have HZ6 : Hid (w3.heap.size ≤ w5.heap.size) := HZ5.out
                have HB6 := hid (HB5.out.trans (hbr.out.mono HZ5.out))
                have HO6 := hid hown.out
                have hpl2 : (ints ps).length ≤ 1000000 := by rw [ints_length]; omega
                obtain ⟨x1, hx1⟩ : ∃ x1, x1 = tks (ints ps) := ⟨_, rfl⟩
                obtain ⟨y1, hy1⟩ : ∃ y1, y1 = bts (ints ps) := ⟨_, rfl⟩
                have hxz := tks_le (ints ps)
                have hyz := bts_le (ints ps)
                rw [ints_length, ← hx1] at hxz
                rw [ints_length, ← hy1] at hyz
                have hs1' := hsum1
                rw [← hx1, ← hy1] at hs1'
                have HXY : Hid (bC L x = (x1, y1)) := hs1'.symm
                have HX1 := hid (And.intro hx1 hy1)
                have hps3 : ps.length ≤ 400 := hps2
                have HG := hid (parse_any HD6.out HF.out s (by omega))
                clear hmx hmu hown hbr hx1 hy1 hs1'
                go_wp2_with (first
                  | (go_at_call 18; refine (sum_any (ownsRow_reads HP6.out) hpl2).mono ?_; rintro e w6 ⟨rfl, rfl⟩; rw [← HX1.out.1, ← HX1.out.2])
                  | (go_at_call 19; refine (HG.out).mono ?_; rintro e w7 ⟨v7, rfl, ho7, hb7⟩; obtain ⟨a7, c7, rfl⟩ := ownsRow_slice ho7; have HR7 := hid (ownsRow_reads ho7); have HP7 := hid (ownsRow_below HP6.out hb7); have HJ7 := hid (ownsRow_below HJ6.out hb7); have HO7 := hid (ownsRow_below HO6.out hb7); have HD7 := hid (HD6.out.below hb7); have H7 := hid (H6.out.below hb7); have HB7 := hid (below_more HB6.out hb7); clear ho7 hb7)
                  | (go_at_call 20; refine (parseX_any HD7.out HF.out s (by omega)).mono ?_; rintro e w8 ⟨v8, rfl, ho8, hb8⟩; obtain ⟨a8, c8, rfl⟩ := ownsRow_slice ho8; have HR8 := hid (ownsRow_reads ho8); have HR78 := hid (HR7.out.below hb8); have HP8 := hid (ownsRow_below HP7.out hb8); have HJ8 := hid (ownsRow_below HJ7.out hb8); have HO8 := hid (ownsRow_below HO7.out hb8); have HD8 := hid (HD7.out.below hb8); have H8 := hid (H7.out.below hb8); have HB8 := hid (below_more HB7.out hb8); clear ho8 hb8))
                have hwa : Below w8.heap.size w8 (w8.alloc (.cells #[.slice au (ints us).length cu, .slice a7 (gA L (nums s)).length c7, .slice a8 (xA L (nums s)).length c8] 27)) := (Below.refl _ _).alloc (Nat.le_refl _) _
                have hnw : (w8.alloc (.cells #[.slice au (ints us).length cu, .slice a7 (gA L (nums s)).length c7, .slice a8 (xA L (nums s)).length c8] 27)).heap[w8.heap.size]? = some (.cells #[.slice au (ints us).length cu, .slice a7 (gA L (nums s)).length c7, .slice a8 (xA L (nums s)).length c8] 27 (0, 0)) := heap_alloc_new w8 _
                have HP9 := hid (ownsRow_below HP8.out hwa)
                have HJ9 := hid (ownsRow_below HJ8.out hwa)
                have HD9 := hid (HD8.out.below hwa)
                have H9 := hid (H8.out.below hwa)
                have HB9 := hid (below_more HB8.out hwa)
                have HOT : Hid (∀ i, i < 3 → ∃ (ao : Option Addr) (co : Nat) (os : List Nat), (w8.alloc (.cells #[.slice au (ints us).length cu, .slice a7 (gA L (nums s)).length c7, .slice a8 (xA L (nums s)).length c8] 27)).cell? ⟨w8.heap.size, i, none⟩ = some (.slice ao os.length co) ∧ Reads (w8.alloc (.cells #[.slice au (ints us).length cu, .slice a7 (gA L (nums s)).length c7, .slice a8 (xA L (nums s)).length c8] 27)) (.slice ao os.length co) (nats (ints os)) ∧ (∀ t ∈ os, isT (L.map nums) t) ∧ meanT (L.map nums) os = x ∧ os.length ≤ 1000) := by
                  have hpick : ∀ (u : Value) (os : List Nat) (i : Nat), (w8.alloc (.cells #[.slice au (ints us).length cu, .slice a7 (gA L (nums s)).length c7, .slice a8 (xA L (nums s)).length c8] 27)).cell? ⟨w8.heap.size, i, none⟩ = some u → Reads w8 u (nats (ints os)) → (∀ t ∈ os, isT (L.map nums) t) → meanT (L.map nums) os = x → os.length ≤ 1000 → ∃ (ao : Option Addr) (co : Nat) (os : List Nat), (w8.alloc (.cells #[.slice au (ints us).length cu, .slice a7 (gA L (nums s)).length c7, .slice a8 (xA L (nums s)).length c8] 27)).cell? ⟨w8.heap.size, i, none⟩ = some (.slice ao os.length co) ∧ Reads (w8.alloc (.cells #[.slice au (ints us).length cu, .slice a7 (gA L (nums s)).length c7, .slice a8 (xA L (nums s)).length c8] 27)) (.slice ao os.length co) (nats (ints os)) ∧ (∀ t ∈ os, isT (L.map nums) t) ∧ meanT (L.map nums) os = x ∧ os.length ≤ 1000 := by
                    intro u os i hc hr h1 h2 h3
                    obtain ⟨ao, co, hu, _⟩ := id hr
                    rw [nats_length, ints_length] at hu
                    rw [hu] at hc hr
                    exact ⟨ao, co, os, hc, hr.below hwa, h1, h2, h3⟩
                  intro i hi
                  have hcell : (w8.alloc (.cells #[.slice au (ints us).length cu, .slice a7 (gA L (nums s)).length c7, .slice a8 (xA L (nums s)).length c8] 27)).cell? ⟨w8.heap.size, i, none⟩ = (#[.slice au (ints us).length cu, .slice a7 (gA L (nums s)).length c7, .slice a8 (xA L (nums s)).length c8] : Array Value)[i]? := by
                    rw [cell_of_row _ _ _ _ _ _ hnw]
                  rcases (show i = 0 ∨ i = 1 ∨ i = 2 by omega) with rfl | rfl | rfl
                  · exact hpick _ us 0 hcell (ownsRow_reads HO8.out) HIT.out HMX.out (by omega)
                  · exact hpick _ (gA L (nums s)) 1 hcell HR78.out (gA_tokens HF.out s) (by rw [gA_means HF.out s, HX.out]) (by have := gA_few HF.out s; omega)
                  · exact hpick _ (xA L (nums s)) 2 hcell HR8.out (xA_tokens HF.out s) (by rw [xA_means HF.out s, HX.out]) (by have := xA_few HF.out s; omega)
                have HGA : Hid (w3.heap.size ≤ w8.heap.size) := HB8.out.size
                clear hwa hnw HP6 HJ6 HD6 H6 HB6 HO6 HP7 HJ7 HO7 HD7 H7 HB7 HR7 HP8 HJ8 HO8 HD8 H8 HB8 HR78 HR8 HG HMX HIT
                obtain ⟨g9, hg9⟩ : ∃ g9, g9 = w8.heap.size := ⟨_, rfl⟩
                rw [← hg9] at HOT ⊢
                clear hg9
                generalize w8.alloc (.cells #[.slice au (ints us).length cu, .slice a7 (gA L (nums s)).length c7, .slice a8 (xA L (nums s)).length c8] 27) = w9 at HOT HP9 HJ9 HD9 H9 HB9 ⊢
                go_loopw [149] (fun vi wr => ∃ i : Nat, vi = .int .i64 (i : Int) ∧ i ≤ 3 ∧ Hid (Below w9.heap.size w9 wr)) (fun vi _ => 3 - (intOf vi).toNat)
                case atStart => exact ⟨0, rfl, by omega, Below.refl _ _⟩
                case round =>
                  obtain ⟨i, rfl, hi, hbr⟩ := hrel
                  by_cases hi3 : i < 3
                  · have hdi : decide ((i : Int) < 3) = true := decide_eq_true (by omega)
                    have hxi : (decide ((0 : Int) ≤ (i : Int) ∧ (i : Int) < 3)) = true := decide_eq_true ⟨by omega, by omega⟩
                    obtain ⟨ao, co, os, hc, hr, hot, hom, hol⟩ := HOT.out i hi3
                    have hcb := keeps hbr.out _ _ hc
                    have HRO := hid (hr.below hbr.out)
                    obtain ⟨hl1', hl2'⟩ := least_of HF.out HTS.out hot hom
                    rw [HXY.out] at hl1'
                    have hps4 : ps.length ≤ os.length := by rw [HPS.out]; exact hl2'
                    obtain ⟨x2, hx2⟩ : ∃ x2, x2 = tks (ints os) := ⟨_, rfl⟩
                    obtain ⟨y2, hy2⟩ : ∃ y2, y2 = bts (ints os) := ⟨_, rfl⟩
                    have hxz2 := tks_le (ints os)
                    have hyz2 := bts_le (ints os)
                    rw [ints_length, ← hx2] at hxz2
                    rw [ints_length, ← hy2] at hyz2
                    rw [← hx2, ← hy2] at hl1'
                    have HX2 := hid (And.intro hx2 hy2)
                    have HLE : Hid (decide (x2 < x1 ∨ x2 = x1 ∧ y2 < y1) = false) := decide_eq_false hl1'
                    have HOT2 := hid hot
                    have HOM := hid hom
                    obtain ⟨ol, hol0⟩ : ∃ ol, ol = os.length := ⟨_, rfl⟩
                    rw [← hol0] at hcb HRO
                    have hdl : decide ((ol : Int) < (pl : Int)) = false := decide_eq_false (by have := HPL0.out; omega)
                    have hdl2 : decide (ol < pl) = false := decide_eq_false (by have := HPL0.out; omega)
                    have hol3 : os.length ≤ 100000 := by omega
                    have hxx2 : x2 ≤ 1000 := by omega
                    have hyy2 : y2 ≤ 40000 := by omega
                    have hol2 : (ints os).length ≤ 1000000 := by rw [ints_length]; omega
                    clear hc hr hot hom hl1' hl2' hx2 hy2 hol0 hxz2 hyz2 hol hps4
                    go_wp2_with (first
                      | (go_at_call 15; refine (says_any (H9.out.below hbr.out).1 hl1 HRO.out hol3 HOT2.out s (by omega) (by rw [HOM.out, HX.out])).mono ?_; rintro e wA ⟨rfl, hbA⟩; have HRA := hid (HRO.out.below hbA); have HBA := hid (below_more hbr.out hbA); clear hbA)
                      | (go_at_call 18; refine (sum_any HRA.out hol2).mono ?_; rintro e wB ⟨rfl, rfl⟩; rw [← HX2.out.1, ← HX2.out.2])
                      | (go_at_call 21; refine (less_in x2 y2 x1 y1 (by omega) (by omega) (by omega) (by omega) _).mono ?_; rintro e wC ⟨rfl, rfl⟩; rw [HLE.out]))
                    go_roundw
                    case rel => exact ⟨i + 1, by go_num, by omega, HBA.out⟩
                    case measure => simp [intOf]; omega
                  · obtain rfl : i = 3 := by omega
                    have HDr := hid (HD9.out.below hbr.out)
                    have HJr := hid (ownsRow_below HJ9.out hbr.out)
                    have HBr := hid (below_more HB9.out hbr.out)
                    have o1 : (FloatKind.f64.format.order (fN x1) (fN x1) == some .eq) = true := by rw [eq_fN x1 x1 (by omega) (by omega), decide_eq_true rfl]
                    have o2 : (FloatKind.f64.format.order (fN y1) (fN y1) == some .eq) = true := by rw [eq_fN y1 y1 (by omega) (by omega), decide_eq_true rfl]
                    have hsb : ((s.size : Int) + 1 != ((s.size : Int) + 1)) = false := by simp
                    have hwsz := Go.IntWalk.i64_in ((s.size : Int) + 1) (by omega)
                    have hx0 : (decide ((0 : Int) ≤ (0 : Int) ∧ (0 : Int) < (s.size : Int) + 1)) = true := decide_eq_true ⟨by omega, by omega⟩
                    have hx02 : (0 : Int) < (s.size : Int) + 1 := by omega
                    have HCS := hid (costsB_any HDr.out HF.out s (by omega))
                    go_wp2_with (go_at_call 8; refine (HCS.out).mono ?_; rintro e wD ⟨vD, rfl, hoD, hbD⟩; obtain ⟨gD, cD, rfl, _, _⟩ := hoD.form (by omega); have cc := cost_cell hoD 0 (Nat.zero_le _); rw [List.drop_zero, ← HX.out, HXY.out] at cc; have HJD := hid (ownsRow_below HJr.out hbD); have HBD := hid (below_more HBr.out hbD); clear hoD hbD)
                    have HE2 := HE.out
                    go_roundw
                    case rel =>
                      refine ⟨a + n, ts ++ ps, by rw [← HE0.out], by omega, by rw [List.length_append]; omega, ?_, ?_, HBD.out⟩
                      · have e : ints (ts ++ ps) = ints ts ++ ints ps := by simp [ints]
                        rw [e]
                        exact HJD.out
                      · show _ = _
                        rw [List.append_assoc, HPS.out]
                        exact HE2
                    case measure => have := HE0.out; simp [intOf]; omega
          · have hd : (nums b).drop a = [] := List.drop_eq_nil_of_le (by rw [nums_length]; omega)
            have he := heq.out
            rw [hd, bW_nil, List.append_nil, ← HAL.out] at he
            subst he
            have HRA := hid (HA3.out.below hB.out)
            have HRJ := hid (ownsRow_reads hown.out)
            have HBr := hid (HB3.out.trans (hB.out.mono HB3.out.size))
            go_wp2_with (go_at_call 13; refine (sameInts_any (xs := ints ts) (ys := ints ts) HRA.out HRJ.out (by rw [ints_length]; have := HALL.out; omega) (by rw [ints_length]; have := HALL.out; omega)).mono ?_; rintro e w9 ⟨rfl, hb9⟩; rw [decide_eq_true rfl]; have HB9 := hid (below_more HBr.out hb9); clear hb9)
            go_ret
            exact ⟨rfl, HB9.out⟩
  · have HFits := hid hfits
    clear hfits
    go_enter Tryz.func4, Tryz.ntmps4
    go_wp2_with (first
      | (go_at_call 5; refine (dict_no H.out HFits.out).mono ?_; rintro e w1 ⟨rfl, rfl⟩)
      | (go_at_call 6; refine (alive_15 _).mono ?_; rintro e w2 ⟨rfl, hb2⟩))
    go_ret
    exact ⟨rfl, hb2⟩

set_option linter.unusedVariables false
theorem bestLeast_own : ownKnob Tryz.prog.godebug = none := by kernel_rfl

theorem bestLeast_laidOut : laidOutB Tryz.prog = true := by kernel_rfl

set_option maxRecDepth 100000 in
theorem bestLeast_lifted (os : Os) (started : os.Started) (H : Type) (enc : TypeId × Value → H) :
    ReturnsInHanded {} Tryz.checked os 4 .any (Rows.bestLeastSpec.pre6 enc Tryz.prog Tryz.f4 Rows.bestLeastRow.domain false) (Rows.bestLeastSpec.post enc Tryz.prog Tryz.f4 false true false false) := by
  refine returnsInHanded_of_change_sized (C := Tryz.checked) bestLeast_own started (by kernel_rfl) Tryz.func4
    (ChangeSpec.witness6 (enc := enc) (C := Tryz.checked) false ⟨#[], #[.slice none 0 0, .string ByteArray.empty, .int .i64 0, .slice none 0 0], []⟩ 8 (by kernel_rfl) (by kernel_rfl) (by kernel_rfl) (by kernel_rfl)) ?_
  intro W base args ds gs before hval0 hW hcnd hsz0 _
  have hsz : (DataW.weightsEach Tryz.prog (Tryz.f4.params.toList ++ Rows.bestLeastSpec.plain.varTypes Tryz.prog) (ds ++ gs)).all (· ≤ reachBytes) = true := hsz0
  have hval : ∀ (j : Nat) t v, Tryz.f4.params[j]? = some t → args[j]? = some v → Value.okWide Tryz.prog W .any base t v := hval0
  have hW' := hW
  obtain ⟨p, q, hA0, hV, rfl, hfz, hnd⟩ := hW
  have hA : DataW.TrodAll enc Tryz.prog W 0 (fun _ => true) true Tryz.f4.params.toList args.toList ds p := hA0
  rw [Tryz.params4] at hA hval hsz
  obtain ⟨v0, vs0, d0, ds0, p0, q0, hargs, rfl, rfl, h0, r0⟩ := trodAll_cons hA
  obtain ⟨v1, vs1, d1, ds1, p1, q1, rfl, rfl, rfl, h1, r1⟩ := trodAll_cons r0
  obtain ⟨v2, vs2, d2, ds2, p2, q2, rfl, rfl, rfl, h2, r2⟩ := trodAll_cons r1
  obtain ⟨v3, vs3, d3, ds3, p3, q3, rfl, rfl, rfl, h3, r3⟩ := trodAll_cons r2
  obtain ⟨rfl, rfl, rfl⟩ := trodAll_nil r3
  obtain rfl : args = #[v0, v1, v2, v3] := by cases args; simp_all
  obtain ⟨rfl, rfl⟩ := trodVars_none hV
  obtain ⟨a0, len0, cap0, rfl⟩ := okWide_slice Tryz.underlying22 (hval 0 22 v0 rfl rfl)
  have k0 := h0
  have lt0 : ∀ x ∈ p0, x.block < W.heap.size := by obtain ⟨m, hm⟩ := k0; exact DataW.trod_lt m _ _ _ hm
  obtain ⟨z0, w0⟩ := h0.elim (fun _ hf => open_list hf hsz 0 rfl rfl)
  obtain ⟨a1, rfl, rfl, rfl, w1⟩ := open_string Tryz.underlying9 (hval 1 9 v1 rfl rfl) h1
  obtain ⟨a2, rfl, rfl, rfl, w2⟩ := open_int Tryz.underlying3 (hval 2 3 v2 rfl rfl) h2
  obtain ⟨a3, len3, cap3, rfl⟩ := okWide_slice Tryz.underlying27 (hval 3 27 v3 rfl rfl)
  have k3 := h3
  have lt3 : ∀ x ∈ p3, x.block < W.heap.size := by obtain ⟨m, hm⟩ := k3; exact DataW.trod_lt m _ _ _ hm
  obtain ⟨z3, w3⟩ := h3.elim (fun _ hf => open_numbers hf)
  clear hA0 hval0
  have s1 : a1.size ≤ 140737488351232 := by have h := sized_string hsz (j := 1) (t := 9) rfl rfl; rw [Array.length_toList] at h; exact h
  refine (least_walk _ z0 a1 a2 a3 len3 cap3 z3 W w0 w3).mono fun e W' ⟨he, bel⟩ => ?_
  subst he
  exact ⟨_, rfl, _, _, _, [], _, [], hW', trodAll_mk1 (shut_bool Tryz.underlying4 _), (trodAll_cons_mk (Below.trod bestLeast_laidOut (by kernel_rfl) (of_decide_eq_true (by kernel_rfl)) k0 bel lt0) (trodAll_cons_mk (shut_string Tryz.underlying9 w1) (trodAll_cons_mk (shut_int Tryz.underlying3 w2) (trodAll_cons_mk (Below.trod bestLeast_laidOut (by kernel_rfl) (of_decide_eq_true (by kernel_rfl)) k3 bel lt3) trodAll_mk0)))), rfl, bel.frame _, fun h => by cases h⟩

/-- THE STATEMENT. -/
theorem bestLeast_holds : Rows.BestLeastSaid :=
  OpenClaim.holds_of_wide 4 Tryz.f4 rfl rfl rfl rfl rfl rfl rfl ⟨rfl, rfl, rfl, rfl, rfl⟩ rfl rfl rfl rfl rfl (by kernel_rfl) Tryz.func4 (by kernel_rfl)
    (of_decide_eq_true (by kernel_rfl)) (by unfold Func.isWrapper; first | (rw [if_pos (by decide +kernel)]; kernel_rfl) | (rw [if_neg (by decide +kernel)]; exact ⟨rfl, rfl⟩))
    (fun os started H enc _ => bestLeast_lifted os started H enc)
#print axioms bestLeast_holds
end Go.Proofs.YtdplflcaanmmiaaGreat
