/-
  ScanTwo: two scanners of the same links do not touch one another. For every list of texts, every two bytes.
-/
import Derived.Test.YtmaadeeocppkfaaScanMore
import Derived.ShutString
import Derived.ChangeOld
import Derived.SizedLaws
namespace Go.Proofs.Ytmaadeeocppkfaa
open Go.ChangeShapes Go.WideShapes Go.ChangeAt Go.RowKit
open Go.ChangeMaps (open_string shut_string)

theorem slice_one (b : ByteArray) (i : Nat) (h : i < b.size) (W : World) : (Instr.slice 9 (.string b) (some (.int .i64 (i : Int))) (some (.int .i64 ((i : Int) + 1))) none).run Try.prog W = .ok (.string (b.extract i (i + 1))) W := by
  rw [run_slice_string (P := Try.prog) W 9 b .i64 .i64 (i : Int) ((i : Int) + 1) Try.underlying9 (by omega) (by omega) (by omega)]
  rw [show ((i : Int)).toNat = i by omega, show ((i : Int) + 1).toNat = i + 1 by omega]

theorem cut_one (b : ByteArray) (i : Nat) : b.extract 0 i ++ b.extract i (i + 1) = b.extract 0 (i + 1) := by
  apply nums_inj
  rw [nums_append, nums_extract, nums_extract, nums_extract, List.drop_zero, Nat.sub_zero, Nat.sub_zero, show i + 1 - i = 1 by omega, ← List.take_add]

theorem cut_whole (b : ByteArray) (i : Nat) (h : b.size ≤ i) : b.extract 0 i = b := by
  apply nums_inj
  rw [nums_extract, List.drop_zero, Nat.sub_zero, List.take_of_length_le (by rw [nums_length]; exact h)]

/-- Two scanners, and the hits of each. -/
structure TwoAt (w1 w4 w5 w : World) (p q l t : Nat) (A P : List (List Nat)) (a b : ByteArray) (vh vg : Value) (kh kg : Nat) : Prop where
  sp : ScAt w4 w p l t A P (wordOf P) (nums a) a.size
  sq : ScAt w4 w q l t A P (wordOf P) (nums b) b.size
  rh : w.ownsRow w5.heap.size 44 2 vh kh (hcells (asHits (hitsT P 0 [] (nums a))))
  rg : w.ownsRow w5.heap.size 44 2 vg kg (hcells (asHits (hitsT P 0 [] (nums b))))
  apart : ∀ g, vh.ownBlock = some g → vg.ownBlock ≠ some g
  size : w5.heap.size ≤ w.heap.size
  bel : Below w1.heap.size w1 w
  hp : p < w5.heap.size
  hq : q < w5.heap.size
  lp : w1.heap.size ≤ p
  lq : w1.heap.size ≤ q
  le5 : w1.heap.size ≤ w5.heap.size
  ne : p ≠ q
  hr : Ready A P

theorem TwoAt.swap {w1 w4 w5 w : World} {p q l t kh kg : Nat} {A P : List (List Nat)} {a b : ByteArray} {vh vg : Value} (h : TwoAt w1 w4 w5 w p q l t A P a b vh vg kh kg) : TwoAt w1 w4 w5 w q p l t A P b a vg vh kg kh :=
  ⟨h.sq, h.sp, h.rg, h.rh, fun g hg e => h.apart g e hg, h.size, h.bel, h.hq, h.hp, h.lq, h.lp, h.le5, h.ne.symm, h.hr⟩

theorem row_other {w w' : World} {base : Nat} {e : TypeId} {size : Nat} {v : Value} {n : Nat} {xs : List Value} {blk : Option Nat} (h : w.ownsRow base e size v n xs) (hg : w.grownBy w' blk) (hne : ∀ g, v.ownBlock = some g → blk ≠ some g) : w'.ownsRow base e size v n xs :=
  ownsRow_same h (fun g hv => hg.block g (h.lt g hv).2 (fun e => hne g hv e.symm))

/-- What the scanner at p is fed is behind its hits. -/
theorem TwoAt.more {w1 w4 w5 w w6 w7 : World} {p q l t kh kg : Nat} {A P : List (List Nat)} {a b s : ByteArray} {vh vg v' : Value} (h : TwoAt w1 w4 w5 w p q l t A P a b vh vg kh kg)
    (hk : Kept (· = p) w w6) (hs : ScAt w4 w6 p l t A P (wordOf P) (nums (a ++ s)) (a ++ s).size)
    (ho : w7.ownsRow w5.heap.size 44 2 v' (kh + (asHits (hitsT P a.size (nums a) (nums s))).length) (hcells (asHits (hitsT P 0 [] (nums a)) ++ asHits (hitsT P a.size (nums a) (nums s)))))
    (hg : w6.grownBy w7 vh.ownBlock) (hat : v'.ownBlock = vh.ownBlock ∨ v'.ownBlock = some w6.heap.size) :
    TwoAt w1 w4 w5 w7 p q l t A P (a ++ s) b v' vg (kh + (asHits (hitsT P a.size (nums a) (nums s))).length) kg := by
  have h56 : w5.heap.size ≤ w6.heap.size := Nat.le_trans h.size hk.size
  have r6 := ownsRow_kept h.rh hk h.hp
  have g6 := ownsRow_kept h.rg hk h.hp
  have hb67 : Below w5.heap.size w6 w7 := (Below.refl w5.heap.size w6).grown hg h56 (fun g e => (r6.lt g e).1)
  rw [hits_more] at ho
  refine ⟨hs.row h.hp hb67, (h.sq.other hk h.ne.symm (Nat.le_trans h.sp.lo (Nat.le_refl _))).row h.hq hb67, ho, row_other g6 hg (fun g e e2 => h.apart g e2 e), ?_, Nat.le_trans h56 hb67.size, (below_then h.bel hk h.lp).trans (hb67.mono h.le5), h.hp, h.hq, h.lp, h.lq, h.le5, h.ne, h.hr⟩
  intro g e e2
  rcases hat with e3 | e3
  · rw [e3] at e
    exact h.apart g e e2
  · rw [e3] at e
    have := (g6.lt g e2).2
    injection e with e
    omega

theorem TwoAt.few {w1 w4 w5 w : World} {p q l t kh kg : Nat} {A P : List (List Nat)} {a b : ByteArray} {vh vg : Value} (h : TwoAt w1 w4 w5 w p q l t A P a b vh vg kh kg) (ha : a.size ≤ 300) : kh ≤ 12000 := by
  have h1 := h.rh.1
  have h2 := hitsT_few P 40 h.hr.short (nums a) 0 []
  rw [hcells_length, asHits_length] at h1
  rw [nums_length] at h2
  have h3 : a.size * 40 ≤ 300 * 40 := Nat.mul_le_mul_right _ ha
  omega

theorem ext_size (b : ByteArray) (i : Nat) : (b.extract 0 i).size ≤ b.size := by rw [ByteArray.size_extract]; omega
theorem one_size (b : ByteArray) (i : Nat) : (b.extract i (i + 1)).size ≤ 1 := by rw [ByteArray.size_extract]; omega

set_option maxRecDepth 20000 in
set_option maxHeartbeats 1000000 in
theorem two_walk (v : Value) (L : List ByteArray) (a1 b : ByteArray) (s1 : a1.size ≤ 140737488351232) (s2 : b.size ≤ 140737488351232) (w : World) (h : ListIn w v L) :
    Calls Try.prog 7 #[v, .string a1, .string b] w fun e w' => e = .returned (.bool true) ∧ Below w.heap.size w w' := by
  have H := hid h
  by_cases hf : FewL L
  · have hd1 : fewB L = true := decide_eq_true hf
    have hsz := hf.sizes
    have HSZ := hid hf.2
    by_cases hcond : a1.size + b.size ≤ 200
    · have hdc : decide ((200 : Int) < (a1.size : Int) + (b.size : Int)) = false := decide_eq_false (by omega)
      have hdc2 : decide (200 < a1.size + b.size) = false := decide_eq_false (by omega)
      rcases fine_or_bad L with hL | ⟨cd, a0, hL⟩
      · have HF := hid hL
        have hl100 := hL.1
        obtain ⟨⟨a, ca, rfl, ha⟩, _, _⟩ := h
        rw [strs_length] at *
        clear ha hL hsz hf
        obtain ⟨A, hA⟩ : ∃ A, A = nodesN (L.map nums) := ⟨_, rfl⟩
        obtain ⟨P, hP⟩ : ∃ P, P = L.map nums := ⟨_, rfl⟩
        have HAE := hid hA
        have HPE := hid hP
        clear hA hP
        obtain ⟨mx, hmx⟩ : ∃ mx : Nat, max (a1.size : Int) (b.size : Int) = (mx : Int) := ⟨max a1.size b.size, by omega⟩
        go_enter Try.func7, Try.ntmps7
        go_wp2_with (first
          | (go_at_call 8; refine (few_any H.out).mono ?_; rintro e w1 ⟨rfl, rfl⟩; rw [hd1])
          | (go_at_call 9; refine (alive_any _).mono ?_; rintro e w2 ⟨rfl, hb2⟩; have H2 := hid (H.out.below hb2); have HB2 := hid hb2; clear hb2)
          | (go_at_call 10; refine (phrases_fine H2.out.1 HF.out).mono ?_; rintro e w3 ⟨rfl, rfl⟩)
          | (go_at_call 11; refine (makeL_fine H2.out.1 HF.out).mono ?_; rintro e w4 ⟨l, t, rfl, hx4, hb4⟩; have hr4 := ready_of hx4 HF.out; have HR := hid hr4; have HX := hid hx4; have HL4 := hid (H2.out.1.below hb4); have HB4 := hid (below_more HB2.out hb4); clear hx4 hb4 hr4)
          | (have _h := laterN; go_at_call 15; refine (newS_in (ready_links HX.out) HR.out.nodes HS5.out.below).mono ?_; rintro e w6 ⟨q, rfl, hs6, hp6, hb6⟩; have HS6 := hid hs6; have HPQ := hid hp6; have HB6 := hid (below_more HB5.out hb6); have HSP := hid (HS5.out.later hb6); clear hs6 hp6 hb6)
          | (go_at_call 15; refine (newS_in (ready_links HX.out) HR.out.nodes (Below.refl _ _)).mono ?_; rintro e w5 ⟨p, rfl, hs5, hp5, hb5⟩; have laterN : True := trivial; have HS5 := hid hs5; have HP5 := hid (Nat.le_trans HB4.out.size hp5); have HB5 := hid (below_more HB4.out hb5); clear hs5 hp5 hb5))
        have HR2 : Hid (Ready A P) := by show Ready A P; rw [HAE.out, HPE.out]; exact HR.out
        have HX2 : Hid (LinksAt w4 l t A P (wordOf P)) := by show LinksAt _ _ _ _ _ _; rw [HAE.out, HPE.out]; exact HX.out
        have HT0 : Hid (TwoAt w1 w4 w6 w6 p q l t A P (a1.extract 0 0) (b.extract 0 0) (.slice none 0 0) (.slice none 0 0) 0 0) := by
          have ea : a1.extract 0 0 = ByteArray.empty := by apply nums_inj; rw [nums_extract]; rfl
          have eb : b.extract 0 0 = ByteArray.empty := by apply nums_inj; rw [nums_extract]; rfl
          have h1 := HSP.out
          have h2 := HS6.out
          rw [← HAE.out, ← HPE.out] at h1 h2
          show TwoAt _ _ _ _ _ _ _ _ _ _ _ _ _ _ _ _
          rw [ea, eb]
          exact ⟨h1, h2, World.ownsRow_nil _ _ _ _, World.ownsRow_nil _ _ _ _, fun g hg => by simp [Value.ownBlock] at hg, Nat.le_refl _, HB6.out, h1.lt, h2.lt, HP5.out, Nat.le_trans HB5.out.size HPQ.out, HB6.out.size, Nat.ne_of_lt (Nat.lt_of_lt_of_le HS5.out.lt HPQ.out), HR2.out⟩
        clear HX HR HS5 H H2 HB2 HL4 HB4 HSP HS6 HB6
        go_loopw [12, 13, 14] (fun uh ug vi wr => ∃ (i kh kg : Nat), vi = .int .i64 i ∧ i ≤ mx ∧ Hid (TwoAt w1 w4 w6 wr p q l t A P (a1.extract 0 i) (b.extract 0 i) uh ug kh kg)) (fun _ _ vi _ => mx - (intOf vi).toNat)
        case atStart => exact ⟨0, 0, 0, rfl, by omega, HT0.out⟩
        case round =>
          obtain ⟨i, kh, kg, rfl, hi, HT⟩ := hrel
          by_cases hlt : i < mx
          · have hdm : decide ((i : Int) < (mx : Int)) = true := decide_eq_true (by omega)
            by_cases ha : i < a1.size
            · by_cases hb : i < b.size
              · have hda : decide ((i : Int) < (a1.size : Int)) = true := decide_eq_true (by omega)
                have hdb : decide ((i : Int) < (b.size : Int)) = true := decide_eq_true (by omega)
                have hsla := slice_one a1 i (by omega)
                have hslb := slice_one b i (by omega)
                go_wp2_with (first
                  | (have _h := HK6HB; at_builtin; refine wpList_append_hits _ rfl (.tmp 76) (.tmp 83) rfl w6.heap.size u13 kg (asHits (hitsT P 0 [] (nums (b.extract 0 i)))) rfl (ownsRow_kept HA.out.swap.rh HK6HB.out HA.out.swap.hp) _ _ rfl HO6HB.out (by have := HL6HB.out; have := HA.out.swap.few (by have := ext_size b i; omega); omega) (Nat.le_trans HA.out.swap.size HK6HB.out.size) ?_; intro v7HB w7HB hown7 hgrow7 hat7 hold7; have ht7 := HA.out.swap.more HK6HB.out HS6HB.out hown7 hgrow7 hat7; rw [cut_one] at ht7; have HB := hid ht7; clear ht7 hown7 hgrow7 hat7 hold7 _h HK6HB)
                  | (have _h := HA; go_at_call_of 16 (Value.pointer (some ⟨q, 0, none⟩)); refine (feed_more (u := b.extract 0 i) HA.out.swap.sp HR2.out (b.extract i (i + 1)) (Nat.le_trans (one_size _ _) (by decide)) (by have := ext_size b i; omega)).mono ?_; rintro e w6HB ⟨v6HB, rfl, ho6, hl6, hs6, hk6⟩; have hl6' := Nat.le_trans hl6 (Nat.mul_le_mul_left 40 (one_size _ _)); have HO6HB := hid ho6; have HL6HB := hid hl6'; have HS6HB := hid hs6; have HK6HB := hid hk6; clear ho6 hl6 hs6 hk6 hl6')
                  | (have _h := HK6HA; at_builtin; refine wpList_append_hits _ rfl (.tmp 63) (.tmp 70) rfl w6.heap.size u12 kh (asHits (hitsT P 0 [] (nums (a1.extract 0 i)))) rfl (ownsRow_kept HT.out.rh HK6HA.out HT.out.hp) _ _ rfl HO6HA.out (by have := HL6HA.out; have := HT.out.few (by have := ext_size a1 i; omega); omega) (Nat.le_trans HT.out.size HK6HA.out.size) ?_; intro v7HA w7HA hown7 hgrow7 hat7 hold7; have ht7 := HT.out.more HK6HA.out HS6HA.out hown7 hgrow7 hat7; rw [cut_one] at ht7; have HA := hid ht7; clear ht7 hown7 hgrow7 hat7 hold7 _h HK6HA)
                  | (have _h := HT; go_at_call_of 16 (Value.pointer (some ⟨p, 0, none⟩)); refine (feed_more (u := a1.extract 0 i) HT.out.sp HR2.out (a1.extract i (i + 1)) (Nat.le_trans (one_size _ _) (by decide)) (by have := ext_size a1 i; omega)).mono ?_; rintro e w6HA ⟨v6HA, rfl, ho6, hl6, hs6, hk6⟩; have hl6' := Nat.le_trans hl6 (Nat.mul_le_mul_left 40 (one_size _ _)); have HO6HA := hid ho6; have HL6HA := hid hl6'; have HS6HA := hid hs6; have HK6HA := hid hk6; clear ho6 hl6 hs6 hk6 hl6'))
                go_roundw
                case rel => exact ⟨i + 1, _, _, by go_num, by omega, by show TwoAt _ _ _ _ _ _ _ _ _ _ _ _ _ _ _ _; exact HB.out.swap⟩
                case measure => simp [intOf]; omega
              · have hda : decide ((i : Int) < (a1.size : Int)) = true := decide_eq_true (by omega)
                have hdb : decide ((i : Int) < (b.size : Int)) = false := decide_eq_false (by omega)
                have hsla := slice_one a1 i (by omega)
                have heb : b.extract 0 i = b.extract 0 (i + 1) := by rw [cut_whole b i (by omega), cut_whole b (i + 1) (by omega)]
                have HEB := hid heb
                clear heb
                go_wp2_with (first
                  | (have _h := HT; go_at_call_of 16 (Value.pointer (some ⟨p, 0, none⟩)); refine (feed_more (u := a1.extract 0 i) HT.out.sp HR2.out (a1.extract i (i + 1)) (Nat.le_trans (one_size _ _) (by decide)) (by have := ext_size a1 i; omega)).mono ?_; rintro e w6HA ⟨v6HA, rfl, ho6, hl6, hs6, hk6⟩; have hl6' := Nat.le_trans hl6 (Nat.mul_le_mul_left 40 (one_size _ _)); have HO6HA := hid ho6; have HL6HA := hid hl6'; have HS6HA := hid hs6; have HK6HA := hid hk6; clear ho6 hl6 hs6 hk6 hl6')
                  | (have _h := HK6HA; at_builtin; refine wpList_append_hits _ rfl (.tmp 63) (.tmp 70) rfl w6.heap.size u12 kh (asHits (hitsT P 0 [] (nums (a1.extract 0 i)))) rfl (ownsRow_kept HT.out.rh HK6HA.out HT.out.hp) _ _ rfl HO6HA.out (by have := HL6HA.out; have := HT.out.few (by have := ext_size a1 i; omega); omega) (Nat.le_trans HT.out.size HK6HA.out.size) ?_; intro v7HA w7HA hown7 hgrow7 hat7 hold7; have ht7 := HT.out.more HK6HA.out HS6HA.out hown7 hgrow7 hat7; rw [cut_one] at ht7; have HA := hid ht7; clear ht7 hown7 hgrow7 hat7 hold7 _h HK6HA))
                go_roundw
                case rel => exact ⟨i + 1, _, _, by go_num, by omega, by show TwoAt _ _ _ _ _ _ _ _ _ _ _ _ _ _ _ _; rw [← HEB.out]; exact HA.out⟩
                case measure => simp [intOf]; omega
            · have hb : i < b.size := by omega
              have hda : decide ((i : Int) < (a1.size : Int)) = false := decide_eq_false (by omega)
              have hdb : decide ((i : Int) < (b.size : Int)) = true := decide_eq_true (by omega)
              have hea : a1.extract 0 i = a1.extract 0 (i + 1) := by rw [cut_whole a1 i (by omega), cut_whole a1 (i + 1) (by omega)]
              have HEA := hid hea
              clear hea
              have hslb := slice_one b i (by omega)
              go_wp2_with (first
                | (have _h := HK6HB; at_builtin; refine wpList_append_hits _ rfl (.tmp 76) (.tmp 83) rfl w6.heap.size u13 kg (asHits (hitsT P 0 [] (nums (b.extract 0 i)))) rfl (ownsRow_kept HT.out.swap.rh HK6HB.out HT.out.swap.hp) _ _ rfl HO6HB.out (by have := HL6HB.out; have := HT.out.swap.few (by have := ext_size b i; omega); omega) (Nat.le_trans HT.out.swap.size HK6HB.out.size) ?_; intro v7HB w7HB hown7 hgrow7 hat7 hold7; have ht7 := HT.out.swap.more HK6HB.out HS6HB.out hown7 hgrow7 hat7; rw [cut_one] at ht7; have HB := hid ht7; clear ht7 hown7 hgrow7 hat7 hold7 _h HK6HB)
                | (have _h := HT; go_at_call_of 16 (Value.pointer (some ⟨q, 0, none⟩)); refine (feed_more (u := b.extract 0 i) HT.out.swap.sp HR2.out (b.extract i (i + 1)) (Nat.le_trans (one_size _ _) (by decide)) (by have := ext_size b i; omega)).mono ?_; rintro e w6HB ⟨v6HB, rfl, ho6, hl6, hs6, hk6⟩; have hl6' := Nat.le_trans hl6 (Nat.mul_le_mul_left 40 (one_size _ _)); have HO6HB := hid ho6; have HL6HB := hid hl6'; have HS6HB := hid hs6; have HK6HB := hid hk6; clear ho6 hl6 hs6 hk6 hl6'))
              go_roundw
              case rel => exact ⟨i + 1, _, _, by go_num, by omega, by show TwoAt _ _ _ _ _ _ _ _ _ _ _ _ _ _ _ _; rw [← HEA.out]; exact HB.out.swap⟩
              case measure => simp [intOf]; omega
          · obtain rfl : i = mx := by omega
            have HF : Hid (TwoAt w1 w4 w6 wr p q l t A P a1 b u12 u13 kh kg) := by
              have h := HT.out
              rw [cut_whole a1 i (by omega), cut_whole b i (by omega)] at h
              exact h
            clear HT
            go_wp2_with (first
              | (have _h := laterB; go_at_call 17; refine (sameHits_any HGB.out HOB.out (by have := hitsT_few P 40 HR2.out.short (nums b) 0 []; rw [asHits_length]; rw [nums_length] at this; omega) (by have := hitsT_few P 40 HR2.out.short (nums b) 0 []; rw [asHits_length]; rw [nums_length] at this; omega)).mono ?_; rintro e wD ⟨rfl, hbD⟩; have HSP := hid (HPC.out.later hbD); have HSQ := hid (HQC.out.later hbD); have HBD := hid (below_more HBC.out hbD); clear hbD; rw [decide_eq_true rfl])
              | (have _h := laterA; go_at_call 18; refine (allS_in HX2.out HPB.out.below HR2.out.father HR2.out.mem HR2.out.some HR2.out.short b (by omega)).mono ?_; rintro e wC ⟨vC, kC, rfl, hoC, hbC⟩; have laterB : True := trivial; have HOB := hid (ownsRow_readsH hoC); have HGB := hid (HGA.out.below hbC); have HPC := hid (HPB.out.later hbC); have HQC := hid (HQB.out.later hbC); have HBC := hid (below_more HBB.out hbC); clear hoC hbC)
              | (go_at_call 17; refine (sameHits_any HHA.out HOA.out (by have := hitsT_few P 40 HR2.out.short (nums a1) 0 []; rw [asHits_length]; rw [nums_length] at this; omega) (by have := hitsT_few P 40 HR2.out.short (nums a1) 0 []; rw [asHits_length]; rw [nums_length] at this; omega)).mono ?_; rintro e wB ⟨rfl, hbB⟩; have laterA : True := trivial; have HGA := hid (HG0.out.below hbB); have HPB := hid (HPA.out.later hbB); have HQB := hid (HQA.out.later hbB); have HBB := hid (below_more HBA.out hbB); clear hbB; rw [decide_eq_true rfl])
              | (go_at_call 18; refine (allS_in HX2.out HF.out.sp.below HR2.out.father HR2.out.mem HR2.out.some HR2.out.short a1 (by omega)).mono ?_; rintro e wA ⟨vA, kA, rfl, hoA, hbA⟩; have HOA := hid (ownsRow_readsH hoA); have HHA := hid ((ownsRow_readsH HF.out.rh).below hbA); have HG0 := hid ((ownsRow_readsH HF.out.rg).below hbA); have HPA := hid (HF.out.sp.later hbA); have HQA := hid (HF.out.sq.later hbA); have HBA := hid (below_more HF.out.bel hbA); clear hoA hbA)
              | (go_at_call_of 19 (Value.pointer (some ⟨p, 0, none⟩)); refine (atS_in HSP.out).mono ?_; rintro e wE ⟨rfl, rfl⟩)
              | (go_at_call_of 19 (Value.pointer (some ⟨q, 0, none⟩)); refine (atS_in HSQ.out).mono ?_; rintro e wE ⟨rfl, rfl⟩))
            go_ret
            exact ⟨rfl, HBD.out⟩
      · go_enter Try.func7, Try.ntmps7
        have hc0 : ¬ cd = 0 := bad_code hL
        go_wp2_with (first
          | (go_at_call 8; refine (few_any H.out).mono ?_; rintro e w1 ⟨rfl, rfl⟩; rw [hd1])
          | (go_at_call 9; refine (alive_any _).mono ?_; rintro e w2 ⟨rfl, hb2⟩; have H2 := hid (H.out.below hb2))
          | (go_at_call 10; refine (phrases_bad H2.out.1 hsz.1 (fun s hs => by have := hsz.2 s hs; omega) hL).mono ?_; rintro e w3 ⟨rfl, rfl⟩))
        go_ret
        exact ⟨rfl, hb2⟩
    · have hdc : decide ((200 : Int) < (a1.size : Int) + (b.size : Int)) = true := decide_eq_true (by omega)
      have hdc2 : decide (200 < a1.size + b.size) = true := decide_eq_true (by omega)
      go_enter Try.func7, Try.ntmps7
      go_wp2_with (first
        | (go_at_call 8; refine (few_any H.out).mono ?_; rintro e w1 ⟨rfl, rfl⟩; rw [hd1])
        | (go_at_call 9; refine (alive_any _).mono ?_; rintro e w2 ⟨rfl, hb2⟩))
      go_ret
      exact ⟨rfl, hb2⟩
  · have hd1 : fewB L = false := decide_eq_false hf
    go_enter Try.func7, Try.ntmps7
    go_wp2_with (first
      | (go_at_call 8; refine (few_any H.out).mono ?_; rintro e w1 ⟨rfl, rfl⟩; rw [hd1])
      | (go_at_call 9; refine (alive_any _).mono ?_; rintro e w2 ⟨rfl, hb2⟩))
    go_ret
    exact ⟨rfl, hb2⟩

set_option linter.unusedVariables false
theorem scanTwo_own : ownKnob Try.prog.godebug = none := by kernel_rfl

theorem scanTwo_laidOut : laidOutB Try.prog = true := by kernel_rfl

set_option maxRecDepth 100000 in
theorem scanTwo_lifted (os : Os) (started : os.Started) (H : Type) (enc : TypeId × Value → H) :
    ReturnsInHanded {} Try.checked os 7 .any (Rows.scanTwoSpec.pre6 enc Try.prog Try.f7 Rows.scanTwoRow.domain false) (Rows.scanTwoSpec.post enc Try.prog Try.f7 false true false false) := by
  refine returnsInHanded_of_change_sized (C := Try.checked) scanTwo_own started (by kernel_rfl) Try.func7
    (ChangeSpec.witness6 (enc := enc) (C := Try.checked) false ⟨#[], #[.slice none 0 0, .string ByteArray.empty, .string ByteArray.empty], []⟩ 8 (by kernel_rfl) (by kernel_rfl) (by kernel_rfl) (by kernel_rfl)) ?_
  intro W base args ds gs before hval0 hW hcnd hsz0 _
  have hsz : (DataW.weightsEach Try.prog (Try.f7.params.toList ++ Rows.scanTwoSpec.plain.varTypes Try.prog) (ds ++ gs)).all (· ≤ reachBytes) = true := hsz0
  have hval : ∀ (j : Nat) t v, Try.f7.params[j]? = some t → args[j]? = some v → Value.okWide Try.prog W .any base t v := hval0
  have hW' := hW
  obtain ⟨p, q, hA0, hV, rfl, hfz, hnd⟩ := hW
  have hA : DataW.TrodAll enc Try.prog W 0 (fun _ => true) true Try.f7.params.toList args.toList ds p := hA0
  rw [Try.params7] at hA hval hsz
  obtain ⟨v0, vs0, d0, ds0, p0, q0, hargs, rfl, rfl, h0, r0⟩ := trodAll_cons hA
  obtain ⟨v1, vs1, d1, ds1, p1, q1, rfl, rfl, rfl, h1, r1⟩ := trodAll_cons r0
  obtain ⟨v2, vs2, d2, ds2, p2, q2, rfl, rfl, rfl, h2, r2⟩ := trodAll_cons r1
  obtain ⟨rfl, rfl, rfl⟩ := trodAll_nil r2
  obtain rfl : args = #[v0, v1, v2] := by cases args; simp_all
  obtain ⟨rfl, rfl⟩ := trodVars_none hV
  obtain ⟨a0, len0, cap0, rfl⟩ := okWide_slice Try.underlying22 (hval 0 22 v0 rfl rfl)
  have k0 := h0
  have lt0 : ∀ x ∈ p0, x.block < W.heap.size := by obtain ⟨m, hm⟩ := k0; exact DataW.trod_lt m _ _ _ hm
  obtain ⟨z0, w0⟩ := h0.elim (fun _ hf => open_list hf hsz 0 rfl rfl)
  obtain ⟨a1, rfl, rfl, rfl, w1⟩ := open_string Try.underlying9 (hval 1 9 v1 rfl rfl) h1
  obtain ⟨a2, rfl, rfl, rfl, w2⟩ := open_string Try.underlying9 (hval 2 9 v2 rfl rfl) h2
  clear hA0 hval0
  have s1 : a1.size ≤ 140737488351232 := by have h := sized_string hsz (j := 1) (t := 9) rfl rfl; rw [Array.length_toList] at h; exact h
  have s2 : a2.size ≤ 140737488351232 := by have h := sized_string hsz (j := 2) (t := 9) rfl rfl; rw [Array.length_toList] at h; exact h
  refine (two_walk _ z0 a1 a2 s1 s2 W w0).mono fun e W' ⟨he, bel⟩ => ?_
  subst he
  exact ⟨_, rfl, _, _, _, [], _, [], hW', trodAll_mk1 (shut_bool Try.underlying4 _), (trodAll_cons_mk (Below.trod scanTwo_laidOut (by kernel_rfl) (of_decide_eq_true (by kernel_rfl)) k0 bel lt0) (trodAll_cons_mk (shut_string Try.underlying9 w1) (trodAll_cons_mk (shut_string Try.underlying9 w2) trodAll_mk0))), rfl, bel.frame _, fun h => by cases h⟩

/-- THE STATEMENT. -/
theorem scanTwo_holds : Rows.ScanTwoSaid :=
  OpenClaim.holds_of_wide 7 Try.f7 rfl rfl rfl rfl rfl rfl rfl ⟨rfl, rfl, rfl, rfl, rfl⟩ rfl rfl rfl rfl rfl (by kernel_rfl) Try.func7 (by kernel_rfl)
    (of_decide_eq_true (by kernel_rfl)) (by unfold Func.isWrapper; first | (rw [if_pos (by decide +kernel)]; kernel_rfl) | (rw [if_neg (by decide +kernel)]; exact ⟨rfl, rfl⟩))
    (fun os started H enc _ => scanTwo_lifted os started H enc)
#print axioms scanTwo_holds
end Go.Proofs.Ytmaadeeocppkfaa
