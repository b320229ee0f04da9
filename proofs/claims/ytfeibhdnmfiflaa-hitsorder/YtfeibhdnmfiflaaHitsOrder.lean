/-
  HitsOrder: in whichever order hits come, and however often, the lists are the same. For every list of texts, every bytes, every number.
  No condition: whatever the input, in whatever memory; the arguments read as before.
-/
import Derived.Test.YtfeibhdnmfiflaaAlive11
import Derived.ShutString
import Derived.ChangeOld
import Derived.SizedLaws
namespace Go.Proofs.Ytfeibhdnmfiflaa
open Go.ChangeShapes Go.WideShapes Go.ChangeAt Go.RowKit
open Go.ChangeMaps (open_string shut_string)

/-- append of hits, at a step of a region that draws its order. -/
theorem step_append_hits {ops : Array Oper} {o : Oper} {a : Act} {K : Act → World → Prop} {Q : Exit → Act → World → Prop} {E : Prop} (w : World) (hgd : o.guard = none) (s x : Operand)
    (ho : o.op = .call { callee := .builtin .append, args := #[s, x], argTypes := #[23, 23] })
    (base : Nat) (v : Value) (n : Nat) (xs : List (Int × Int)) (hs : a.eval s = v) (hown : w.ownsRow base 35 2 v n (hcells xs))
    (u : Value) (ys : List (Int × Int)) (hx : a.eval x = u) (hu : ReadsH w u ys) (h63 : n + ys.length ≤ 1000000) (hbase : base ≤ w.heap.size)
    (h : ∀ v' w', w'.ownsRow base 35 2 v' (n + ys.length) (hcells (xs ++ ys)) → w.grownBy w' v.ownBlock → (v'.ownBlock = v.ownBlock ∨ v'.ownBlock = some w.heap.size) → w'.ownsRow base 35 2 v n (hcells xs) → K (a.put o.dst v') w') :
    if Region.wanted o (yielded ops a.tmps) = true then Oper.wp Try.prog o a w K Q else E := by
  have hw : Region.wanted o (yielded ops a.tmps) = true := by simp [Region.wanted, hgd]
  rw [if_pos hw]
  obtain ⟨v', w', hr, h2, h3, h4, h5⟩ := run_append_hits w o.type base v n xs hown u ys hu h63 hbase
  unfold Oper.wp execOp
  simp only [ho, resolve, invoke, builtin, Sem.run_bind, Sem.run_pure, Result.andThen_ok, List.map_toArray, List.map_cons, List.map_nil, hs, hx, hr]
  exact h v' w' h2 h3 h4 h5

set_option maxRecDepth 20000 in
set_option maxHeartbeats 2000000 in
/-- Two lists of the same numbers are the same; nothing is written. -/
theorem sameInts_same {w : World} {v u : Value} {xs : List Int} (hv : Reads w v (nats xs)) (hu : Reads w u (nats xs)) (hx : xs.length ≤ 1000000) :
    Calls Try.prog 16 #[v, u] w fun e w' => e = .returned (.bool true) ∧ ∃ q, w' = w.drewN q := by
  obtain ⟨a, ca, rfl, ha⟩ := hv
  obtain ⟨b, cb, rfl, hb⟩ := hu
  rw [nats_length] at *
  have HA := hid ha
  have HB := hid hb
  clear ha hb
  obtain ⟨m, hm⟩ : ∃ m, m = xs.length := ⟨_, rfl⟩
  have HM := hid hm
  rw [← hm] at HA HB hx ⊢
  clear hm
  go_enter Try.func16, Try.ntmps16
  go_wp2
  go_loopw [5] (fun vi wr => ∃ i q : Nat, vi = .int .i64 i ∧ i ≤ m ∧ wr = w.drewN q) (fun vi _ => m - (intOf vi).toNat)
  case atStart => exact ⟨0, 0, rfl, by omega, rfl⟩
  case round =>
    obtain ⟨i, q, rfl, hi, rfl⟩ := hrel
    by_cases hlt : i < m
    · rcases HA.out with h | ⟨gb, o, rfl, hgb, hcell⟩
      · omega
      rcases HB.out with h | ⟨gc, p, rfl, hgc, hcell2⟩
      · omega
      have hin : i < xs.length := by rw [← HM.out]; exact hlt
      have hcb : w.cell? ⟨gb, o + i, none⟩ = some (.int .i64 (xs[i]'hin)) := by rw [hcell i hlt, nats_at]
      have hcc : w.cell? ⟨gc, p + i, none⟩ = some (.int .i64 (xs[i]'hin)) := by rw [hcell2 i hlt, nats_at]
      clear hcell hcell2
      generalize xs[i]'hin = x at hcb hcc
      have hx' : (decide ((0 : Int) ≤ (i : Int) ∧ (i : Int) < (m : Int))) = true := decide_eq_true ⟨by omega, by omega⟩
      have hxb : (x == x) = true := by simp
      have hxn : (x != x) = false := by rw [bne, hxb]; rfl
      go_wp2
      go_quiet (fail)
      go_wp2
      go_roundw
      case rel => exact ⟨i + 1, _, by go_num, by omega, by first | rfl | rw [World.drewN_drewN]⟩
      case measure => simp [intOf]; omega
    · go_wp2
      go_ret
      exact ⟨rfl, _, rfl⟩

theorem Try.elemHits : Try.prog.underlying 23 = some (.slice (Try.prog.elem 23)) := by kernel_rfl
theorem Try.sizeHits (w : World) : (sizeOf (Try.prog.elem 23)).run Try.prog w = .ok 2 w := by kernel_rfl

/-- Two parts of a row of hits. -/
theorem parts {w : World} {base K cv : Nat} {av : Option Addr} {X : List (Int × Int)} (h : w.ownsRow base 35 2 (.slice av K cv) K (hcells X)) (n : Nat) (hn : n ≤ K) :
    ∃ u1 u2, (∀ W : World, (Instr.slice 23 (.slice av K cv) (some (.int .i64 (n : Int))) none none).run Try.prog W = .ok u1 W) ∧ (∀ W : World, (Instr.slice 23 (.slice av K cv) none (some (.int .i64 (n : Int))) none).run Try.prog W = .ok u2 W) ∧ ReadsH w u1 (X.drop n) ∧ ReadsH w u2 (X.take n) := by
  have hK : K = X.length := by have := h.1; rw [hcells_length] at this; omega
  have hcap : K ≤ cv := by
    rcases h.2 with ⟨e, h0⟩ | ⟨g, cap, cur, e, _, _, h3, _⟩
    · omega
    · injection e with e1 e2 e3; omega
  refine ⟨sliced av n K cv 2, sliced av 0 n cv 2, fun W => ?_, fun W => ?_, ?_⟩
  · rw [run_slice_l W _ av K cv Try.elemHits .i64 (n : Int) (by omega) (by omega), Try.sizeHits, Int.toNat_natCast]
    rfl
  · rw [run_slice_h W _ av K cv Try.elemHits .i64 (n : Int) (by omega) (by omega), Try.sizeHits, Int.toNat_natCast]
    rfl
  · obtain ⟨a2, c2, e, h2⟩ := ownsRow_readsH h
    injection e with e1 e2 e3
    subst e1
    unfold sliced
    refine ⟨⟨_, _, by rw [List.length_drop, ← hK], ?_⟩, ⟨_, _, by rw [List.length_take, ← hK, Nat.min_eq_left hn, Nat.sub_zero], ?_⟩⟩
    · rcases h2 with h0 | ⟨b, off, rfl, hb, hc⟩
      · exact .inl (by rw [List.length_drop]; omega)
      · by_cases hz : n = K
        · exact .inl (by rw [List.length_drop]; omega)
        · rw [if_neg (by omega)]
          refine .inr ⟨b, off + n * 2, by simp [Addr.add], hb, fun i hi => ?_⟩
          rw [List.length_drop] at hi
          have h3 := hc (n + i) (by omega)
          rw [List.getElem_drop]
          rw [show off + n * 2 + i * 2 = off + (n + i) * 2 by omega]
          exact h3
    · rcases h2 with h0 | ⟨b, off, rfl, hb, hc⟩
      · exact .inl (by rw [List.length_take]; omega)
      · by_cases hz : cv = 0
        · exact .inl (by rw [List.length_take]; omega)
        · rw [if_neg hz]
          refine .inr ⟨b, off, by simp [Addr.add], hb, fun i hi => ?_⟩
          rw [List.length_take] at hi
          have h3 := hc i (by omega)
          rw [List.getElem_take]
          exact h3

/-- Where the list is cut. -/
theorem cut_at (k : Int) (K : Nat) : ∃ r : Int, r = Int.tmod k ((K : Int) + 1) ∧ ∃ n : Nat, n ≤ K ∧ Int.tmod (r + (K : Int) + 1) ((K : Int) + 1) = (n : Int) ∧ -(K : Int) ≤ r ∧ r ≤ (K : Int) := by
  refine ⟨_, rfl, ?_⟩
  have h1 : Int.tmod k ((K : Int) + 1) < (K : Int) + 1 := Int.tmod_lt_of_pos k (by omega)
  have h2 : -((K : Int) + 1) < Int.tmod k ((K : Int) + 1) := by
    have h3 := Int.tmod_lt_of_pos (-k) (b := (K : Int) + 1) (by omega)
    rw [Int.neg_tmod] at h3
    omega
  obtain ⟨r, hr⟩ : ∃ r, r = Int.tmod k ((K : Int) + 1) := ⟨_, rfl⟩
  rw [← hr] at h1 h2 ⊢
  have h4 : 0 ≤ r + (K : Int) + 1 := by omega
  have h5 := Int.tmod_nonneg ((K : Int) + 1) h4
  have h6 := Int.tmod_lt_of_pos (r + (K : Int) + 1) (b := (K : Int) + 1) (by omega)
  exact ⟨(Int.tmod (r + (K : Int) + 1) ((K : Int) + 1)).toNat, by omega, by omega, by omega, by omega⟩

theorem hits_bound {L : List ByteArray} {b : ByteArray} {w : World} {base k : Nat} {v : Value} (hL : Fine L) (hb : b.size ≤ 150) (h : w.ownsRow base 35 2 v k (hcells (asHits (hitsT (L.map nums) 0 [] (nums b))))) : k ≤ 6000 ∧ k = (asHits (hitsT (L.map nums) 0 [] (nums b))).length := by
  have h1 := h.1
  have h2 := hitsT_few (L.map nums) 40 (phrases_short hL) (nums b) 0 []
  rw [hcells_length] at h1
  rw [nums_length] at h2
  rw [asHits_length] at h1 ⊢
  have h3 : b.size * 40 ≤ 150 * 40 := Nat.mul_le_mul_right _ hb
  omega

/-- The cut, as it is reckoned. -/
theorem cut_wrap (k : Int) (K : Nat) (hK : K ≤ 6000) : ∃ n : Nat, n ≤ K ∧ (wrap64 (wrap64 (k.tmod ((K : Int) + 1) + (K : Int)) + 1)).tmod ((K : Int) + 1) = (n : Int) := by
  obtain ⟨r, hr, n, h1, h2, h3, h4⟩ := cut_at k K
  rw [← hr]
  have e1 : wrap64 (r + (K : Int)) = r + (K : Int) := by unfold wrap64; omega
  have e2 : wrap64 (r + (K : Int) + 1) = r + (K : Int) + 1 := by unfold wrap64; omega
  rw [e1, e2]
  exact ⟨n, h1, h2⟩

theorem turned_mem (X : List (Int × Int)) (n : Nat) : ∀ x, x ∈ ([] ++ X.drop n) ++ X.take n ++ X ↔ x ∈ X := by
  intro x
  rw [List.nil_append, List.mem_append, List.mem_append]
  constructor
  · rintro ((h | h) | h)
    · exact List.mem_of_mem_drop h
    · exact List.mem_of_mem_take h
    · exact h
  · exact fun h => .inr h

set_option maxRecDepth 20000 in
set_option maxHeartbeats 8000000 in
theorem order_walk (v : Value) (L : List ByteArray) (b : ByteArray) (k : Int) (w : World) (h : ListIn w v L) :
    Calls Try.prog 5 #[v, .string b, .int .i64 k] w fun e w' => e = .returned (.bool true) ∧ Below w.heap.size w w' := by
  have H := hid h
  obtain ⟨⟨a, ca, rfl, ha⟩, hq2, hq3⟩ := h
  rw [strs_length] at *
  clear ha hq2 hq3
  by_cases hf : FewL L
  · have hd1 : fewB L = true := decide_eq_true hf
    have hsz := hf.sizes
    have HSZ := hid hf.2
    by_cases hcond : b.size ≤ 120
    · have hdb : decide ((120 : Int) < (b.size : Int)) = false := decide_eq_false (by omega)
      have hdb2 : decide (120 < b.size) = false := decide_eq_false (by omega)
      rcases fine_or_bad L with hL | ⟨cd, a0, hL⟩
      · have HF := hid hL
        have hl100 := hL.1
        clear hL hsz hf
        obtain ⟨X, hX⟩ : ∃ X, X = asHits (hitsT (L.map nums) 0 [] (nums b)) := ⟨_, rfl⟩
        have HX := hid hX
        clear hX
        go_enter Try.func5, Try.ntmps5
        go_wp2_with (first
          | (go_at_call 7; refine (few_any H.out).mono ?_; rintro e w1 ⟨rfl, rfl⟩; rw [hd1])
          | (go_at_call 8; refine (alive_any _).mono ?_; rintro e w2 ⟨rfl, hb2⟩; have H2 := hid (H.out.below hb2); have HB2 := hid hb2; clear hb2)
          | (go_at_call 10; refine (make_fine H2.out.1 HF.out).mono ?_; rintro e w4 ⟨p, rfl, hd4, hb4⟩; have HD := hid (dict_v hd4); have HL4 := hid (H2.out.1.below hb4); have HB4 := hid (below_more HB2.out hb4); clear hd4 hb4)
          | (go_at_call 15; refine (makeL_fine HL4.out HF.out).mono ?_; rintro e w5 ⟨l5, t5, rfl, hx5, hb5⟩; have HK5 : Hid (LinksV w5 (.pointer (some ⟨l5, 0, none⟩)) L) := .inr ⟨_, _, rfl, hx5⟩; have HD5 := hid (HD.out.below hb5); have HB5 := hid (below_more HB4.out hb5); clear hx5 hb5)
          | (go_at_call 14; refine (allV HK5.out HF.out b (by omega)).mono ?_; rintro e w6 ⟨v6, K, rfl, ho6, hb6⟩; obtain ⟨hK6, hK7⟩ := hits_bound HF.out (by omega) ho6; rw [← HX.out] at ho6 hK7; have HD6 := hid (HD5.out.below hb6); have HB6 := hid (below_more HB5.out hb6); obtain ⟨av, cv, rfl⟩ := ownsRow_slice ho6; obtain ⟨n0, hn0, hcut⟩ := cut_wrap k K hK6; obtain ⟨u1, u2, hsl1, hsl2, hru1, hru2⟩ := parts ho6 n0 hn0; have hl1 : (X.drop n0).length ≤ 6000 := (by rw [List.length_drop]; omega); have hl2 : (X.take n0).length ≤ 6000 := (by rw [List.length_take]; omega); have hl3 : X.length ≤ 6000 := (by omega); obtain ⟨X1, hX1⟩ : ∃ X1, X1 = X.drop n0 := ⟨_, rfl⟩; obtain ⟨X2, hX2⟩ : ∃ X2, X2 = X.take n0 := ⟨_, rfl⟩; rw [← hX1] at hru1 hl1; rw [← hX2] at hru2 hl2; have HX12 := hid (turned_mem X n0); rw [← hX1, ← hX2] at HX12; have HRX := hid (ownsRow_readsH ho6); have HU1 := hid hru1; have HU2 := hid hru2; clear ho6 hb6 hru1 hru2 hK7 hX1 hX2; have hdr : Below w6.heap.size w6 w6.drew := (Below.refl _ _).drew; have HU1d := hid (HU1.out.below hdr); have HU2d := hid (HU2.out.below hdr); have HRXd := hid (HRX.out.below hdr))
          | fail)
        go_region_law (first
          | (have _h := HH2; refine step_append_hits _ (by rfl) (.tmp 55) (.tmp 56) (by rfl) w6.heap.size v8 (0 + X1.length + X2.length) ([] ++ X1 ++ X2) (by simp [Act.eval]) HO8.out (.slice av K cv) X (by simp [Act.eval]) (HRXd.out.below HH2.out) (by omega) HH2.out.size ?_; intro v9 w9 hown9 hgrow9 hat9 hold9; have HO9 := hid hown9; have HH3 : Hid (Below w6.heap.size w6 w9) := (hdr.trans HH2.out).grown hgrow9 (Nat.le_trans hdr.size HH2.out.size) (fun g hg => (HO8.out.lt g hg).1); clear hown9 hgrow9 hat9 hold9 _h)
          | (have _h := HH1; refine step_append_hits _ (by rfl) (.tmp 51) (.tmp 54) (by rfl) w6.heap.size v7 (0 + X1.length) ([] ++ X1) (by simp [Act.eval]) HO7.out u2 X2 (by simp [Act.eval]) (HU2d.out.below HH1.out) (by omega) HH1.out.size ?_; intro v8 w8 hown8 hgrow8 hat8 hold8; have HO8 := hid hown8; have HH2 : Hid (Below w6.drew.heap.size w6.drew w8) := HH1.out.grown hgrow8 HH1.out.size (fun g hg => (HO7.out.lt g hg).1); clear hown8 hgrow8 hat8 hold8 _h)
          | (refine step_append_hits _ (by rfl) (.const (.slice none 0 0)) (.tmp 50) (by rfl) w6.heap.size (.slice none 0 0) 0 [] (by rfl) (World.ownsRow_nil _ _ _ _) u1 X1 (by first | rfl | (simp [Act.eval]; done)) HU1d.out (by omega) (Nat.le_refl _) ?_; intro v7 w7 hown7 hgrow7 hat7 hold7; have HO7 := hid hown7; have HH1 : Hid (Below w6.drew.heap.size w6.drew w7) := (Below.refl _ _).grown hgrow7 (Nat.le_refl _) (fun g hg => by cases hg); clear hown7 hgrow7 hat7 hold7))
        have HSM := hid ((fine_iff L).1 HF.out).2.1
        have HD9 := hid (HD6.out.below HH3.out)
        have HX9 := hid (HRX.out.below HH3.out)
        have HY9 := hid (ownsRow_readsH HO9.out)
        have HB9 := hid (below_more HB6.out HH3.out)
        have hlY : ([] ++ X1 ++ X2 ++ X).length ≤ 18000 := by simp; omega
        have HXM : Hid (∀ x, x ∈ X ↔ x ∈ asHits (hitsT (L.map nums) 0 [] (nums b))) := fun x => by rw [HX.out]
        have HYM : Hid (∀ x, x ∈ [] ++ X1 ++ X2 ++ X ↔ x ∈ asHits (hitsT (L.map nums) 0 [] (nums b))) := fun x => (HX12.out x).trans (HXM.out x)
        clear HX12 HRX HU1 HU2 HU1d HU2d HRXd HO7 HO8 HO9 HH1 HH2 HH3 hdr HD6 HB6 HD5 HB5 HK5 HD HL4 HB4 H2 HB2 hcut hsl1 hsl2 HX
        generalize [] ++ X1 ++ X2 ++ X = Y at HY9 hlY HYM
        go_wp2_with (first
          | (have _h := HA1; go_at_call 11; refine (starts_any HD10.out (by omega) HSM.out b.size (by omega) HY10.out (by omega)).mono ?_; rintro e w11 ⟨g2, V2, C2, rfl, hl2', hg2, ha2, hb2⟩; have HA2 := hid ha2; have HL2 := hid hl2'; have HL12 := hid (HL1.out.below hb2); have HB11 := hid (below_more HB10.out hb2); clear hl2' hg2 ha2 hb2)
          | (go_at_call 11; refine (starts_any HD9.out (by omega) HSM.out b.size (by omega) HX9.out (by omega)).mono ?_; rintro e w10 ⟨g1, V1, C1, rfl, hl1', hg1, ha1, hb1⟩; have HA1 := hid ha1; have HL1 := hid hl1'; have HD10 := hid (HD9.out.below hb1); have HY10 := hid (HY9.out.below hb1); have HB10 := hid (below_more HB9.out hb1); clear hl1' hg1 ha1 hb1))
        have HEQ : Hid (∀ i, i < b.size → C2 i = C1 i ∧ (C1 i).length ≤ 100) := fun i hi => ⟨by rw [atOf_ids HF.out HXM.out (HA1.out i hi) (by omega), atOf_ids HF.out HYM.out (HA2.out i hi) (by omega)], Nat.le_trans (HA1.out i hi).1.few hl100⟩
        clear HA1 HA2 HXM HYM HD10 HY10 HB10 HD9 HX9 HY9 HB9 HL1
        go_loopw [82] (fun vi wr => ∃ i : Nat, vi = .int .i64 i ∧ i ≤ b.size ∧ Hid (Below w11.heap.size w11 wr)) (fun vi _ => b.size - (intOf vi).toNat)
        case atStart => exact ⟨0, rfl, by omega, Below.refl _ _⟩
        case round =>
          obtain ⟨i, rfl, hi, hbw⟩ := hrel
          by_cases hin : i < b.size
          · have HLa := hid (HL12.out.below hbw.out)
            have HLb := hid (HL2.out.below hbw.out)
            have c1 := HLa.out.row.cell hin
            have c2 := HLb.out.row.cell hin
            have hx : (decide ((0 : Int) ≤ (i : Int) ∧ (i : Int) < (b.size : Int))) = true := decide_eq_true ⟨by omega, by omega⟩
            obtain ⟨he1, he2⟩ := HEQ.out i hin
            have r1 := lots_read HLa.out hin
            have r2 := lots_read HLb.out hin
            rw [he1] at r2
            have HR1 := hid r1
            have HR2 := hid r2
            have hln : (ints (C1 i)).length ≤ 1000000 := by rw [ints_length]; omega
            clear r1 r2 he1 he2 HLa HLb
            go_wp2
            go_quiet ((go_at_call 16; exact Calls.quiet_of (sameInts_same (xs := ints (C1 i)) (HR1.out.below (drewN_below _ _ _)) (HR2.out.below (drewN_below _ _ _)) hln)))
            have hbq := hid (below_more hbw.out (drewN_below wr nq _))
            clear c1 c2 hbw HR1 HR2
            generalize wr.drewN nq = w12 at hbq ⊢
            go_wp2
            go_roundw
            case rel => exact ⟨i + 1, by go_num, by omega, hbq.out⟩
            case measure => simp [intOf]; omega
          · go_wp2
            go_ret
            exact ⟨rfl, below_more HB11.out hbw.out⟩
      · go_enter Try.func5, Try.ntmps5
        go_wp2_with (first
          | (go_at_call 7; refine (few_any H.out).mono ?_; rintro e w1 ⟨rfl, rfl⟩; rw [hd1])
          | (go_at_call 8; refine (alive_any _).mono ?_; rintro e w2 ⟨rfl, hb2⟩; have H2 := hid (H.out.below hb2))
          | (go_at_call 10; refine (make_bad H2.out.1 (by omega) (fun s hs => by have := hsz.2 s hs; omega) hL).mono ?_; rintro e w3 ⟨rfl, hb3⟩; have hb23 := below_more hb2 hb3))
        go_ret
        exact ⟨rfl, hb23⟩
    · have hdb : decide ((120 : Int) < (b.size : Int)) = true := decide_eq_true (by omega)
      have hdb2 : decide (120 < b.size) = true := decide_eq_true (by omega)
      go_enter Try.func5, Try.ntmps5
      go_wp2_with (first
        | (go_at_call 7; refine (few_any H.out).mono ?_; rintro e w1 ⟨rfl, rfl⟩; rw [hd1])
        | (go_at_call 8; refine (alive_any _).mono ?_; rintro e w2 ⟨rfl, hb2⟩))
      go_ret
      exact ⟨rfl, hb2⟩
  · have hd1 : fewB L = false := decide_eq_false hf
    go_enter Try.func5, Try.ntmps5
    go_wp2_with (first
      | (go_at_call 7; refine (few_any H.out).mono ?_; rintro e w1 ⟨rfl, rfl⟩; rw [hd1])
      | (go_at_call 8; refine (alive_any _).mono ?_; rintro e w2 ⟨rfl, hb2⟩))
    go_ret
    exact ⟨rfl, hb2⟩

set_option linter.unusedVariables false
theorem hitsOrder_own : ownKnob Try.prog.godebug = none := by kernel_rfl

theorem hitsOrder_laidOut : laidOutB Try.prog = true := by kernel_rfl

set_option maxRecDepth 100000 in
theorem hitsOrder_lifted (os : Os) (started : os.Started) (H : Type) (enc : TypeId × Value → H) :
    ReturnsInHanded {} Try.checked os 5 .any (Rows.hitsOrderSpec.pre6 enc Try.prog Try.f5 Rows.hitsOrderRow.domain false) (Rows.hitsOrderSpec.post enc Try.prog Try.f5 false true false false) := by
  refine returnsInHanded_of_change_sized (C := Try.checked) hitsOrder_own started (by kernel_rfl) Try.func5
    (ChangeSpec.witness6 (enc := enc) (C := Try.checked) false ⟨#[], #[.slice none 0 0, .string ByteArray.empty, .int .i64 0], []⟩ 8 (by kernel_rfl) (by kernel_rfl) (by kernel_rfl) (by kernel_rfl)) ?_
  intro W base args ds gs before hval0 hW hcnd hsz0 _
  have hsz : (DataW.weightsEach Try.prog (Try.f5.params.toList ++ Rows.hitsOrderSpec.plain.varTypes Try.prog) (ds ++ gs)).all (· ≤ reachBytes) = true := hsz0
  have hval : ∀ (j : Nat) t v, Try.f5.params[j]? = some t → args[j]? = some v → Value.okWide Try.prog W .any base t v := hval0
  have hW' := hW
  obtain ⟨p, q, hA0, hV, rfl, hfz, hnd⟩ := hW
  have hA : DataW.TrodAll enc Try.prog W 0 (fun _ => true) true Try.f5.params.toList args.toList ds p := hA0
  rw [Try.params5] at hA hval hsz
  obtain ⟨v0, vs0, d0, ds0, p0, q0, hargs, rfl, rfl, h0, r0⟩ := trodAll_cons hA
  obtain ⟨v1, vs1, d1, ds1, p1, q1, rfl, rfl, rfl, h1, r1⟩ := trodAll_cons r0
  obtain ⟨v2, vs2, d2, ds2, p2, q2, rfl, rfl, rfl, h2, r2⟩ := trodAll_cons r1
  obtain ⟨rfl, rfl, rfl⟩ := trodAll_nil r2
  obtain rfl : args = #[v0, v1, v2] := by cases args; simp_all
  obtain ⟨rfl, rfl⟩ := trodVars_none hV
  obtain ⟨a0, len0, cap0, rfl⟩ := okWide_slice Try.underlying22 (hval 0 22 v0 rfl rfl)
  have k0 := h0
  have lt0 : ∀ x ∈ p0, x.block < W.heap.size := by obtain ⟨m, hm⟩ := k0; exact DataW.trod_lt m _ _ _ hm
  obtain ⟨z0, w0⟩ := h0.elim (fun _ hf => open_list hf hsz 0 rfl rfl)
  obtain ⟨a1, rfl, rfl, rfl, w1⟩ := open_string Try.underlying9 (hval 1 9 v1 rfl rfl) h1
  obtain ⟨a2, rfl, rfl, rfl, w2⟩ := open_int Try.underlying3 (hval 2 3 v2 rfl rfl) h2
  clear hA0 hval0
  have s1 : a1.size ≤ 140737488351232 := by have h := sized_string hsz (j := 1) (t := 9) rfl rfl; rw [Array.length_toList] at h; exact h
  refine (order_walk _ z0 a1 a2 W w0).mono fun e W' ⟨he, bel⟩ => ?_
  subst he
  exact ⟨_, rfl, _, _, _, [], _, [], hW', trodAll_mk1 (shut_bool Try.underlying4 _), (trodAll_cons_mk (Below.trod hitsOrder_laidOut (by kernel_rfl) (of_decide_eq_true (by kernel_rfl)) k0 bel lt0) (trodAll_cons_mk (shut_string Try.underlying9 w1) (trodAll_cons_mk (shut_int Try.underlying3 w2) trodAll_mk0))), rfl, bel.frame _, fun h => by cases h⟩

/-- THE STATEMENT. -/
theorem hitsOrder_holds : Rows.HitsOrderSaid :=
  OpenClaim.holds_of_wide 5 Try.f5 rfl rfl rfl rfl rfl rfl rfl ⟨rfl, rfl, rfl, rfl, rfl⟩ rfl rfl rfl rfl rfl (by kernel_rfl) Try.func5 (by kernel_rfl)
    (of_decide_eq_true (by kernel_rfl)) (by unfold Func.isWrapper; first | (rw [if_pos (by decide +kernel)]; kernel_rfl) | (rw [if_neg (by decide +kernel)]; exact ⟨rfl, rfl⟩))
    (fun os started H enc _ => hitsOrder_lifted os started H enc)
#print axioms hitsOrder_holds
end Go.Proofs.Ytfeibhdnmfiflaa
