/-
  DictOrder: in another order phrases have other ids, and the dictionary other bytes, as many. For every list of texts and every two places.
-/
import Derived.Test.YtbeahodgkdbidaaTold
import Derived.ChangeOld
import Derived.SizedLaws
namespace Go.Proofs.Ytbeahodgkdbidaa
open Go.ChangeShapes Go.WideShapes Go.ChangeAt Go.RowKit

/-- Two phrases in each other's place. -/
def swapped (L : List ByteArray) (i k : Nat) (hi : i < L.length) (hk : k < L.length) : List ByteArray := (L.set i (L[k]'hk)).set k (L[i]'hi)

theorem perm_sum {α : Type} (f : α → Nat) {A B : List α} (h : A.Perm B) : (A.map f).sum = (B.map f).sum := by
  induction h with
  | nil => rfl
  | cons x _ ih => simp [ih]
  | swap x y l => simp; omega
  | trans _ _ h1 h2 => exact h1.trans h2

theorem swapped_perm (L : List ByteArray) (i k : Nat) (hi : i < L.length) (hk : k < L.length) : (swapped L i k hi hk).Perm L := List.set_set_perm hi hk

theorem body_sum (L : List ByteArray) : (body L).length = (L.map fun s => vlen s.size + s.size).sum := by
  induction L with
  | nil => rfl
  | cons s L ih => rw [body_cons, List.length_append, List.length_append, vb_length, nums_length, ih, List.map_cons, List.sum_cons]

theorem swapped_fine {L : List ByteArray} (h : Fine L) (i k : Nat) (hi : i < L.length) (hk : k < L.length) : Fine (swapped L i k hi hk) := by
  have hp := swapped_perm L i k hi hk
  rw [fine_iff] at h ⊢
  refine ⟨by rw [hp.length_eq]; exact h.1, fun s hs => h.2.1 s (hp.mem_iff.1 hs), ?_, hp.nodup_iff.2 h.2.2.2⟩
  have : total (swapped L i k hi hk) = total L := perm_sum _ hp
  rw [this]
  exact h.2.2.1

theorem swapped_size (L : List ByteArray) (i k : Nat) (hi : i < L.length) (hk : k < L.length) : (enc (swapped L i k hi hk)).size = (enc L).size := by
  have hp := swapped_perm L i k hi hk
  rw [enc_size, enc_size, body_sum, body_sum, perm_sum _ hp, hp.length_eq]

theorem swapped_length (L : List ByteArray) (i k : Nat) (hi : i < L.length) (hk : k < L.length) : (swapped L i k hi hk).length = L.length := by simp [swapped]

theorem swapped_first {L : List ByteArray} (h : Fine L) (i k : Nat) (hi : i < L.length) (hk : k < L.length) : First (swapped L i k hi hk) (L[i]'hi) k := by
  have hf := (fine_iff _).1 (swapped_fine h i k hi hk)
  have := First.of_nodup hf.2.2.2 k (by rw [swapped_length]; exact hk)
  have e : (swapped L i k hi hk)[k]'(by rw [swapped_length]; exact hk) = L[i]'hi := by simp [swapped]
  rw [e] at this
  exact this

theorem swapped_same (L : List ByteArray) (i : Nat) (hi : i < L.length) : swapped L i i hi hi = L := by simp [swapped]

theorem swapped_other {L : List ByteArray} (h : Fine L) (i k : Nat) (hi : i < L.length) (hk : k < L.length) (hne : i ≠ k) : swapped L i k hi hk ≠ L := by
  intro e
  have h1 := swapped_first h i k hi hk
  rw [e] at h1
  have h2 := First.of_nodup ((fine_iff L).1 h).2.2.2 i hi
  exact hne (h2.one h1)

theorem strs_set (L : List ByteArray) (i : Nat) (s : ByteArray) : strs (L.set i s) = (strs L).set i (.string s) := by simp [strs, List.map_set]

/-- A store into a row of one's own leaves all below it. -/
theorem turnsrow_store {w : World} {B : Nat} {e : TypeId} {g n cap : Nat} {xs : List Value} (h : w.ownsRow B e 1 (.slice (some ⟨g, 0, none⟩) n cap) n xs) (j : Nat) (u : Value) : Below B w (w.setCell ⟨g, j, none⟩ u) :=
  (Below.refl _ _).setCell (p := ⟨g, j, none⟩) (h.lt g rfl).1 _

set_option maxRecDepth 20000 in
set_option maxHeartbeats 4000000 in
theorem order_walk (v : Value) (L : List ByteArray) (i k : Int) (w : World) (h : ListIn w v L) :
    Calls Try.prog 6 #[v, .int .i64 i, .int .i64 k] w fun e w' => e = .returned (.bool true) ∧ Below w.heap.size w w' := by
  have H := hid h
  by_cases hf : FewL L
  · have hd1 : fewB L = true := decide_eq_true hf
    have hsz := hf.sizes
    obtain ⟨⟨a, ca, rfl, ha⟩, _, _⟩ := h
    rw [strs_length] at *
    have hl110 := hf.1
    by_cases hl2 : L.length < 2
    · clear ha
      go_enter Try.func6, Try.ntmps6
      go_wp2_with (first
        | (go_at_call 9; refine (few_any H.out).mono ?_; rintro e w1 ⟨rfl, rfl⟩; rw [hd1])
        | (go_at_call 10; refine (alive_any _).mono ?_; rintro e w2 ⟨rfl, hb2⟩))
      go_ret
      exact ⟨rfl, hb2⟩
    rcases fine_or_bad L with hL | ⟨c, a0, hL⟩
    · have HF := hid hL
      have HBD := hid (Fine.bounds hL)
      clear hsz hf
      obtain ⟨i0, hi0, hz0, hz1, hz2⟩ := info_parts Try.infoStr
      obtain ⟨x, hx, hxi⟩ := round_in i L.length (by omega) (by omega)
      obtain ⟨y, hy, hyk⟩ := round_in k L.length (by omega) (by omega)
      have HA := hid ha
      have HX := hid hx
      have HY := hid hy
      clear ha
      have hLn := hid (rfl : L.length = L.length)
      generalize hn : L.length = n at HA hl110 hl2 H hxi hyk hx hy
      have HN := hid hn
      clear hn hLn hL
      go_enter Try.func6, Try.ntmps6
      go_wp2_with (first
        | (go_at_call 9; refine (few_any H.out).mono ?_; rintro e w1 ⟨rfl, rfl⟩; rw [hd1])
        | (go_at_call 10; refine (alive_any _).mono ?_; rintro e w2 ⟨rfl, hb2⟩; have H2 := hid (H.out.below hb2))
        | (go_at_call 30; refine (make_fine H2.out.1 HF.out).mono ?_; rintro e w3 ⟨p, rfl, hd, hb3⟩; have HD := hid hd; have hw3 := hid (below_more hb2 hb3); have H3 := hid (H2.out.below hb3); clear hd hb2 hb3))
      have hnz : ((n : Int) == 0) = false := beq_false_of_ne (by omega)
      have hnz2 : ¬ ((n : Int) = 0) := by omega
      go_region
      have hw3d := hid hw3.out.drew
      have HDd := hid (HD.out.below (w' := w3.drew) (Below.drew (Below.refl _ _)))
      have H3d := hid (H3.out.below (w' := w3.drew) (Below.drew (Below.refl _ _)))
      generalize w3.drew = W3 at *
      go_wp2_with (at_builtin; refine wpList_append_reads _ rfl (.const (.slice none 0 0)) (.tmp 49) 22 rfl W3.heap.size 9 i0 (.string ⟨#[]⟩) 16 Try.underlying22 hi0 hz0 hz1 hz2 rfl (.slice none 0 0) 0 [] rfl (World.ownsRow_nil _ _ _ _) _ (strs L) rfl H3d.out.1 (strs_one L) (by rw [strs_length, HN.out]; unfold maxLen; omega) (by rw [strs_length, HN.out]; omega) (Nat.le_refl _) ?_; intro v' w4 hown hgrow hat hold; have l4 : True := trivial)
      rw [List.nil_append, strs_length, HN.out, Nat.zero_add] at hown
      have hb4 : Below W3.heap.size W3 w4 := (Below.refl _ _).grown hgrow (Nat.le_refl _) (fun k hk => by simp [Value.ownBlock] at hk)
      obtain ⟨g, cap', rfl, hgB, hglt⟩ := hown.form (by omega)
      have hxL := HX.out
      have hyL := HY.out
      have cx : w4.cell? ⟨g, x, none⟩ = some (.string (L[x]'hxL)) := by
        rw [hown.cellAt x (by omega), strs_at]
      have cy : w4.cell? ⟨g, y, none⟩ = some (.string (L[y]'hyL)) := by
        rw [hown.cellAt y (by omega), strs_at]
      have hownd : w4.ownsRow W3.heap.size 9 1 (.slice (some ⟨g, 0, none⟩) n cap') n (strs L) := hown
      have fx := hownd.frozenAt x
      have ho2 := (hownd.stored x (.string (L[y]'hyL))).1
      have fy := hownd.frozenAt y
      have cy2 := ho2.cellAt y (by omega)
      have ho3 := (ho2.stored y (.string (L[x]'hxL))).1
      have hsw : ((strs L).set x (.string (L[y]'hyL))).set y (.string (L[x]'hxL)) = strs (swapped L x y hxL hyL) := by simp [strs, swapped, List.map_set]
      rw [hsw] at ho3
      have HO3 := hid ho3
      have HB4 := hid hb4
      have hT := hid ((turnsrow_store hownd x (.string (L[y]'hyL))).trans (turnsrow_store ho2 y (.string (L[x]'hxL))))
      rw [show ((strs L).set x (.string (L[y]'hyL)))[y]? = some (.string ((L.set x (L[y]'hyL))[y]'(by simpa using hyL))) from by rw [← strs_set, strs_at]] at cy2
      clear hown hownd ho2 ho3 hsw hgrow hat hold hb4
      have hxd : (decide ((0 : Int) ≤ (x : Int) ∧ (x : Int) < (n : Int))) = true := decide_eq_true ⟨by omega, by omega⟩
      have hyd : (decide ((0 : Int) ≤ (y : Int) ∧ (y : Int) < (n : Int))) = true := decide_eq_true ⟨by omega, by omega⟩
      go_region
      have HO5 : Hid (((w4.setCell ⟨g, x, none⟩ (.string (L[y]'hyL))).setCell ⟨g, y, none⟩ (.string (L[x]'hxL))).drew.ownsRow W3.heap.size 9 1 (.slice (some ⟨g, 0, none⟩) n cap') n (strs (swapped L x y hxL hyL))) := HO3.out
      have hb5 := (HB4.out.trans hT.out).drew
      generalize ((w4.setCell ⟨g, x, none⟩ (.string (L[y]'hyL))).setCell ⟨g, y, none⟩ (.string (L[x]'hxL))).drew = W5 at *
      have D5 := hid (HDd.out.below hb5)
      have hw5 := hid (below_more hw3d.out hb5)
      have HSF := hid (swapped_fine HF.out x y hxL hyL)
      have HSB := hid (Fine.bounds HSF.out)
      have HFi := hid (swapped_first HF.out x y hxL hyL)
      have HSz := hid (swapped_size L x y hxL hyL)
      have HSL : Hid ((swapped L x y hxL hyL).length = n) := (swapped_length L x y hxL hyL).trans HN.out
      have HR5 := hid (ownsRow_reads HO5.out)
      have hbyL := hid (fun (w : World) (B p : Nat) (hd : DictAt w B p L) => bytes_any hd HBD.out.1 HBD.out.2.1 (Nat.le_trans HBD.out.2.2 (by decide)))
      have hbyS := hid (fun (w : World) (B p : Nat) (hd : DictAt w B p (swapped L x y hxL hyL)) => bytes_any hd HSB.out.1 HSB.out.2.1 (Nat.le_trans HSB.out.2.2 (by decide)))
      have hcl : ∃ gb o, a = some ⟨gb, o, none⟩ ∧ W5.cell? ⟨gb, o + x, none⟩ = some (.string (L[x]'hxL)) := by
        rcases HA.out with h | ⟨gb, o, rfl, hgb, hcell⟩
        · omega
        · exact ⟨gb, o, rfl, keeps hw5.out _ _ ((hcell x hx).trans (strs_at L x hxL))⟩
      obtain ⟨gb, o, rfl, hcl⟩ := hcl
      have hSE : Hid ((x = y ∧ enc (swapped L x y hxL hyL) = enc L) ∨ (x ≠ y ∧ enc (swapped L x y hxL hyL) ≠ enc L)) := by
        by_cases e : x = y
        · left
          refine ⟨e, ?_⟩
          subst e
          rw [swapped_same]
        · right
          refine ⟨e, fun h => swapped_other HF.out x y hxL hyL e (enc_inj _ _ ?_ HSB.out.2.1 ?_ HBD.out.2.1 h)⟩
          · exact Nat.lt_of_le_of_lt HSB.out.1 (by decide)
          · exact Nat.lt_of_le_of_lt HBD.out.1 (by decide)
      clear cx cy cy2 fx fy hb5
      generalize enc (swapped L x y hxL hyL) = eS at hbyS HSz hSE
      generalize enc L = eL at hbyL HSz hSE
      generalize swapped L x y hxL hyL = SL at *
      generalize L[x]'hxL = s at *
      have hz := HSz.out
      have hse : ((eS.size : Int) == (eL.size : Int)) = true := by rw [hz]; simp
      rcases hSE.out with ⟨hxy, hee⟩ | ⟨hxy, hee⟩
      · have hte := text_eq hee
        have hxe : ((x : Int) == (y : Int)) = true := by rw [hxy]; simp
        clear hz hxy hee hSE
        go_wp2_with (first
        | (have _h := m4; go_at_call 18; refine (hbyL.out _ _ _ D10.out).mono ?_; rintro e w11 ⟨rfl, hb11⟩; have hw11 := hid (below_more hw10.out hb11))
        | (have _h := m3; go_at_call 18; refine (hbyS.out _ _ _ E9.out).mono ?_; rintro e w10 ⟨rfl, hb10⟩; have hw10 := hid (below_more hw9.out hb10); have D10 := hid (D9.out.below hb10); have m4 : True := trivial)
        | (have _h := m3; go_at_call 20; refine (len_dict D9.out).mono ?_; rintro e w9 ⟨rfl, rfl⟩; rw [HN.out])
        | (have _h := m2; go_at_call 20; refine (len_dict E9.out).mono ?_; rintro e w9 ⟨rfl, rfl⟩; rw [HSL.out]; have m3 : True := trivial)
        | (have _h := m1; go_at_call 18; refine (hbyL.out _ _ _ D8.out).mono ?_; rintro e w9 ⟨rfl, hb9⟩; have hw9 := hid (below_more hw8.out hb9); have D9 := hid (D8.out.below hb9); have E9 := hid (E8.out.below hb9); have m2 : True := trivial)
        | (go_at_call 18; refine (hbyS.out _ _ _ E7.out).mono ?_; rintro e w8 ⟨rfl, hb8⟩; have hw8 := hid (below_more hw7.out hb8); have D8 := hid (D7.out.below hb8); have E8 := hid (E7.out.below hb8); have m1 : True := trivial)
        | (go_at_call 17; refine (find_in E7.out (by rw [HSL.out]; omega) HFi.out).mono ?_; rintro e w8 ⟨rfl, rfl⟩)
        | (go_at_call 30; refine (make_fine HR5.out HSF.out).mono ?_; rintro e w7 ⟨q, rfl, he, hb7⟩; have hw7 := hid (below_more hw5.out hb7); have E7 := hid he; have D7 := hid (D5.out.below hb7); have hcl7 := keeps hb7 _ _ hcl))
        go_ret
        exact ⟨rfl, hw11.out⟩
      · have hte := text_ne hee
        have hxe : ((x : Int) == (y : Int)) = false := beq_false_of_ne (by omega)
        clear hz hxy hee hSE
        go_wp2_with (first
        | (have _h := m4; go_at_call 18; refine (hbyL.out _ _ _ D10.out).mono ?_; rintro e w11 ⟨rfl, hb11⟩; have hw11 := hid (below_more hw10.out hb11))
        | (have _h := m3; go_at_call 18; refine (hbyS.out _ _ _ E9.out).mono ?_; rintro e w10 ⟨rfl, hb10⟩; have hw10 := hid (below_more hw9.out hb10); have D10 := hid (D9.out.below hb10); have m4 : True := trivial)
        | (have _h := m3; go_at_call 20; refine (len_dict D9.out).mono ?_; rintro e w9 ⟨rfl, rfl⟩; rw [HN.out])
        | (have _h := m2; go_at_call 20; refine (len_dict E9.out).mono ?_; rintro e w9 ⟨rfl, rfl⟩; rw [HSL.out]; have m3 : True := trivial)
        | (have _h := m1; go_at_call 18; refine (hbyL.out _ _ _ D8.out).mono ?_; rintro e w9 ⟨rfl, hb9⟩; have hw9 := hid (below_more hw8.out hb9); have D9 := hid (D8.out.below hb9); have E9 := hid (E8.out.below hb9); have m2 : True := trivial)
        | (go_at_call 18; refine (hbyS.out _ _ _ E7.out).mono ?_; rintro e w8 ⟨rfl, hb8⟩; have hw8 := hid (below_more hw7.out hb8); have D8 := hid (D7.out.below hb8); have E8 := hid (E7.out.below hb8); have m1 : True := trivial)
        | (go_at_call 17; refine (find_in E7.out (by rw [HSL.out]; omega) HFi.out).mono ?_; rintro e w8 ⟨rfl, rfl⟩)
        | (go_at_call 30; refine (make_fine HR5.out HSF.out).mono ?_; rintro e w7 ⟨q, rfl, he, hb7⟩; have hw7 := hid (below_more hw5.out hb7); have E7 := hid he; have D7 := hid (D5.out.below hb7); have hcl7 := keeps hb7 _ _ hcl))
        go_ret
        exact ⟨rfl, hw11.out⟩
    · clear ha
      go_enter Try.func6, Try.ntmps6
      go_wp2_with (first
        | (go_at_call 9; refine (few_any H.out).mono ?_; rintro e w1 ⟨rfl, rfl⟩; rw [hd1])
        | (go_at_call 10; refine (alive_any _).mono ?_; rintro e w2 ⟨rfl, hb2⟩; have H2 := hid (H.out.below hb2))
        | (go_at_call 30; refine (make_bad H2.out.1 hsz.1 (fun s hs => by have := hsz.2 s hs; omega) hL).mono ?_; rintro e w3 ⟨rfl, hb3⟩))
      go_ret
      exact ⟨rfl, below_more hb2 hb3⟩
  · have hd1 : fewB L = false := decide_eq_false hf
    go_enter Try.func6, Try.ntmps6
    go_wp2_with (first
      | (go_at_call 9; refine (few_any H.out).mono ?_; rintro e w1 ⟨rfl, rfl⟩; rw [hd1])
      | (go_at_call 10; refine (alive_any _).mono ?_; rintro e w2 ⟨rfl, hb2⟩))
    go_ret
    exact ⟨rfl, hb2⟩

set_option linter.unusedVariables false
theorem dictOrder_own : ownKnob Try.prog.godebug = none := by kernel_rfl

theorem dictOrder_laidOut : laidOutB Try.prog = true := by kernel_rfl

set_option maxRecDepth 100000 in
theorem dictOrder_lifted (os : Os) (started : os.Started) (H : Type) (enc : TypeId × Value → H) :
    ReturnsInHanded {} Try.checked os 6 .any (Rows.dictOrderSpec.pre6 enc Try.prog Try.f6 Rows.dictOrderRow.domain false) (Rows.dictOrderSpec.post enc Try.prog Try.f6 false true false false) := by
  refine returnsInHanded_of_change_sized (C := Try.checked) dictOrder_own started (by kernel_rfl) Try.func6
    (ChangeSpec.witness6 (enc := enc) (C := Try.checked) false ⟨#[], #[.slice none 0 0, .int .i64 0, .int .i64 0], []⟩ 8 (by kernel_rfl) (by kernel_rfl) (by kernel_rfl) (by kernel_rfl)) ?_
  intro W base args ds gs before hval0 hW hcnd hsz0 _
  have hsz : (DataW.weightsEach Try.prog (Try.f6.params.toList ++ Rows.dictOrderSpec.plain.varTypes Try.prog) (ds ++ gs)).all (· ≤ reachBytes) = true := hsz0
  have hval : ∀ (j : Nat) t v, Try.f6.params[j]? = some t → args[j]? = some v → Value.okWide Try.prog W .any base t v := hval0
  have hW' := hW
  obtain ⟨p, q, hA0, hV, rfl, hfz, hnd⟩ := hW
  have hA : DataW.TrodAll enc Try.prog W 0 (fun _ => true) true Try.f6.params.toList args.toList ds p := hA0
  rw [Try.params6] at hA hval hsz
  obtain ⟨v0, vs0, d0, ds0, p0, q0, hargs, rfl, rfl, h0, r0⟩ := trodAll_cons hA
  obtain ⟨v1, vs1, d1, ds1, p1, q1, rfl, rfl, rfl, h1, r1⟩ := trodAll_cons r0
  obtain ⟨v2, vs2, d2, ds2, p2, q2, rfl, rfl, rfl, h2, r2⟩ := trodAll_cons r1
  obtain ⟨rfl, rfl, rfl⟩ := trodAll_nil r2
  obtain rfl : args = #[v0, v1, v2] := by cases args; simp_all
  obtain ⟨rfl, rfl⟩ := trodVars_none hV
  obtain ⟨a0, len0, cap0, rfl⟩ := okWide_slice Try.underlying22 (hval 0 22 v0 rfl rfl)
  have k0 := h0
  have lt0 : ∀ x ∈ p0, x.block < W.heap.size := by obtain ⟨m, hm⟩ := k0; exact DataW.trod_lt m _ _ _ hm
  obtain ⟨z0, w0⟩ := h0.elim (fun _ hf => open_list hf hsz 0 rfl rfl)
  obtain ⟨a1, rfl, rfl, rfl, w1⟩ := open_int Try.underlying3 (hval 1 3 v1 rfl rfl) h1
  obtain ⟨a2, rfl, rfl, rfl, w2⟩ := open_int Try.underlying3 (hval 2 3 v2 rfl rfl) h2
  clear hA0 hval0
  refine (order_walk _ z0 a1 a2 W w0).mono fun e W' ⟨he, bel⟩ => ?_
  subst he
  exact ⟨_, rfl, _, _, _, [], _, [], hW', trodAll_mk1 (shut_bool Try.underlying4 _), (trodAll_cons_mk (Below.trod dictOrder_laidOut (by kernel_rfl) (of_decide_eq_true (by kernel_rfl)) k0 bel lt0) (trodAll_cons_mk (shut_int Try.underlying3 w1) (trodAll_cons_mk (shut_int Try.underlying3 w2) trodAll_mk0))), rfl, bel.frame _, fun h => by cases h⟩

/-- THE STATEMENT. -/
theorem dictOrder_holds : Rows.DictOrderSaid :=
  OpenClaim.holds_of_wide 6 Try.f6 rfl rfl rfl rfl rfl rfl rfl ⟨rfl, rfl, rfl, rfl, rfl⟩ rfl rfl rfl rfl rfl (by kernel_rfl) Try.func6 (by kernel_rfl)
    (of_decide_eq_true (by kernel_rfl)) (by unfold Func.isWrapper; first | (rw [if_pos (by decide +kernel)]; kernel_rfl) | (rw [if_neg (by decide +kernel)]; exact ⟨rfl, rfl⟩))
    (fun os started H enc _ => dictOrder_lifted os started H enc)
#print axioms dictOrder_holds
end Go.Proofs.Ytbeahodgkdbidaa
