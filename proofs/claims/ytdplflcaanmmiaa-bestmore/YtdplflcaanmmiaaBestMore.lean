/-
  BestMore: with one phrase more no more tokens are needed. For every list of texts, every text more, every bytes.
  No condition: whatever the input, in whatever memory; the arguments read as before.
-/
import Derived.Test.YtdplflcaanmmiaaAlive15
import Derived.BigQuiet
import Derived.ShutString
import Derived.ChangeOld
import Derived.SizedLaws
namespace Go.Proofs.Ytdplflcaanmmiaa
open Go.ChangeShapes Go.WideShapes Go.ChangeAt Go.RowKit
open Go.ChangeMaps (open_string shut_string)

/-- A list that came in, and how many bytes it takes. -/
theorem open_listW {H : Type} {enc : TypeId × Value → H} {W : World} {base fuel : Nat} {spare : Nat → Bool} {held : Bool} {a : Option Addr} {len cap : Nat} {x : DataW H × List MemPlace}
    (h : DataW.trod enc Try.prog W base spare held fuel 22 [.slice a len cap] = some x)
    {ts : List TypeId} {ds : List (DataW H)} (hsz : (DataW.weightsEach Try.prog ts ds).all (· ≤ reachBytes) = true) (j : Nat) (ht : ts[j]? = some 22) (hd : ds[j]? = some x.1) : ∃ L, ListIn W (.slice a len cap) L ∧ L.length * 16 ≤ 140737488351232 := by
  obtain ⟨L, hL⟩ := open_list h hsz j ht hd
  refine ⟨L, hL, ?_⟩
  have hlen : len = L.length := by
    obtain ⟨⟨a2, c2, e, _⟩, _⟩ := hL
    injection e with e1 e2 e3
    rw [e2, strs_length]
  have hr : reachBytes = 140737488351232 := by decide
  rcases Go.Deep.open_strs Try.underlying22 Try.underlying9 Try.cellsStr h with ⟨hcs, _⟩ | ⟨ad, l, c, m, zs, hcs, _, hl, hcm, hm, hx, hcell⟩
  · simp only [List.cons.injEq, Value.slice.injEq, and_true] at hcs
    obtain ⟨rfl, rfl, rfl⟩ := hcs
    omega
  · simp only [List.cons.injEq, Value.slice.injEq, and_true] at hcs
    obtain ⟨rfl, rfl, rfl⟩ := hcs
    have hlm : len ≤ m := by rw [hm]; split <;> omega
    subst hx
    have hw := sized_slice hsz ht hd Try.underlying22
    rw [Try.bytesStr, List.length_map, List.length_range] at hw
    omega

/-- append of texts to texts of the call's own, however many they are. -/
theorem wpList_append_strsW {ops : Array Oper} {rest : List Oper} {o : Oper} {a : Act} {w : World} {Q : Exit → Act → World → Prop} (hgd : o.guard = none) (s x : Operand)
    (ho : o.op = .call { callee := .builtin .append, args := #[s, x], argTypes := #[22, 22] })
    (base : Nat) (v : Value) (xs : List ByteArray) (hs : a.eval s = v) (hown : w.ownsRow base 9 1 v xs.length (strs xs)) (u : Value) (ys : List ByteArray) (hx : a.eval x = u) (hu : Reads w u (strs ys)) (hfew : (xs.length + ys.length) * 16 ≤ 140737488355328) (hbase : base ≤ w.heap.size)
    (h : ∀ v' w', w'.ownsRow base 9 1 v' (xs ++ ys).length (strs (xs ++ ys)) → Below base w w' → wpList Try.prog ops Q rest (a.put o.dst v') w') : wpList Try.prog ops Q (o :: rest) a w := by
  obtain ⟨i0, hi0, hz0, hz1, hz2⟩ := info_parts Try.infoStr
  have hny := strs_length ys
  obtain ⟨v', w', hr, h2, h3, _, _⟩ := run_append_reads (P := Try.prog) w 22 o.type base 9 i0 (.string ⟨#[]⟩) 16 Try.underlying22 hi0 hz0 hz1 hz2 rfl v xs.length (strs xs) hown u (strs ys) hu (strs_one ys) (by rw [hny]; unfold maxLen; omega) (by rw [hny]; exact hfew) hbase
  rw [strs_append, hny, ← List.length_append] at h2
  refine wpList_plain hgd fun K hK => ?_
  unfold Oper.wp execOp
  simp only [ho, resolve, invoke, builtin, Sem.run_bind, Sem.run_pure, Result.andThen_ok, List.map_toArray, List.map_cons, List.map_nil, hs, hx, hr]
  exact hK _ _ (h v' w' h2 ((Below.refl base w).grown h3 hbase (fun g hg => (hown.lt g hg).1)))

theorem more_few {L : List ByteArray} {s b : ByteArray} (hb : b.size ≤ 400) (hM : Fine (L ++ [s])) : (ints (bW (L ++ [s]) 1024 (nums b))).length ≤ (ints (bW L 1024 (nums b))).length := by
  have hT := txt_nums b (by omega)
  have e : (L ++ [s]).map nums = L.map nums ++ [nums s] := by simp
  have h1 := fine_nodup hM
  have h2 := fine_some hM
  have h3 := phrases_short hM
  rw [e] at h1 h2 h3
  have h4 := bestT_more (L.map nums) (nums s) 40 h3 h1 h2 bB bigN (nums b) hT.1 hT.big
  rw [ints_length, ints_length, bW_one (by omega) (by rw [nums_length]; omega), bW_one (by omega) (by rw [nums_length]; omega)]
  unfold bA
  rw [e]
  exact h4

set_option maxRecDepth 20000 in
set_option maxHeartbeats 8000000 in
theorem more_walk (v : Value) (L : List ByteArray) (s b : ByteArray) (hs47 : s.size ≤ 140737488351232) (w : World) (h : ListIn w v L ∧ L.length * 16 ≤ 140737488351232) :
    Calls Try.prog 5 #[v, .string s, .string b] w fun e w' => e = .returned (.bool true) ∧ Below w.heap.size w w' := by
  obtain ⟨h, h16⟩ := h
  have H := hid h
  have HI : Hid (∀ (w2 : World) (u : Value), Reads w2 u (strs (L ++ [s])) → ListIn w2 u (L ++ [s])) := fun w2 u hu => ⟨hu, by rw [List.length_append, List.length_singleton]; omega, fun x hx => by
    rcases List.mem_append.1 hx with hx | hx
    · exact H.out.2.2 x hx
    · rw [List.mem_singleton] at hx; rw [hx]; exact hs47⟩
  clear h
  by_cases hf1 : Fits L b
  · by_cases hf2 : Fits (L ++ [s]) b
    · have HF1 := hid hf1
      have HF2 := hid hf2
      have hfew := more_few hf1.2.1 hf2.2.2
      have h400 := hf1.2.1
      obtain ⟨q1, hq1⟩ : ∃ q, q = (ints (bW L 1024 (nums b))).length := ⟨_, rfl⟩
      obtain ⟨q2, hq2⟩ : ∃ q, q = (ints (bW (L ++ [s]) 1024 (nums b))).length := ⟨_, rfl⟩
      rw [← hq1, ← hq2] at hfew
      have hdq : decide ((q2 : Int) ≤ (q1 : Int)) = true := decide_eq_true (by omega)
      have HQ1 := hid hq1
      have HQ2 := hid hq2
      clear hf1 hf2 hq1 hq2
      go_enter Try.func5, Try.ntmps5
      go_wp2_with (first
        | (have _h := HA4; go_at_call 7; refine (dict_fits H4.out HF2.out).mono ?_; rintro e w5 ⟨p5, rfl, hd5, hb5⟩; have HX5 := hid hd5; have HD5 := hid ((HD1.out.below HC4.out).below hb5); have HB5 := hid (below_more HB4.out hb5); clear hd5 hb5)
        | (go_at_call 7; refine (dict_fits H.out HF1.out).mono ?_; rintro e w1 ⟨p1, rfl, hd1, hb1⟩; have HD1 := hid hd1; have H1 := hid (H.out.below hb1); have HB1 := hid hb1; clear hd1 hb1)
        | (have _h := HA2; at_builtin; refine wpList_append_strsW rfl (.tmp 19) (.tmp 21) rfl w1.heap.size _ L rfl (HA2.out.alloc _) _ [s] rfl (reads_built _ #[.string s] _ 1 rfl) (by rw [List.length_singleton]; omega) (by have := HC2.out.size; simp; omega) ?_; intro v4 w4 hown4 hb4; have HA4 := hid (ownsRow_reads hown4); have HC4 := hid ((HC2.out.alloc HC2.out.size _).trans hb4); have H4 := hid (HI.out _ _ HA4.out); have HB4 := hid (below_more HB1.out HC4.out); clear hown4 hb4)
        | (at_builtin; refine wpList_append_strsW rfl (.const (.slice none 0 0)) (.tmp 18) rfl w1.heap.size _ [] rfl (World.ownsRow_nil _ _ _ _) _ L rfl H1.out.1 (by rw [List.length_nil]; omega) (Nat.le_refl _) ?_; intro v2 w2 hown2 hb2; rw [List.nil_append] at hown2; have HA2 := hid hown2; have HC2 := hid hb2; clear hown2 hb2)
        | (go_at_call 8; refine (alive_15 _).mono ?_; rintro e w6 ⟨rfl, hb6⟩; have HX6 := hid (HX5.out.below hb6); have HD6 := hid (HD5.out.below hb6); have HB6 := hid (below_more HB5.out hb6); clear hb6)
        | (have _h := HB7; go_at_call 14; refine (parseB_any HD7.out HF1.out.2.2 b (by omega) 1024 (by omega) (by omega)).mono ?_; rintro e w8 ⟨v8, rfl, ho8, hb8⟩; rw [← HQ1.out] at ho8; obtain ⟨a8, c8, rfl⟩ := ownsRow_slice ho8; have HB8 := hid (below_more HB7.out hb8); clear ho8 hb8)
        | (go_at_call 14; refine (parseB_any HX6.out HF2.out.2.2 b (by omega) 1024 (by omega) (by omega)).mono ?_; rintro e w7 ⟨v7, rfl, ho7, hb7⟩; rw [← HQ2.out] at ho7; obtain ⟨a7, c7, rfl⟩ := ownsRow_slice ho7; have HD7 := hid (HD6.out.below hb7); have HB7 := hid (below_more HB6.out hb7); clear ho7 hb7))
      go_ret
      exact ⟨by simp, HB8.out⟩
    · have HF1 := hid hf1
      have HF2 := hid hf2
      clear hf1 hf2
      go_enter Try.func5, Try.ntmps5
      go_wp2_with (first
        | (have _h := HA4; go_at_call 7; refine (dict_no H4.out HF2.out).mono ?_; rintro e w5 ⟨rfl, hw5⟩; have HB5 := hid (show Below w.heap.size w w5 by rw [hw5]; exact HB4.out); clear hw5)
        | (go_at_call 7; refine (dict_fits H.out HF1.out).mono ?_; rintro e w1 ⟨p1, rfl, hd1, hb1⟩; have H1 := hid (H.out.below hb1); have HB1 := hid hb1; clear hd1 hb1)
        | (have _h := HA2; at_builtin; refine wpList_append_strsW rfl (.tmp 19) (.tmp 21) rfl w1.heap.size _ L rfl (HA2.out.alloc _) _ [s] rfl (reads_built _ #[.string s] _ 1 rfl) (by rw [List.length_singleton]; omega) (by have := HC2.out.size; simp; omega) ?_; intro v4 w4 hown4 hb4; have HA4 := hid (ownsRow_reads hown4); have HC4 := hid ((HC2.out.alloc HC2.out.size _).trans hb4); have H4 := hid (HI.out _ _ HA4.out); have HB4 := hid (below_more HB1.out HC4.out); clear hown4 hb4)
        | (at_builtin; refine wpList_append_strsW rfl (.const (.slice none 0 0)) (.tmp 18) rfl w1.heap.size _ [] rfl (World.ownsRow_nil _ _ _ _) _ L rfl H1.out.1 (by rw [List.length_nil]; omega) (Nat.le_refl _) ?_; intro v2 w2 hown2 hb2; rw [List.nil_append] at hown2; have HA2 := hid hown2; have HC2 := hid hb2; clear hown2 hb2)
        | (go_at_call 8; refine (alive_15 _).mono ?_; rintro e w6 ⟨rfl, hb6⟩; have HB6 := hid (below_more HB5.out hb6); clear hb6))
      go_ret
      exact ⟨rfl, HB6.out⟩
  · by_cases hf2 : Fits (L ++ [s]) b
    · have HF1 := hid hf1
      have HF2 := hid hf2
      clear hf1 hf2
      go_enter Try.func5, Try.ntmps5
      go_wp2_with (first
        | (have _h := HA4; go_at_call 7; refine (dict_fits H4.out HF2.out).mono ?_; rintro e w5 ⟨p5, rfl, hd5, hb5⟩; have HB5 := hid (below_more HB4.out hb5); clear hd5 hb5)
        | (go_at_call 7; refine (dict_no H.out HF1.out).mono ?_; rintro e w1 ⟨rfl, hw1⟩; have H1 := hid (show ListIn w1 v L by rw [hw1]; exact H.out); have HB1 := hid (show Below w.heap.size w w1 by rw [hw1]; exact Below.refl _ _); clear hw1)
        | (have _h := HA2; at_builtin; refine wpList_append_strsW rfl (.tmp 19) (.tmp 21) rfl w1.heap.size _ L rfl (HA2.out.alloc _) _ [s] rfl (reads_built _ #[.string s] _ 1 rfl) (by rw [List.length_singleton]; omega) (by have := HC2.out.size; simp; omega) ?_; intro v4 w4 hown4 hb4; have HA4 := hid (ownsRow_reads hown4); have HC4 := hid ((HC2.out.alloc HC2.out.size _).trans hb4); have H4 := hid (HI.out _ _ HA4.out); have HB4 := hid (below_more HB1.out HC4.out); clear hown4 hb4)
        | (at_builtin; refine wpList_append_strsW rfl (.const (.slice none 0 0)) (.tmp 18) rfl w1.heap.size _ [] rfl (World.ownsRow_nil _ _ _ _) _ L rfl H1.out.1 (by rw [List.length_nil]; omega) (Nat.le_refl _) ?_; intro v2 w2 hown2 hb2; rw [List.nil_append] at hown2; have HA2 := hid hown2; have HC2 := hid hb2; clear hown2 hb2)
        | (go_at_call 8; refine (alive_15 _).mono ?_; rintro e w6 ⟨rfl, hb6⟩; have HB6 := hid (below_more HB5.out hb6); clear hb6))
      go_ret
      exact ⟨rfl, HB6.out⟩
    · have HF1 := hid hf1
      have HF2 := hid hf2
      clear hf1 hf2
      go_enter Try.func5, Try.ntmps5
      go_wp2_with (first
        | (have _h := HA4; go_at_call 7; refine (dict_no H4.out HF2.out).mono ?_; rintro e w5 ⟨rfl, hw5⟩; have HB5 := hid (show Below w.heap.size w w5 by rw [hw5]; exact HB4.out); clear hw5)
        | (go_at_call 7; refine (dict_no H.out HF1.out).mono ?_; rintro e w1 ⟨rfl, hw1⟩; have H1 := hid (show ListIn w1 v L by rw [hw1]; exact H.out); have HB1 := hid (show Below w.heap.size w w1 by rw [hw1]; exact Below.refl _ _); clear hw1)
        | (have _h := HA2; at_builtin; refine wpList_append_strsW rfl (.tmp 19) (.tmp 21) rfl w1.heap.size _ L rfl (HA2.out.alloc _) _ [s] rfl (reads_built _ #[.string s] _ 1 rfl) (by rw [List.length_singleton]; omega) (by have := HC2.out.size; simp; omega) ?_; intro v4 w4 hown4 hb4; have HA4 := hid (ownsRow_reads hown4); have HC4 := hid ((HC2.out.alloc HC2.out.size _).trans hb4); have H4 := hid (HI.out _ _ HA4.out); have HB4 := hid (below_more HB1.out HC4.out); clear hown4 hb4)
        | (at_builtin; refine wpList_append_strsW rfl (.const (.slice none 0 0)) (.tmp 18) rfl w1.heap.size _ [] rfl (World.ownsRow_nil _ _ _ _) _ L rfl H1.out.1 (by rw [List.length_nil]; omega) (Nat.le_refl _) ?_; intro v2 w2 hown2 hb2; rw [List.nil_append] at hown2; have HA2 := hid hown2; have HC2 := hid hb2; clear hown2 hb2)
        | (go_at_call 8; refine (alive_15 _).mono ?_; rintro e w6 ⟨rfl, hb6⟩; have HB6 := hid (below_more HB5.out hb6); clear hb6))
      go_ret
      exact ⟨rfl, HB6.out⟩

set_option linter.unusedVariables false
theorem bestMore_own : ownKnob Try.prog.godebug = none := by kernel_rfl

theorem bestMore_laidOut : laidOutB Try.prog = true := by kernel_rfl

set_option maxRecDepth 100000 in
theorem bestMore_lifted (os : Os) (started : os.Started) (H : Type) (enc : TypeId × Value → H) :
    ReturnsInHanded {} Try.checked os 5 .any (Rows.bestMoreSpec.pre6 enc Try.prog Try.f5 Rows.bestMoreRow.domain false) (Rows.bestMoreSpec.post enc Try.prog Try.f5 false true false false) := by
  refine returnsInHanded_of_change_sized (C := Try.checked) bestMore_own started (by kernel_rfl) Try.func5
    (ChangeSpec.witness6 (enc := enc) (C := Try.checked) false ⟨#[], #[.slice none 0 0, .string ByteArray.empty, .string ByteArray.empty], []⟩ 8 (by kernel_rfl) (by kernel_rfl) (by kernel_rfl) (by kernel_rfl)) ?_
  intro W base args ds gs before hval0 hW hcnd hsz0 _
  have hsz : (DataW.weightsEach Try.prog (Try.f5.params.toList ++ Rows.bestMoreSpec.plain.varTypes Try.prog) (ds ++ gs)).all (· ≤ reachBytes) = true := hsz0
  have hval : ∀ (j : Nat) t v, Try.f5.params[j]? = some t → args[j]? = some v → Value.okWide Try.prog W .any base t v := hval0
  have hW' := hW
  obtain ⟨p, q, hA0, hV, rfl, hfz, hnd⟩ := hW
  have hA : DataW.TrodAll enc Try.prog W 0 (fun _ => true) true Try.f5.params.toList args.toList ds p := hA0
  rw [Try.params5] at hA hval hsz
  obtain ⟨v0, vs0, d0, ds0, p0, q0, hargs, rfl, rfl, h0, r0⟩ := trodAll_cons hA
  obtain ⟨v1, vs1, d1, ds1, p1, q1, rfl, rfl, rfl, h1, r1⟩ := trodAll_cons r0
  obtain ⟨v2, vs2, d2, ds2, p2, q2, rfl, rfl, rfl, h2, r2⟩ := trodAll_cons r1
  obtain ⟨rfl, rfl, rfl⟩ := trodAll_nil r2
  obtain rfl : args = #[v0, v1, v2] := by cases args; simp_all
  obtain ⟨rfl, rfl⟩ := trodVars_none hV
  obtain ⟨a0, len0, cap0, rfl⟩ := okWide_slice Try.underlying22 (hval 0 22 v0 rfl rfl)
  have k0 := h0
  have lt0 : ∀ x ∈ p0, x.block < W.heap.size := by obtain ⟨m, hm⟩ := k0; exact DataW.trod_lt m _ _ _ hm
  obtain ⟨z0, w0⟩ := h0.elim (fun _ hf => open_listW hf hsz 0 rfl rfl)
  obtain ⟨a1, rfl, rfl, rfl, w1⟩ := open_string Try.underlying9 (hval 1 9 v1 rfl rfl) h1
  obtain ⟨a2, rfl, rfl, rfl, w2⟩ := open_string Try.underlying9 (hval 2 9 v2 rfl rfl) h2
  clear hA0 hval0
  have s1 : a1.size ≤ 140737488351232 := by have h := sized_string hsz (j := 1) (t := 9) rfl rfl; rw [Array.length_toList] at h; exact h
  have s2 : a2.size ≤ 140737488351232 := by have h := sized_string hsz (j := 2) (t := 9) rfl rfl; rw [Array.length_toList] at h; exact h
  refine (more_walk _ z0 a1 a2 s1 W w0).mono fun e W' ⟨he, bel⟩ => ?_
  subst he
  exact ⟨_, rfl, _, _, _, [], _, [], hW', trodAll_mk1 (shut_bool Try.underlying4 _), (trodAll_cons_mk (Below.trod bestMore_laidOut (by kernel_rfl) (of_decide_eq_true (by kernel_rfl)) k0 bel lt0) (trodAll_cons_mk (shut_string Try.underlying9 w1) (trodAll_cons_mk (shut_string Try.underlying9 w2) trodAll_mk0))), rfl, bel.frame _, fun h => by cases h⟩

/-- THE STATEMENT. -/
theorem bestMore_holds : Rows.BestMoreSaid :=
  OpenClaim.holds_of_wide 5 Try.f5 rfl rfl rfl rfl rfl rfl rfl ⟨rfl, rfl, rfl, rfl, rfl⟩ rfl rfl rfl rfl rfl (by kernel_rfl) Try.func5 (by kernel_rfl)
    (of_decide_eq_true (by kernel_rfl)) (by unfold Func.isWrapper; first | (rw [if_pos (by decide +kernel)]; kernel_rfl) | (rw [if_neg (by decide +kernel)]; exact ⟨rfl, rfl⟩))
    (fun os started H enc _ => bestMore_lifted os started H enc)
#print axioms bestMore_holds
end Go.Proofs.Ytdplflcaanmmiaa
