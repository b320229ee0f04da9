/-
  DictFirst: of phrases that may not be, the first one is told; those ahead of it may be. For every list of texts.
-/
import Derived.Test.YtbeahodgkdbidaaErrText
import Derived.ChangeOld
import Derived.SizedLaws
namespace Go.Proofs.Ytbeahodgkdbidaa
open Go.ChangeShapes Go.WideShapes Go.ChangeAt Go.RowKit

/-- A list of texts that came in, and its room. -/
def ListCap (W : World) (v : Value) (L : List ByteArray) : Prop := ListIn W v L ∧ ∀ a n c, v = .slice a n c → n ≤ c

theorem open_capped {H : Type} {enc : TypeId × Value → H} {W : World} {base fuel : Nat} {spare : Nat → Bool} {held : Bool} {a : Option Addr} {len cap : Nat} {x : DataW H × List MemPlace}
    (h : DataW.trod enc Try.prog W base spare held fuel 22 [.slice a len cap] = some x)
    {ts : List TypeId} {ds : List (DataW H)} (hsz : (DataW.weightsEach Try.prog ts ds).all (· ≤ reachBytes) = true) (j : Nat) (ht : ts[j]? = some 22) (hd : ds[j]? = some x.1) : ∃ L, ListCap W (.slice a len cap) L := by
  obtain ⟨L, hL⟩ := open_list h hsz j ht hd
  refine ⟨L, hL, fun a' n' c' e => ?_⟩
  simp only [Value.slice.injEq] at e
  obtain ⟨_, rfl, rfl⟩ := e
  rcases Go.Deep.open_strs Try.underlying22 Try.underlying9 Try.cellsStr h with ⟨hcs, _⟩ | ⟨ad, l, c, m, zs, hcs, _, hl, _⟩
  · simp only [List.cons.injEq, Value.slice.injEq, and_true] at hcs
    obtain ⟨_, rfl, rfl⟩ := hcs
    exact Nat.le_refl _
  · simp only [List.cons.injEq, Value.slice.injEq, and_true] at hcs
    obtain ⟨_, rfl, rfl⟩ := hcs
    exact hl

theorem reads_take {W : World} {b off n cap : Nat} {L : List ByteArray} (h : Reads W (.slice (some ⟨b, off, none⟩) n cap) (strs L)) (j : Nat) (hj : j ≤ L.length) : Reads W (.slice (some ⟨b, off, none⟩) j cap) (strs (L.take j)) := by
  obtain ⟨a, c, e, hr⟩ := h
  simp only [Value.slice.injEq] at e
  obtain ⟨rfl, rfl, rfl⟩ := e
  have hlt : (strs (L.take j)).length = j := by rw [strs_length, List.length_take]; omega
  refine ⟨_, cap, by rw [hlt], ?_⟩
  rcases hr with h0 | ⟨b', off', e, hb, hc⟩
  · rw [strs_length] at h0
    exact .inl (by rw [hlt]; omega)
  · simp only [Option.some.injEq, Addr.mk.injEq, and_true] at e
    obtain ⟨rfl, rfl⟩ := e
    refine .inr ⟨b, off, rfl, hb, fun i hi => ?_⟩
    rw [hlt] at hi
    rw [hc i (by rw [strs_length]; omega)]
    rw [strs_at L i (by omega), strs_at (L.take j) i (by rw [List.length_take]; omega), List.getElem_take]

theorem Bad.ahead {L : List ByteArray} {c a : Nat} (h : Bad L c a) (hl : L.length ≤ 100) : a < L.length ∧ Fine (L.take a) ∧ Bad (L.take (a + 1)) c a := by
  rcases h with ⟨h1, _⟩ | ⟨_, ha, h2, h3, h4⟩
  · omega
  · refine ⟨ha, ⟨by rw [List.length_take]; omega, fun j hj => ?_⟩, .inr ⟨by rw [List.length_take]; omega, by rw [List.length_take]; omega, fun j hj => ?_, ?_, h4⟩⟩
    · rw [List.length_take] at hj
      rw [List.take_take, Nat.min_eq_left (by omega), List.getElem_take]
      exact h2 j (by omega)
    · rw [List.take_take, Nat.min_eq_left (by omega), List.getElem_take]
      exact h2 j hj
    · rw [List.take_take, Nat.min_eq_left (by omega), List.getElem_take]
      exact h3

set_option maxRecDepth 20000 in
set_option maxHeartbeats 4000000 in
theorem first_walk (v : Value) (L : List ByteArray) (w : World) (h0 : ListCap w v L) :
    Calls Try.prog 5 #[v] w fun e w' => e = .returned (.bool true) ∧ Below w.heap.size w w' := by
  have h := h0.1
  have hcap := h0.2
  clear h0
  have H := hid h
  by_cases hf : FewL L
  · have hd1 : fewB L = true := decide_eq_true hf
    have hsz := hf.sizes
    obtain ⟨⟨a, ca, rfl, ha⟩, _, _⟩ := h
    rw [strs_length] at *
    have hlc := hcap _ _ _ rfl
    clear hcap
    have hl110 := hf.1
    by_cases hl2 : L.length ≤ 100
    · rcases fine_or_bad L with hL | ⟨c, a0, hL⟩
      · clear ha
        go_enter Try.func5, Try.ntmps5
        go_wp2_with (first
          | (go_at_call 9; refine (few_any H.out).mono ?_; rintro e w1 ⟨rfl, rfl⟩; rw [hd1])
          | (go_at_call 10; refine (alive_any _).mono ?_; rintro e w2 ⟨rfl, hb2⟩; have H2 := hid (H.out.below hb2))
          | (go_at_call 12; refine (new_fine H2.out.1 hL).mono ?_; rintro e w3 ⟨p, rfl, hd, hb3⟩; have hw3 := hid (below_more hb2 hb3); have H3 := hid (H2.out.below hb3))
          | (go_at_call 30; refine (make_fine H3.out.1 hL).mono ?_; rintro e w4 ⟨q, rfl, he, hb4⟩; have hw4 := hid (below_more hw3.out hb4))
          | (go_at_call 20; refine (len_dict he).mono ?_; rintro e w5 ⟨rfl, rfl⟩))
        go_ret
        exact ⟨rfl, hw4.out⟩
      · have hcode := hL.code
        obtain ⟨hal, hfa, hba⟩ := hL.ahead hl2
        have HBad := hid hL
        have HFa := hid hfa
        have HBa := hid hba
        clear hL hfa hba
        rcases ha with h0 | ⟨gb, o, rfl, hgb, hcell⟩
        · omega
        clear hcell
        obtain ⟨nm, hnm, hname⟩ : ∃ nm : ByteArray, nm.size = 4 ∧ ∀ w : World, Calls Try.prog 99 #[.int .i64 c] w fun e w' => e = .returned (.string nm) ∧ w' = w := by
          rcases hcode.1 with rfl | rfl
          · exact ⟨_, rfl, name5⟩
          · exact ⟨_, rfl, name10⟩
        have herr := hid (error_small c a0 nm hnm hname (by omega))
        have hc1 : ((c : Int) == 0) = false := beq_false_of_ne (by omega)
        have hsz0 := hid hsz
        have hsz1 : Hid ((L.take (a0 + 1)).length ≤ 1000000 ∧ ∀ s ∈ L.take (a0 + 1), s.size ≤ 140737488355328) := ⟨by rw [List.length_take]; omega, fun s hs => by have := hsz.2 s (List.mem_of_mem_take hs); omega⟩
        obtain ⟨P, hP⟩ : ∃ P, P = a0 + 1 := ⟨_, rfl⟩
        rw [← hP] at hsz1 HBa
        have hai : (a0 : Int) + 1 = (P : Int) := by omega
        have hPL : P ≤ L.length := by omega
        have HPL := hid hPL
        have HAL := hid hal
        generalize hn : L.length = n at H hal hl110 hl2 hPL hlc
        have HN := hid hn
        clear hn hsz hname hf hcode hP
        generalize errT nm a0 = et at herr
        go_enter Try.func5, Try.ntmps5
        go_wp2_with (first
          | (go_at_call 9; refine (few_any H.out).mono ?_; rintro e w1 ⟨rfl, rfl⟩; rw [hd1])
          | (go_at_call 10; refine (alive_any _).mono ?_; rintro e w2 ⟨rfl, hb2⟩; have H2 := hid (H.out.below hb2))
          | (have _h := m2; go_at_call 12; refine (new_bad (reads_take H5.out.1 P HPL.out) hsz1.out.1 hsz1.out.2 HBa.out).mono ?_; rintro e w6 ⟨rfl, hb6⟩; have hw6 := hid (below_more hw5.out hb6))
          | (have _h := m1; go_at_call 12; refine (new_fine (reads_take H4.out.1 a0 (by have := HAL.out; omega)) HFa.out).mono ?_; rintro e w5 ⟨p, rfl, hd, hb5⟩; have hw5 := hid (below_more hw4.out hb5); have H5 := hid (H4.out.below hb5); have q5 := keeps hb5 _ _ q1; have m2 : True := trivial)
          | (go_at_call 12; refine (new_bad H2.out.1 hsz0.out.1 (fun s hs => by have := hsz0.out.2 s hs; omega) HBad.out).mono ?_; rintro e w3 ⟨rfl, hb3⟩; have hw3 := hid (below_more hb2 hb3); have H3 := hid (H2.out.below hb3); have m1 : True := trivial)
          | (go_at_call 31; refine (fault_of c a0 _).mono ?_; rintro e w4 ⟨rfl, hb4⟩; have q0 := (pair_at w4 c a0).1; have q1 := (pair_at w4 c a0).2; have hw4 := hid ((below_more hw3.out hb4).alloc (below_more hw3.out hb4).size (.cells #[.int .i64 c, .int .i64 a0] 64)); have H4 := hid ((H3.out.below hb4).below (w' := w4.alloc (.cells #[.int .i64 c, .int .i64 a0] 64)) ((Below.refl _ _).alloc (Nat.le_refl _) _)))
          | (have _h := m4; go_at_call 98; refine (herr.out _).mono ?_; rintro e w8 ⟨rfl, hb8⟩; have hw8 := hid (below_more hw7.out hb8))
          | (go_at_call 98; refine (herr.out _).mono ?_; rintro e w7 ⟨rfl, hb7⟩; have hw7 := hid (below_more hw6.out hb7); have m4 : True := trivial))
        go_ret
        exact ⟨rfl, hw8.out⟩
    · clear ha
      go_enter Try.func5, Try.ntmps5
      go_wp2_with (first
        | (go_at_call 9; refine (few_any H.out).mono ?_; rintro e w1 ⟨rfl, rfl⟩; rw [hd1])
        | (go_at_call 10; refine (alive_any _).mono ?_; rintro e w2 ⟨rfl, hb2⟩))
      go_ret
      exact ⟨rfl, hb2⟩
  · have hd1 : fewB L = false := decide_eq_false hf
    go_enter Try.func5, Try.ntmps5
    go_wp2_with (first
      | (go_at_call 9; refine (few_any H.out).mono ?_; rintro e w1 ⟨rfl, rfl⟩; rw [hd1])
      | (go_at_call 10; refine (alive_any _).mono ?_; rintro e w2 ⟨rfl, hb2⟩))
    go_ret
    exact ⟨rfl, hb2⟩

set_option linter.unusedVariables false
theorem dictFirst_own : ownKnob Try.prog.godebug = none := by kernel_rfl

theorem dictFirst_laidOut : laidOutB Try.prog = true := by kernel_rfl

set_option maxRecDepth 100000 in
theorem dictFirst_lifted (os : Os) (started : os.Started) (H : Type) (enc : TypeId × Value → H) :
    ReturnsInHanded {} Try.checked os 5 .any (Rows.dictFirstSpec.pre6 enc Try.prog Try.f5 Rows.dictFirstRow.domain false) (Rows.dictFirstSpec.post enc Try.prog Try.f5 false true false false) := by
  refine returnsInHanded_of_change_sized (C := Try.checked) dictFirst_own started (by kernel_rfl) Try.func5
    (ChangeSpec.witness6 (enc := enc) (C := Try.checked) false ⟨#[], #[.slice none 0 0], []⟩ 8 (by kernel_rfl) (by kernel_rfl) (by kernel_rfl) (by kernel_rfl)) ?_
  intro W base args ds gs before hval0 hW hcnd hsz0 _
  have hsz : (DataW.weightsEach Try.prog (Try.f5.params.toList ++ Rows.dictFirstSpec.plain.varTypes Try.prog) (ds ++ gs)).all (· ≤ reachBytes) = true := hsz0
  have hval : ∀ (j : Nat) t v, Try.f5.params[j]? = some t → args[j]? = some v → Value.okWide Try.prog W .any base t v := hval0
  have hW' := hW
  obtain ⟨p, q, hA0, hV, rfl, hfz, hnd⟩ := hW
  have hA : DataW.TrodAll enc Try.prog W 0 (fun _ => true) true Try.f5.params.toList args.toList ds p := hA0
  rw [Try.params5] at hA hval hsz
  obtain ⟨v0, vs0, d0, ds0, p0, q0, hargs, rfl, rfl, h0, r0⟩ := trodAll_cons hA
  obtain ⟨rfl, rfl, rfl⟩ := trodAll_nil r0
  obtain rfl : args = #[v0] := by cases args; simp_all
  obtain ⟨rfl, rfl⟩ := trodVars_none hV
  obtain ⟨a0, len0, cap0, rfl⟩ := okWide_slice Try.underlying22 (hval 0 22 v0 rfl rfl)
  have k0 := h0
  have lt0 : ∀ x ∈ p0, x.block < W.heap.size := by obtain ⟨m, hm⟩ := k0; exact DataW.trod_lt m _ _ _ hm
  obtain ⟨z0, w0⟩ := h0.elim (fun _ hf => open_capped hf hsz 0 rfl rfl)
  clear hA0 hval0
  refine (first_walk _ z0 W w0).mono fun e W' ⟨he, bel⟩ => ?_
  subst he
  exact ⟨_, rfl, _, _, _, [], _, [], hW', trodAll_mk1 (shut_bool Try.underlying4 _), (trodAll_cons_mk (Below.trod dictFirst_laidOut (by kernel_rfl) (of_decide_eq_true (by kernel_rfl)) k0 bel lt0) trodAll_mk0), rfl, bel.frame _, fun h => by cases h⟩

/-- THE STATEMENT. -/
theorem dictFirst_holds : Rows.DictFirstSaid :=
  OpenClaim.holds_of_wide 5 Try.f5 rfl rfl rfl rfl rfl rfl rfl ⟨rfl, rfl, rfl, rfl, rfl⟩ rfl rfl rfl rfl rfl (by kernel_rfl) Try.func5 (by kernel_rfl)
    (of_decide_eq_true (by kernel_rfl)) (by unfold Func.isWrapper; first | (rw [if_pos (by decide +kernel)]; kernel_rfl) | (rw [if_neg (by decide +kernel)]; exact ⟨rfl, rfl⟩))
    (fun os started H enc _ => dictFirst_lifted os started H enc)
#print axioms dictFirst_holds
end Go.Proofs.Ytbeahodgkdbidaa
