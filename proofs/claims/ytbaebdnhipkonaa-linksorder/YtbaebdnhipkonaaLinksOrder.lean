/-
  LinksOrder: in the order of the links of every dictionary each node stands once, behind where one goes on from it. For every list of texts.
-/
import Derived.Test.YtbaebdnhipkonaaAlive8
import Derived.Test.YtbaebdnhipkonaaEnds
import Derived.Test.YtbaebdnhipkonaaRefPhrases
import Derived.Test.YtbaebdnhipkonaaNodeCalls
import Derived.Test.YtbaebdnhipkonaaIntSet
import Derived.ChangeOld
import Derived.SizedLaws
namespace Go.Proofs.Ytbaebdnhipkonaa
open Go.ChangeShapes Go.WideShapes Go.ChangeAt Go.RowKit

/-- What has a lesser rank stands ahead. -/
theorem ahead_of (r : Nat → Nat) (O : List Nat) (hO : O.Pairwise (fun a b => r a < r b)) (j : Nat) (hj : j < O.length) (f : Nat) (hf : f ∈ O) (hr : r f < r (O[j]'hj)) : f ∈ O.take j := by
  obtain ⟨i, hi, rfl⟩ := List.getElem_of_mem hf
  rw [List.pairwise_iff_getElem] at hO
  rcases Nat.lt_trichotomy i j with h | h | h
  · rw [List.mem_take_iff_getElem]
    exact ⟨i, by omega, rfl⟩
  · subst h; omega
  · have := hO j i hj hi h; omega

theorem not_ahead (O : List Nat) (hO : O.Nodup) (j : Nat) (hj : j < O.length) : O[j]'hj ∉ O.take j := by
  intro h
  rw [List.mem_take_iff_getElem] at h
  obtain ⟨i, hi, e⟩ := h
  unfold List.Nodup at hO
  rw [List.pairwise_iff_getElem] at hO
  exact hO i j (by omega) hj (by omega) e

theorem kept_links {w0 w w' : World} {l t b : Nat} {A P : List (List Nat)} {wd : List Nat → Int} (h : LinksAt w0 l t A P wd) (hb : Below w0.heap.size w0 w) (hk : Kept (· = b) w w') (hB : w0.heap.size ≤ b) : LinksAt w' l t A P wd :=
  h.later (below_then hb hk hB)

/-- One number of a new list. -/
theorem owned_int {w : World} {B n c : Nat} {a : Option Addr} {M : List Nat} (h : w.ownsRow B 3 1 (.slice a n c) n (numsI M)) (hn : n = M.length) (k : Nat) (hk : k < n) : ∃ g o, a = some ⟨g, o, none⟩ ∧ B ≤ g ∧ g < w.heap.size ∧ w.cell? ⟨g, o + k, none⟩ = some (.int .i64 ((M[k]'(by omega) : Nat) : Int)) := by
  obtain ⟨a2, c2, e, h2⟩ := ownsRow_reads h
  rw [numsI_length] at e h2
  injection e with e1 e2 e3
  rcases h2 with h0 | ⟨g, o, ea, hg, hc⟩
  · omega
  · rw [ea] at e1
    subst e1
    refine ⟨g, o, rfl, (h.lt g rfl).1, hg, ?_⟩
    rw [hc k (by omega), numsI, List.getElem?_map, List.getElem?_eq_getElem (by omega)]
    rfl

set_option maxRecDepth 20000 in
set_option maxHeartbeats 4000000 in
theorem order_walk (v : Value) (L : List ByteArray) (w : World) (h : ListIn w v L) :
    Calls Try.prog 5 #[v] w fun e w' => e = .returned (.bool true) ∧ Below w.heap.size w w' := by
  have hmm := @run_makeMap Try.prog
  have H := hid h
  by_cases hf : FewL L
  · have hd1 : fewB L = true := decide_eq_true hf
    have hsz := hf.sizes
    rcases fine_or_bad L with hL | ⟨cd, a0, hL⟩
    · have HF := hid hL
      clear h hL hsz hf
      go_enter Try.func5, Try.ntmps5
      go_wp2_with (first
        | (go_at_call 7; refine (few_any H.out).mono ?_; rintro e w1 ⟨rfl, rfl⟩; rw [hd1])
        | (go_at_call 8; refine (alive_any _).mono ?_; rintro e w2 ⟨rfl, hb2⟩; have H2 := hid (H.out.below hb2); have HB2 := hid hb2; clear hb2)
        | (go_at_call 9; refine (phrases_fine H2.out.1 HF.out).mono ?_; rintro e w3 ⟨rfl, rfl⟩)
        | (go_at_call 10; refine (makeL_fine H2.out.1 HF.out).mono ?_; rintro e w4 ⟨l, t, rfl, hx4, hb4⟩; have HX := hid hx4; have HB4 := hid (below_more HB2.out hb4); clear hx4 hb4)
        | (go_at_call 19; refine (trieL_in HX.out).mono ?_; rintro e w5 ⟨rfl, rfl⟩)
        | (go_at_call 17; refine (orderL_in (most := 40) (HX.out.later ((Below.refl _ _).alloc (Nat.le_refl _) _)) (node_short HF.out)).mono ?_; rintro e w6 ⟨v6, rfl, ho6, hb6⟩; obtain ⟨a6, c6, rfl⟩ := ownsRow_slice ho6; have HO6 := hid ho6; have HB6 := hid hb6; clear ho6 hb6))
      obtain ⟨A, hA⟩ : ∃ A, A = nodesN (L.map nums) := ⟨_, rfl⟩
      obtain ⟨P, hP⟩ : ∃ P, P = L.map nums := ⟨_, rfl⟩
      have HXA : Hid (LinksAt w5 l t A P (wordOf P)) := by rw [hA, hP]; exact HX.out
      have HSH : Hid (∀ x ∈ A, x.length ≤ 40) := fun x hx => by rw [hA] at hx; exact node_short HF.out x hx
      rw [← hA] at HO6 ⊢
      obtain ⟨B0, hT0⟩ := HXA.out.trie
      have hfew := hT0.few
      have HN := hid hT0.nodes
      obtain ⟨O, hO⟩ : ∃ O, O = orderN A 40 := ⟨_, rfl⟩
      rw [← hO] at HO6 ⊢
      have HRI : Hid (O.Pairwise (fun a b => rk (depN A) a < rk (depN A) b)) := by rw [hO]; exact orderN_rising A 40 hfew
      have HND : Hid O.Nodup := by rw [hO]; exact orderN_once A 40
      have HME : Hid (∀ i, i ∈ O ↔ i < A.length) := fun i => by rw [hO]; exact orderN_mem A 40 HSH.out i
      have hOl : O.length = A.length := by rw [hO]; exact orderN_length A 40 HSH.out
      generalize hn : O.length = n at HO6 hOl ⊢
      obtain ⟨b, hb0⟩ : ∃ b, b = w5.heap.size := ⟨_, rfl⟩
      rw [← hb0]
      have HNE := hid hn
      have HB5 : Hid (Below w5.heap.size w5 w6) := by
        exact below_more ((Below.refl w5.heap.size w5).alloc (Nat.le_refl _) (Obj.map #[] 0)) HB6.out
      have HS6 : Hid (SetAt w6 b []) := by
        have h1 := SetAt.new w5
        rw [hb0]
        exact h1.same (HB6.out.block _ h1.lt)
      have HBB : Hid (w5.heap.size ≤ b ∧ b < (w5.alloc (Obj.map #[] 0)).heap.size) := ⟨by omega, by rw [hb0, Go.Deep.nblk_alloc]; omega⟩
      have hnf : n ≤ 1000000 := by omega
      have HNA := hid hOl
      clear HX H2 H HF HB2 hA hP hT0 hO hn hb0 hOl
      go_loopw [37] (fun vj wr => ∃ j : Nat, vj = .int .i64 j ∧ j ≤ n ∧ Hid (SetAt wr b (O.take j)) ∧ Hid (Kept (· = b) w6 wr)) (fun vj _ => n - (intOf vj).toNat)
      case atStart => exact ⟨0, rfl, by omega, by rw [List.take_zero]; exact HS6.out, Kept.refl _ _⟩
      case round =>
        obtain ⟨j, rfl, hj, hS, hk⟩ := hrel
        have hXr := hid (kept_links HXA.out HB5.out hk.out HBB.out.1)
        by_cases hlt : j < n
        · have hjO : j < O.length := by rw [HNE.out]; exact hlt
          obtain ⟨g, o, rfl, hg1, hg2, hcell⟩ := owned_int HO6.out HNE.out.symm j hlt
          have hgb : g ≠ b := by have := HBB.out.2; omega
          have hcr : wr.cell? ⟨g, o + j, none⟩ = some (.int .i64 ((O[j]'hjO : Nat) : Int)) := by
            rw [← hcell]
            exact World.cell?_of_block (a := ⟨g, o + j, none⟩) (hk.out.block g hg2 hgb)
          have hx' : (decide ((0 : Int) ≤ (j : Int) ∧ (j : Int) < (n : Int))) = true := decide_eq_true ⟨by omega, by omega⟩
          obtain ⟨m, hm⟩ : ∃ m, m = O[j]'hjO := ⟨_, rfl⟩
          rw [← hm] at hcr
          have hmA : m < A.length := by rw [hm]; exact (HME.out _).1 (List.getElem_mem hjO)
          have hmn : m ∉ O.take j := by rw [hm]; exact not_ahead O HND.out j hjO
          have hl1 := hS.out.look m (by omega)
          rw [decide_eq_false hmn] at hl1
          have htk : Hid (O.take (j + 1) = O.take j ++ [m]) := by show _ = _; rw [List.take_succ_eq_append_getElem hjO, hm]
          have hlen : (O.take j).length < 1000000 := by rw [List.length_take]; omega
          by_cases h0 : m = 0
          · subst h0
            obtain ⟨w8, hrun, hS8, hk8⟩ := hS.out.add 0 (by omega) hmn hlen
            have HS8 := hid hS8
            have HK8 := hid (hk.out.trans hk8)
            have hl1b : (Instr.lookup 51 (.map (some b)) (.int .i64 0) false).run Try.prog wr = .ok (.bool false) wr := hl1
            have hrunb : (Instr.mapUpdate 51 (.map (some b)) (.int .i64 0) (.bool true)).run Try.prog wr = .ok () w8 := hrun
            clear hS8 hk8 hm hl1 hrun
            go_wp2
            go_roundw
            case rel => exact ⟨j + 1, by go_num, by omega, by rw [htk.out]; exact HS8.out, HK8.out⟩
            case measure => simp [intOf]; omega
          · have hfl := fail_in hXr.out m hmA
            obtain ⟨f, hf0⟩ : ∃ f, f = RF A m := ⟨_, rfl⟩
            have hfA : f < A.length := by rw [hf0]; exact RF_lt HN.out m
            have hft : f ∈ O.take j := by
              refine ahead_of (rk (depN A)) O HRI.out j hjO f ((HME.out f).2 hfA) ?_
              rw [← hm]
              have h2 : (txt A f).length < (txt A m).length := by
                rw [hf0, RF_txt HN.out]
                exact failT_short A _ (fun e => h0 (txt_nil HN.out hmA e))
              unfold rk depN
              unfold txt at h2
              omega
            rw [← hf0] at hfl
            have HFL := hid hfl
            have hne : ¬ ((m : Int) = 0) := by omega
            clear hm hf0 hfl
            go_wp2_with (go_at_call 14; refine (HFL.out).mono ?_; rintro e w7 ⟨rfl, q7, hq7⟩; have hl2 := (hS.out.drewN q7).look f (by omega); obtain ⟨w8, hrun, hS8, hk8⟩ := (hS.out.drewN q7).add m (by omega) hmn hlen; rw [← hq7, decide_eq_true hft] at hl2; rw [← hq7] at hrun; have HS8 := hid hS8; have HK8 := hid (hk.out.trans ((Kept.drewN _ _ q7).trans hk8)); clear hS8 hk8 hq7)
            go_roundw
            case rel => exact ⟨j + 1, by go_num, by omega, by rw [htk.out]; exact HS8.out, HK8.out⟩
            case measure => simp [intOf]; omega
        · obtain rfl : j = n := by omega
          have HSn : Hid (SetAt wr b O) := by have := hS.out; rw [List.take_of_length_le (by rw [HNE.out]; exact Nat.le_refl _)] at this; exact this
          have hle := fun ty => HSn.out.len ty
          rw [HNE.out] at hle
          obtain ⟨B, hT1⟩ := hXr.out.trie
          have HLn := hid (len_trie hT1)
          rw [← HNA.out] at HLn
          clear hT1
          go_wp2_with (first
            | (go_at_call 19; refine (trieL_in hXr.out).mono ?_; rintro e w7 ⟨rfl, rfl⟩)
            | (go_at_call 21; refine (HLn.out).mono ?_; rintro e w8 ⟨rfl, rfl⟩))
          go_ret
          exact ⟨rfl, below_more HB4.out (below_then HB5.out hk.out HBB.out.1)⟩
    · go_enter Try.func5, Try.ntmps5
      have hc0 : ¬ cd = 0 := bad_code hL
      go_wp2_with (first
        | (go_at_call 7; refine (few_any H.out).mono ?_; rintro e w1 ⟨rfl, rfl⟩; rw [hd1])
        | (go_at_call 8; refine (alive_any _).mono ?_; rintro e w2 ⟨rfl, hb2⟩; have H2 := hid (H.out.below hb2))
        | (go_at_call 9; refine (phrases_bad H2.out.1 hsz.1 (fun s hs => by have := hsz.2 s hs; omega) hL).mono ?_; rintro e w3 ⟨rfl, rfl⟩))
      go_ret
      exact ⟨rfl, hb2⟩
  · have hd1 : fewB L = false := decide_eq_false hf
    go_enter Try.func5, Try.ntmps5
    go_wp2_with (first
      | (go_at_call 7; refine (few_any H.out).mono ?_; rintro e w1 ⟨rfl, rfl⟩; rw [hd1])
      | (go_at_call 8; refine (alive_any _).mono ?_; rintro e w2 ⟨rfl, hb2⟩))
    go_ret
    exact ⟨rfl, hb2⟩

set_option linter.unusedVariables false
theorem linksOrder_own : ownKnob Try.prog.godebug = none := by kernel_rfl

theorem linksOrder_laidOut : laidOutB Try.prog = true := by kernel_rfl

set_option maxRecDepth 100000 in
theorem linksOrder_lifted (os : Os) (started : os.Started) (H : Type) (enc : TypeId × Value → H) :
    ReturnsInHanded {} Try.checked os 5 .any (Rows.linksOrderSpec.pre6 enc Try.prog Try.f5 Rows.linksOrderRow.domain false) (Rows.linksOrderSpec.post enc Try.prog Try.f5 false true false false) := by
  refine returnsInHanded_of_change_sized (C := Try.checked) linksOrder_own started (by kernel_rfl) Try.func5
    (ChangeSpec.witness6 (enc := enc) (C := Try.checked) false ⟨#[], #[.slice none 0 0], []⟩ 8 (by kernel_rfl) (by kernel_rfl) (by kernel_rfl) (by kernel_rfl)) ?_
  intro W base args ds gs before hval0 hW hcnd hsz0 _
  have hsz : (DataW.weightsEach Try.prog (Try.f5.params.toList ++ Rows.linksOrderSpec.plain.varTypes Try.prog) (ds ++ gs)).all (· ≤ reachBytes) = true := hsz0
  have hval : ∀ (j : Nat) t v, Try.f5.params[j]? = some t → args[j]? = some v → Value.okWide Try.prog W .any base t v := hval0
  have hW' := hW
  obtain ⟨p, q, hA0, hV, rfl, hfz, hnd⟩ := hW
  have hA : DataW.TrodAll enc Try.prog W 0 (fun _ => true) true Try.f5.params.toList args.toList ds p := hA0
  rw [Try.params5] at hA hval hsz
  obtain ⟨v0, vs0, d0, ds0, p0, q0, hargs, rfl, rfl, h0, r0⟩ := trodAll_cons hA
  obtain ⟨rfl, rfl, rfl⟩ := trodAll_nil r0
  obtain rfl : args = #[v0] := by cases args; simp_all
  obtain ⟨rfl, rfl⟩ := trodVars_none hV
  obtain ⟨a0, len0, cap0, rfl⟩ := okWide_slice Try.underlying22 (hval 0 22 v0 rfl rfl)
  have k0 := h0
  have lt0 : ∀ x ∈ p0, x.block < W.heap.size := by obtain ⟨m, hm⟩ := k0; exact DataW.trod_lt m _ _ _ hm
  obtain ⟨z0, w0⟩ := h0.elim (fun _ hf => open_list hf hsz 0 rfl rfl)
  clear hA0 hval0
  refine (order_walk _ z0 W w0).mono fun e W' ⟨he, bel⟩ => ?_
  subst he
  exact ⟨_, rfl, _, _, _, [], _, [], hW', trodAll_mk1 (shut_bool Try.underlying4 _), (trodAll_cons_mk (Below.trod linksOrder_laidOut (by kernel_rfl) (of_decide_eq_true (by kernel_rfl)) k0 bel lt0) trodAll_mk0), rfl, bel.frame _, fun h => by cases h⟩

/-- THE STATEMENT. -/
theorem linksOrder_holds : Rows.LinksOrderSaid :=
  OpenClaim.holds_of_wide 5 Try.f5 rfl rfl rfl rfl rfl rfl rfl ⟨rfl, rfl, rfl, rfl, rfl⟩ rfl rfl rfl rfl rfl (by kernel_rfl) Try.func5 (by kernel_rfl)
    (of_decide_eq_true (by kernel_rfl)) (by unfold Func.isWrapper; first | (rw [if_pos (by decide +kernel)]; kernel_rfl) | (rw [if_neg (by decide +kernel)]; exact ⟨rfl, rfl⟩))
    (fun os started H enc _ => linksOrder_lifted os started H enc)
#print axioms linksOrder_holds
end Go.Proofs.Ytbaebdnhipkonaa
