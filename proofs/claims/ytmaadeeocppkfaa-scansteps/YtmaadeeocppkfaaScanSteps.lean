/-
  ScanSteps: where a byte leads from each node of the tree of every dictionary; of a node that is none, of nil: 0. For every list of texts, every number, every bytes.
-/
import Derived.Test.YtmaadeeocppkfaaAlive9
import Derived.Test.YtmaadeeocppkfaaRefLongest
import Derived.Test.YtmaadeeocppkfaaRefPhrases
import Derived.ShutString
import Derived.ChangeOld
import Derived.SizedLaws
namespace Go.Proofs.Ytmaadeeocppkfaa
open Go.ChangeShapes Go.WideShapes Go.ChangeAt Go.RowKit
open Go.ChangeMaps (open_string shut_string)

theorem reads_text {w : World} {v : Value} {A : List (List Nat)} (h : Reads w v (strs (asTexts A))) (j : Nat) (hj : j < A.length) : ∃ gb o c, v = .slice (some ⟨gb, o, none⟩) A.length c ∧ w.cell? ⟨gb, o + j, none⟩ = some (.string (bytesOf (txt A j))) := by
  obtain ⟨a, c, e, h0 | ⟨gb, o, rfl, hgb, hcell⟩⟩ := h
  · rw [strs_length, asTexts_length] at h0; omega
  · rw [strs_length, asTexts_length] at e hcell
    refine ⟨gb, o, c, e, ?_⟩
    rw [hcell j hj, strs_at _ j (by rw [asTexts_length]; exact hj), txt_at hj]
    simp [asTexts]

theorem slice_byte (b : ByteArray) (i : Nat) (h : i < b.size) (W : World) : (Instr.slice 9 (.string b) (some (.int .i64 (i : Int))) (some (.int .i64 ((i : Int) + 1))) none).run Try.prog W = .ok (.string (bytesOf [(b[i]'h).toNat])) W := by
  rw [run_slice_string (P := Try.prog) W 9 b .i64 .i64 (i : Int) ((i : Int) + 1) Try.underlying9 (by omega) (by omega) (by omega)]
  congr 2
  rw [← bytesOf_nums (b.extract _ _), nums_extract]
  congr 1
  rw [show ((i : Int)).toNat = i by omega, show ((i : Int) + 1).toNat - i = 1 by omega, drop_nums b i h]
  rfl

theorem add_texts (s t : ByteArray) (h : s.size + t.size ≤ 1000000) (W : World) : (Op.stringOp .add s t).run Try.prog W = .ok (.string (bytesOf (nums s ++ nums t))) W := by
  rw [run_string_add_sum W _ _ (by omega), ← bytesOf_append, bytesOf_nums, bytesOf_nums]

set_option maxRecDepth 20000 in
set_option maxHeartbeats 4000000 in
theorem steps_walk (v : Value) (L : List ByteArray) (a1 : Int) (b : ByteArray) (w : World) (h : ListIn w v L) :
    Calls Try.prog 3 #[v, .int .i64 a1, .string b] w fun e w' => e = .returned (.bool true) ∧ Below w.heap.size w w' := by
  have H := hid h
  by_cases hf : FewL L
  · have hd1 : fewB L = true := decide_eq_true hf
    have hsz := hf.sizes
    have HSZ := hid hf.2
    by_cases hb40 : b.size ≤ 40
    · have hdb : decide ((40 : Int) < (b.size : Int)) = false := decide_eq_false (by omega)
      have hdb2 : decide (40 < b.size) = false := decide_eq_false (by omega)
      rcases fine_or_bad L with hL | ⟨cd, a0, hL⟩
      · have HF := hid hL
        have hl100 := hL.1
        obtain ⟨⟨a, ca, rfl, ha⟩, _, _⟩ := h
        rw [strs_length] at *
        clear ha hL hsz hf
        by_cases hin : 0 ≤ a1 ∧ a1 < ((nodesN (L.map nums)).length : Int)
        · obtain ⟨j0, rfl⟩ : ∃ j0 : Nat, a1 = (j0 : Int) := ⟨a1.toNat, by omega⟩
          obtain ⟨A, hA⟩ : ∃ A, A = nodesN (L.map nums) := ⟨_, rfl⟩
          obtain ⟨P, hP⟩ : ∃ P, P = L.map nums := ⟨_, rfl⟩
          obtain ⟨n, hn⟩ : ∃ n, n = A.length := ⟨_, rfl⟩
          have HAE := hid hA
          have HPE := hid hP
          have HNN := hid hn
          have hj0 : j0 < n := by rw [hn, hA]; omega
          have hd0 : decide ((j0 : Int) < 0) = false := decide_eq_false (by omega)
          have hd2 : decide ((n : Int) ≤ (j0 : Int)) = false := decide_eq_false (by omega)
          have hd3 : decide (n ≤ j0) = false := decide_eq_false (by omega)
          clear hin hA hP hn
          go_enter Try.func3, Try.ntmps3
          go_wp2_with (first
            | (go_at_call 8; refine (few_any H.out).mono ?_; rintro e w1 ⟨rfl, rfl⟩; rw [hd1])
            | (go_at_call 9; refine (alive_any _).mono ?_; rintro e w2 ⟨rfl, hb2⟩; have H2 := hid (H.out.below hb2); have HB2 := hid hb2; clear hb2)
            | (go_at_call 10; refine (phrases_fine H2.out.1 HF.out).mono ?_; rintro e w3 ⟨rfl, rfl⟩)
            | (go_at_call 11; refine (makeL_fine H2.out.1 HF.out).mono ?_; rintro e w4 ⟨l, t, rfl, hx4, hb4⟩; have HX := hid hx4; have hr4 := ready_of hx4 HF.out; have HR4 := hid hr4; have HL4 := hid (H2.out.1.below hb4); have HB4 := hid (below_more HB2.out hb4); clear hx4 hb4 hr4)
            | (go_at_call 12; refine (nodes_any HL4.out (by have := HSZ.out; omega) (by have := HSZ.out; omega)).mono ?_; rintro e w6 ⟨v6, rfl, ho6, hb6⟩; rw [← HAE.out] at ho6; have hr6 := ownsRow_reads ho6; obtain ⟨gb, o6, c6, rfl, hcel⟩ := reads_text hr6 j0 (by have := HNN.out; omega); rw [← HNN.out]; have hX6 := LinksAt.later (wd := wordOf (L.map nums)) HX.out hb6; rw [← HAE.out, ← HPE.out] at hX6; have HX6 := hid hX6; have hx' : (decide ((0 : Int) ≤ (j0 : Int) ∧ (j0 : Int) < (n : Int))) = true := decide_eq_true ⟨by omega, by omega⟩; have HO6 := hid hr6; have HB6 := hid (below_more HB4.out hb6); clear ho6 hb6 hX6 hr6))
          have hR : Ready A P := by rw [HAE.out, HPE.out]; exact HR4.out
          have hsh : ∀ x ∈ A, x.length ≤ 40 := fun x hx => by rw [HAE.out] at hx; exact node_short HF.out x hx
          have hby : AllBytes A := by rw [HAE.out]; exact allBytes_nodes L
          have hA0 : [] ∈ A := nodes_mem0 hR.nodes
          have hjA : j0 < A.length := by have := HNN.out; omega
          have HR := hid hR
          have HBY := hid hby
          have HA0 := hid hA0
          obtain ⟨x0, hx0⟩ : ∃ x0, x0 = txt A j0 := ⟨_, rfl⟩
          obtain ⟨s0, hs0⟩ : ∃ s0, s0 = bytesOf x0 := ⟨_, rfl⟩
          have hxl : x0.length ≤ 40 := by rw [hx0]; exact txt_short hsh j0
          have hxb : ∀ z ∈ x0, z < 256 := by rw [hx0]; exact hby _ (txt_mem hjA)
          have hst0 : j0 = A.idxOf (longT A x0) := by
            have hm : x0 ∈ A := by rw [hx0]; exact txt_mem hjA
            rw [longT_at A x0 hm, hx0]; exact (idxOf_once hR.nodes.once (by rw [txt_at hjA]; exact List.getElem?_eq_getElem hjA)).symm
          rw [← hx0, ← hs0]
          have HS0 := hid hs0
          have HXL := hid hxl
          have HXB := hid hxb
          have HST0 := hid hst0
          have hnA : A.length ≤ 1000000 := by
            obtain ⟨B, hT0⟩ := HX6.out.trie
            have := hT0.few
            omega
          have HNA := hid hnA
          have HO7 : Hid (Reads w6 (.slice (some ⟨gb, o6, none⟩) n c6) (strs (asTexts A))) := by show Reads _ _ _; rw [HNN.out]; exact HO6.out
          clear hR hsh hby hA0 hxl hxb hst0 hx0 hs0 hcel HX HR4 H H2 HL4 hx' hnA
          go_loopw [1, 11, 12] (fun vm vs vi wr => ∃ (m i q : Nat) (s : ByteArray), vm = .int .i64 m ∧ vs = .string s ∧ vi = .int .i64 i ∧ i ≤ b.size ∧ s.size ≤ 80 ∧ Hid (s = bytesOf (x0 ++ (nums b).take i)) ∧ Hid (m = A.idxOf (longT A (x0 ++ (nums b).take i))) ∧ wr = w6.drewN q) (fun _ _ vi _ => b.size - (intOf vi).toNat)
          case atStart => exact ⟨j0, 0, 0, s0, rfl, rfl, rfl, by omega, by rw [HS0.out, bytesOf_size]; have := HXL.out; omega, by show _ = _; rw [HS0.out]; simp, by show _ = _; rw [HST0.out]; simp, rfl⟩
          case round =>
            obtain ⟨m, i, q, s, rfl, rfl, rfl, hi, hs80, hs, hm, rfl⟩ := hrel
            by_cases hlt : i < b.size
            · have hsl := slice_byte b i hlt
              have hix := byte_index b i hlt
              have htk := take_nums b i hlt
              obtain ⟨c, hcc⟩ : ∃ c, c = (b[i]'hlt).toNat := ⟨_, rfl⟩
              have hc : c < 256 := by rw [hcc]; exact UInt8.toNat_lt _
              rw [← hcc] at hsl hix htk
              have hsx : nums s = x0 ++ (nums b).take i := by
                rw [hs.out]
                refine nums_bytesOf _ (fun z hz => ?_)
                rcases List.mem_append.1 hz with h | h
                · exact HXB.out z h
                · exact nums_byte b z (List.mem_of_mem_take h)
              have hcs : (bytesOf [c]).size = 1 := bytesOf_size [c]
              have hadd := add_texts s (bytesOf [c]) (by omega)
              rw [nums_bytesOf [c] (by intro z hz; simp at hz; omega), hsx, List.append_assoc, ← htk] at hadd
              have hXB : ∀ z ∈ x0 ++ (nums b).take (i + 1), z < 256 := fun z hz => by
                rcases List.mem_append.1 hz with h | h
                · exact HXB.out z h
                · exact nums_byte b z (List.mem_of_mem_take h)
              have hXL : (x0 ++ (nums b).take (i + 1)).length = x0.length + (i + 1) := by rw [List.length_append, List.length_take, nums_length]; omega
              have hjm : m < A.length := by rw [hm.out]; exact idx_lt (longT_mem A HA0.out _)
              have hst := step_in (HX6.out.later (drewN_below w6 q _)) HR.out.father m hjm c hc
              have hlong : longT A (txt A m ++ [c]) = longT A (x0 ++ (nums b).take (i + 1)) := by
                rw [hm.out, longT_byte A HA0.out HR.out.father, htk, List.append_assoc]
              rw [hlong] at hst
              obtain ⟨y, hy⟩ : ∃ y, y = x0 ++ (nums b).take (i + 1) := ⟨_, rfl⟩
              rw [← hy] at hadd hst hXL hXB
              obtain ⟨s2, hs2⟩ : ∃ s2, s2 = bytesOf y := ⟨_, rfl⟩
              have hss2 : s2.size = y.length := by rw [hs2, bytesOf_size]
              have hLo := fun k => longest_from (w := w6.drewN k) HBY.out HA0.out (HO7.out.below (drewN_below w6 k _)) HNA.out hs2 hXB (by have := HXL.out; omega) s2.size (by have := HXL.out; omega)
              rw [← hs2] at hadd
              rw [hss2, Nat.sub_self, List.drop_zero, ← hss2] at hLo
              obtain ⟨m2, hm2⟩ : ∃ m2, m2 = A.idxOf (longT A y) := ⟨_, rfl⟩
              rw [← hm2] at hLo hst
              have HST := hid hst
              have HLO := hid hLo
              have HY := hid hy
              have HM2 := hid hm2
              have HS2 := hid hs2
              have hs280 : s2.size ≤ 80 := by have := HXL.out; omega
              have hdlt : decide ((i : Int) < (b.size : Int)) = true := decide_eq_true (by omega)
              generalize bytesOf [c] = tc at *
              clear hst hLo hy hm2 hs2 hlong hjm hXL hXB hsx hcs htk hcc hss2 hs hm
              go_wp2_with (first
                | (go_at_call 13; refine (HST.out).mono ?_; rintro e w7 ⟨rfl, q7, rfl⟩)
                | (go_at_call 14; refine (HLO.out _).mono ?_; rintro e w8 ⟨rfl, rfl⟩))
              go_roundw
              case rel => exact ⟨m2, i + 1, _, s2, rfl, rfl, by go_num, by omega, hs280, by show _ = _; rw [← HY.out]; exact HS2.out, by show _ = _; rw [← HY.out]; exact HM2.out, rfl⟩
              case measure => simp [intOf]; omega
            · obtain rfl : i = b.size := by omega
              go_wp2
              go_ret
              exact ⟨rfl, below_draws HB6.out rfl⟩
        · have hor : a1 < 0 ∨ ((nodesN (L.map nums)).length : Int) ≤ a1 := by omega
          have HOR := hid hor
          obtain ⟨n, hn⟩ : ∃ n, n = (nodesN (L.map nums)).length := ⟨_, rfl⟩
          rw [← hn] at hor
          have HNN := hid hn
          clear hin hn
          rcases hor with hor | hor
          all_goals
            first
            | have hd0 : decide (a1 < 0) = true := decide_eq_true hor
            | (have hd0 : decide ((n : Int) ≤ a1) = true := decide_eq_true hor
               have hd01 : decide (a1 < 0) = false := decide_eq_false (by omega))
            go_enter Try.func3, Try.ntmps3
            go_wp2_with (first
              | (go_at_call 8; refine (few_any H.out).mono ?_; rintro e w1 ⟨rfl, rfl⟩; rw [hd1])
              | (go_at_call 9; refine (alive_any _).mono ?_; rintro e w2 ⟨rfl, hb2⟩; have H2 := hid (H.out.below hb2); have HB2 := hid hb2; clear hb2)
              | (go_at_call 10; refine (phrases_fine H2.out.1 HF.out).mono ?_; rintro e w3 ⟨rfl, rfl⟩)
              | (go_at_call 11; refine (makeL_fine H2.out.1 HF.out).mono ?_; rintro e w4 ⟨l, t, rfl, hx4, hb4⟩; have HX := hid hx4; have HL4 := hid (H2.out.1.below hb4); have HB4 := hid (below_more HB2.out hb4); clear hx4 hb4)
              | (go_at_call 12; refine (nodes_any HL4.out (by have := HSZ.out; omega) (by have := HSZ.out; omega)).mono ?_; rintro e w6 ⟨v6, rfl, ho6, hb6⟩; obtain ⟨a6, c6, rfl⟩ := ownsRow_slice ho6; rw [← HNN.out]; have hX6 := LinksAt.later (wd := wordOf (L.map nums)) HX.out hb6; have HX6 := hid hX6; have HB6 := hid (below_more HB4.out hb6); clear ho6 hb6 hX6)
              | (have _h := laterS; go_at_call 13; refine (step_none _ _ _).mono ?_; rintro e w8 ⟨rfl, q8, hq8⟩; have HB8 := hid (below_draws HB7.out hq8); clear hq8)
              | (go_at_call 13; refine (step_out HX6.out a1 HOR.out _).mono ?_; rintro e w7 ⟨rfl, q7, hq7⟩; have laterS : True := trivial; have HB7 := hid (below_draws HB6.out hq7); clear hq7))
            go_ret
            exact ⟨rfl, HB8.out⟩
      · go_enter Try.func3, Try.ntmps3
        have hc0 : ¬ cd = 0 := bad_code hL
        go_wp2_with (first
          | (go_at_call 8; refine (few_any H.out).mono ?_; rintro e w1 ⟨rfl, rfl⟩; rw [hd1])
          | (go_at_call 9; refine (alive_any _).mono ?_; rintro e w2 ⟨rfl, hb2⟩; have H2 := hid (H.out.below hb2))
          | (go_at_call 10; refine (phrases_bad H2.out.1 hsz.1 (fun s hs => by have := hsz.2 s hs; omega) hL).mono ?_; rintro e w3 ⟨rfl, rfl⟩))
        go_ret
        exact ⟨rfl, hb2⟩
    · have hdb : decide ((40 : Int) < (b.size : Int)) = true := decide_eq_true (by omega)
      have hdb2 : decide (40 < b.size) = true := decide_eq_true (by omega)
      go_enter Try.func3, Try.ntmps3
      go_wp2_with (first
        | (go_at_call 8; refine (few_any H.out).mono ?_; rintro e w1 ⟨rfl, rfl⟩; rw [hd1])
        | (go_at_call 9; refine (alive_any _).mono ?_; rintro e w2 ⟨rfl, hb2⟩))
      go_ret
      exact ⟨rfl, hb2⟩
  · have hd1 : fewB L = false := decide_eq_false hf
    go_enter Try.func3, Try.ntmps3
    go_wp2_with (first
      | (go_at_call 8; refine (few_any H.out).mono ?_; rintro e w1 ⟨rfl, rfl⟩; rw [hd1])
      | (go_at_call 9; refine (alive_any _).mono ?_; rintro e w2 ⟨rfl, hb2⟩))
    go_ret
    exact ⟨rfl, hb2⟩

set_option linter.unusedVariables false
theorem scanSteps_own : ownKnob Try.prog.godebug = none := by kernel_rfl

theorem scanSteps_laidOut : laidOutB Try.prog = true := by kernel_rfl

set_option maxRecDepth 100000 in
theorem scanSteps_lifted (os : Os) (started : os.Started) (H : Type) (enc : TypeId × Value → H) :
    ReturnsInHanded {} Try.checked os 3 .any (Rows.scanStepsSpec.pre6 enc Try.prog Try.f3 Rows.scanStepsRow.domain false) (Rows.scanStepsSpec.post enc Try.prog Try.f3 false true false false) := by
  refine returnsInHanded_of_change_sized (C := Try.checked) scanSteps_own started (by kernel_rfl) Try.func3
    (ChangeSpec.witness6 (enc := enc) (C := Try.checked) false ⟨#[], #[.slice none 0 0, .int .i64 0, .string ByteArray.empty], []⟩ 8 (by kernel_rfl) (by kernel_rfl) (by kernel_rfl) (by kernel_rfl)) ?_
  intro W base args ds gs before hval0 hW hcnd hsz0 _
  have hsz : (DataW.weightsEach Try.prog (Try.f3.params.toList ++ Rows.scanStepsSpec.plain.varTypes Try.prog) (ds ++ gs)).all (· ≤ reachBytes) = true := hsz0
  have hval : ∀ (j : Nat) t v, Try.f3.params[j]? = some t → args[j]? = some v → Value.okWide Try.prog W .any base t v := hval0
  have hW' := hW
  obtain ⟨p, q, hA0, hV, rfl, hfz, hnd⟩ := hW
  have hA : DataW.TrodAll enc Try.prog W 0 (fun _ => true) true Try.f3.params.toList args.toList ds p := hA0
  rw [Try.params3] at hA hval hsz
  obtain ⟨v0, vs0, d0, ds0, p0, q0, hargs, rfl, rfl, h0, r0⟩ := trodAll_cons hA
  obtain ⟨v1, vs1, d1, ds1, p1, q1, rfl, rfl, rfl, h1, r1⟩ := trodAll_cons r0
  obtain ⟨v2, vs2, d2, ds2, p2, q2, rfl, rfl, rfl, h2, r2⟩ := trodAll_cons r1
  obtain ⟨rfl, rfl, rfl⟩ := trodAll_nil r2
  obtain rfl : args = #[v0, v1, v2] := by cases args; simp_all
  obtain ⟨rfl, rfl⟩ := trodVars_none hV
  obtain ⟨a0, len0, cap0, rfl⟩ := okWide_slice Try.underlying22 (hval 0 22 v0 rfl rfl)
  have k0 := h0
  have lt0 : ∀ x ∈ p0, x.block < W.heap.size := by obtain ⟨m, hm⟩ := k0; exact DataW.trod_lt m _ _ _ hm
  obtain ⟨z0, w0⟩ := h0.elim (fun _ hf => open_list hf hsz 0 rfl rfl)
  obtain ⟨a1, rfl, rfl, rfl, w1⟩ := open_int Try.underlying3 (hval 1 3 v1 rfl rfl) h1
  obtain ⟨a2, rfl, rfl, rfl, w2⟩ := open_string Try.underlying9 (hval 2 9 v2 rfl rfl) h2
  clear hA0 hval0
  have s2 : a2.size ≤ 140737488351232 := by have h := sized_string hsz (j := 2) (t := 9) rfl rfl; rw [Array.length_toList] at h; exact h
  refine (steps_walk _ z0 a1 a2 W w0).mono fun e W' ⟨he, bel⟩ => ?_
  subst he
  exact ⟨_, rfl, _, _, _, [], _, [], hW', trodAll_mk1 (shut_bool Try.underlying4 _), (trodAll_cons_mk (Below.trod scanSteps_laidOut (by kernel_rfl) (of_decide_eq_true (by kernel_rfl)) k0 bel lt0) (trodAll_cons_mk (shut_int Try.underlying3 w1) (trodAll_cons_mk (shut_string Try.underlying9 w2) trodAll_mk0))), rfl, bel.frame _, fun h => by cases h⟩

/-- THE STATEMENT. -/
theorem scanSteps_holds : Rows.ScanStepsSaid :=
  OpenClaim.holds_of_wide 3 Try.f3 rfl rfl rfl rfl rfl rfl rfl ⟨rfl, rfl, rfl, rfl, rfl⟩ rfl rfl rfl rfl rfl (by kernel_rfl) Try.func3 (by kernel_rfl)
    (of_decide_eq_true (by kernel_rfl)) (by unfold Func.isWrapper; first | (rw [if_pos (by decide +kernel)]; kernel_rfl) | (rw [if_neg (by decide +kernel)]; exact ⟨rfl, rfl⟩))
    (fun os started H enc _ => scanSteps_lifted os started H enc)
#print axioms scanSteps_holds
end Go.Proofs.Ytmaadeeocppkfaa
