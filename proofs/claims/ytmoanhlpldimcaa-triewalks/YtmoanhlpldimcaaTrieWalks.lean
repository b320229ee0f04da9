/-
  TrieWalks: in the tree of every dictionary each phrase leads from the root to its own node, by its bytes, and each beginning of it lies on that way; so does any other text as far as it goes. For every list of texts and every text.
-/
import Derived.Test.YtmoanhlpldimcaaAlive7
import Derived.Test.YtmoanhlpldimcaaFindWord
import Derived.Deep.RegionHeld3
import Derived.ShutString
import Derived.ChangeOld
import Derived.SizedLaws
namespace Go.Proofs.Ytmoanhlpldimcaa
open Go.ChangeShapes Go.WideShapes Go.ChangeAt Go.RowKit
open Go.ChangeMaps (open_string shut_string)

theorem nodup_nums {L : List ByteArray} (h : L.Nodup) : (L.map nums).Nodup := by
  unfold List.Nodup at h ⊢
  rw [List.pairwise_map]
  exact h.imp (fun hne e => hne (nums_inj _ _ e))

set_option maxRecDepth 20000 in
set_option maxHeartbeats 4000000 in
theorem walks_walk (v : Value) (L : List ByteArray) (b : ByteArray) (w : World) (h : ListIn w v L) :
    Calls Try.prog 4 #[v, .string b] w fun e w' => e = .returned (.bool true) ∧ Below w.heap.size w w' := by
  obtain ⟨i0, hi0, hz0, hz1, hz2⟩ := info_parts Try.infoStr
  have H := hid h
  by_cases hf : FewL L
  · have hd1 : fewB L = true := decide_eq_true hf
    by_cases hb60 : b.size ≤ 60
    · have hsz := hf.sizes
      rcases fine_or_bad L with hL | ⟨cd, a0, hL⟩
      · have HF := hid hL
        have hF := (fine_iff L).1 hL
        have HFI := hid hF
        have hl100 := hF.1
        obtain ⟨⟨a, ca, rfl, ha⟩, _, _⟩ := h
        rw [strs_length] at *
        have hls := strs_length L
        clear ha hL hsz hf hF
        go_enter Try.func4, Try.ntmps4
        go_wp2_with (first
          | (go_at_call 9; refine (few_any H.out).mono ?_; rintro e w1 ⟨rfl, rfl⟩; rw [hd1])
          | (go_at_call 10; refine (alive_any _).mono ?_; rintro e w2 ⟨rfl, hb2⟩; have H2 := hid (H.out.below hb2); have HB2 := hid hb2; clear hb2)
          | (go_at_call 11; refine (make_fine H2.out.1 HF.out).mono ?_; rintro e w3 ⟨p, rfl, hd, hb3⟩; have HD := hid hd; have H3 := hid (H2.out.below hb3); have HB3 := hid (below_more HB2.out hb3); clear hd hb3)
          | (go_at_call 12; refine (trie_new HD.out HF.out).mono ?_; rintro e w4 ⟨t, rfl, ht0, hb4⟩; have HT := hid ht0; have H4 := hid (H3.out.below hb4).1; have HB4 := hid (below_more HB3.out hb4); clear ht0 hb4)
          | (have _h := later; at_builtin; refine wpList_append_reads _ rfl _ _ 22 rfl w4.heap.size 9 i0 (.string ⟨#[]⟩) 16 Try.underlying22 hi0 hz0 hz1 hz2 rfl v5 L.length (strs L) rfl (HO5.out.alloc _) (.slice (some ⟨w5.heap.size, 0, none⟩) 1 1) [.string b] rfl (reads_built w5 #[.string b] _ 1 rfl) (by intro u hu; simp at hu; subst hu; rfl) (by unfold maxLen; simp; omega) (by simp; omega) (by have := HB5.out.size; simp; omega) ?_
             intro v6 w6 hown6 hgrow6 hat6 hold6
             have hs5 := HB5.out.size
             have hb6 : Below w4.heap.size w4 w6 := (HB5.out.alloc HB5.out.size _).grown hgrow6 (by rw [Go.Deep.nblk_alloc]; omega) (fun k hk => (HO5.out.lt k hk).1)
             rw [show strs L ++ [Value.string b] = strs (L ++ [b]) by simp [strs]] at hown6
             have HO6 := hid hown6
             have HB6 := hid hb6
             obtain ⟨a6, c6, rfl⟩ := ownsRow_slice hown6
             clear hown6 hgrow6 hat6 hold6 hb6)
          | (at_builtin; refine wpList_append_reads _ rfl _ _ 22 rfl w4.heap.size 9 i0 (.string ⟨#[]⟩) 16 Try.underlying22 hi0 hz0 hz1 hz2 rfl (.slice none 0 0) 0 [] rfl (World.ownsRow_nil _ _ _ _) (.slice a L.length ca) (strs L) rfl H4.out (strs_one L) (by unfold maxLen; omega) (by omega) (Nat.le_refl _) ?_
             intro v5 w5 hown5 hgrow5 hat5 hold5
             rw [List.nil_append, hls, Nat.zero_add] at hown5
             have hb5 : Below w4.heap.size w4 w5 := (Below.refl _ _).grown hgrow5 (Nat.le_refl _) (fun k hk => by cases hk)
             have HO5 := hid hown5
             have HB5 := hid hb5
             have later : True := trivial
             clear hown5 hgrow5 hat5 hold5 hb5))
        obtain ⟨A, hA⟩ : ∃ A, A = nodesN (L.map nums) := ⟨_, rfl⟩
        have HT6 : Hid (TrieAt w6 w3.heap.size t A (wordOf (L.map nums))) := by rw [hA]; exact HT.out.below HB6.out
        have HL6 : Hid (Reads w6 (.slice a L.length ca) (strs L)) := H4.out.below HB6.out
        have HR6 : Hid (Reads w6 (.slice a6 (L.length + 1) c6) (strs (L ++ [b]))) := ownsRow_reads HO6.out
        have hfew := HT6.out.few
        have HAE := hid hA
        clear HT HD H2 H H3 H4 HF HB2 HB3 hA HO5 HO6 HB5
        go_loopw [40] (fun vi wr => ∃ i : Nat, vi = .int .i64 i ∧ i ≤ L.length + 1 ∧ Hid (Below w6.heap.size w6 wr)) (fun vi _ => L.length + 1 - (intOf vi).toNat)
        case atStart => exact ⟨0, rfl, by omega, Below.refl _ _⟩
        case round =>
          obtain ⟨d, rfl, hdl, hb⟩ := hrel
          by_cases hlt : d < L.length + 1
          · have hR := HR6.out.below hb.out
            obtain ⟨a7, c7, e7, hR7⟩ := hR
            rw [strs_length, List.length_append, List.length_singleton] at e7 hR7
            injection e7 with e8 e9 e10
            subst e8
            subst e10
            rcases hR7 with h0 | ⟨gb, o, rfl, hgb, hcell⟩
            · omega
            have hdM : d < (L ++ [b]).length := by rw [List.length_append, List.length_singleton]; exact hlt
            have hcb : wr.cell? ⟨gb, o + d, none⟩ = some (.string ((L ++ [b])[d]'hdM)) := by rw [hcell d hlt, strs_at]
            clear hcell
            have hx' : (decide ((0 : Int) ≤ (d : Int) ∧ (d : Int) < (L.length : Int) + 1)) = true := decide_eq_true ⟨by omega, by omega⟩
            have hin : Hid (d < L.length → (L ++ [b])[d]'hdM ∈ L) := fun hd => by rw [List.getElem_append_left hd]; exact List.getElem_mem hd
            have hword : Hid (d < L.length → wordOf (L.map nums) (nums ((L ++ [b])[d]'hdM)) = (d : Int)) := fun hd => by
              rw [List.getElem_append_left hd, wordOf, if_pos (mem_nums.2 (List.getElem_mem hd)), idxOf_once (nodup_nums HFI.out.2.2.2) (k := d) (by rw [List.getElem?_map, List.getElem?_eq_getElem hd]; rfl)]
            have hsz : ((L ++ [b])[d]'hdM).size ≤ 60 := by
              by_cases hd : d < L.length
              · rw [List.getElem_append_left hd]; have := (HFI.out.2.1 _ (List.getElem_mem hd)).2; omega
              · rw [List.getElem_append_right (by omega)]; simp; exact hb60
            generalize (L ++ [b])[d]'hdM = s at hcb hin hword hsz
            go_wp2
            go_loopw [9, 10] (fun vn vi wr2 => ∃ j i : Nat, vn = .int .i64 j ∧ vi = .int .i64 i ∧ i ≤ s.size ∧ Hid (A[j]? = some ((nums s).take i)) ∧ Hid (Below w6.heap.size w6 wr2)) (fun _ vi _ => s.size - (intOf vi).toNat)
            case atStart => exact ⟨0, 0, rfl, rfl, by omega, by rw [List.take_zero]; exact HT6.out.nodes.root, hb.out⟩
            case round =>
              obtain ⟨j, i, rfl, rfl, hi, hj, hb2⟩ := hrel
              have hT := hid (HT6.out.below hb2.out)
              obtain ⟨hjl, ej⟩ := List.getElem?_eq_some_iff.1 hj.out
              by_cases hlt2 : i < s.size
              · have hix := byte_at s i hlt2
                obtain ⟨c, hcc⟩ : ∃ c, c = (s[i]'hlt2).toNat := ⟨_, rfl⟩
                have hc : c < 256 := by rw [hcc]; exact UInt8.toNat_lt _
                have htk : (nums s).take (i + 1) = (A[j]'hjl) ++ [c] := by rw [ej, hcc]; exact take_nums s i hlt2
                rw [← hcc] at hix
                clear hcc
                by_cases hm : (A[j]'hjl) ++ [c] ∈ A
                · have HN := hid (next_in hT.out j hjl c hc hm)
                  have hn2 := List.idxOf_lt_length_of_mem hm
                  have hg : A[A.idxOf ((A[j]'hjl) ++ [c])]'hn2 = (nums s).take (i + 1) := (List.getElem_idxOf hn2).trans htk.symm
                  obtain ⟨m, hmm⟩ : ∃ m, m = A.idxOf ((A[j]'hjl) ++ [c]) := ⟨_, rfl⟩
                  have HAm : Hid (A[m]? = some ((nums s).take (i + 1))) := by
                    show A[m]? = _
                    rw [hmm, List.getElem?_eq_getElem hn2, hg]
                  rw [← hmm] at HN
                  clear hg hmm hn2
                  obtain ⟨hml, em⟩ := List.getElem?_eq_some_iff.1 HAm.out
                  have HX : Hid (∀ W : World, TrieAt W w3.heap.size t A (wordOf (L.map nums)) → Calls Try.prog 18 #[.pointer (some ⟨t, 0, none⟩), .int .i64 (m : Int)] W fun e w' => e = .returned (.string (s.extract 0 (i + 1))) ∧ w' = W) := fun W hW => by
                    have := text_in hW m hml
                    rw [em, ← begin_text] at this
                    exact this
                  have HX2 : Hid (∀ W : World, TrieAt W w3.heap.size t A (wordOf (L.map nums)) → Calls Try.prog 19 #[.pointer (some ⟨t, 0, none⟩), .int .i64 (m : Int)] W fun e w' => e = .returned (.int .i64 ((i : Int) + 1)) ∧ w' = W) := fun W hW => by
                    have := depth_in hW m hml
                    rw [em, List.length_take, nums_length, Nat.min_eq_left (by omega)] at this
                    simpa using this
                  have hsl : ∀ W : World, (Instr.slice 9 (.string s) none (some (.int .i64 ((i : Int) + 1))) none).run Try.prog W = .ok (.string (s.extract 0 (i + 1))) W := fun W => by
                    have := run_slice_string_h (P := Try.prog) W 9 s Try.underlying9 .i64 ((i : Int) + 1) (by omega) (by omega)
                    rw [this]
                    rfl
                  clear em
                  go_wp2_with (first
                    | (go_at_call 15; refine (HN.out).mono ?_; rintro e w7 ⟨rfl, q, hq⟩; have hT7 : Hid (TrieAt w7 w3.heap.size t A (wordOf (L.map nums))) := (by rw [hq]; exact hT.out.drewN q); have HB7 : Hid (Below w6.heap.size w6 w7) := (by rw [hq]; exact hb2.out.trans (drewN_below _ q _)); clear hq)
                    | (go_at_call 18; refine (HX.out _ hT7.out).mono ?_; rintro e w8 ⟨rfl, rfl⟩)
                    | (go_at_call 19; refine (HX2.out _ hT7.out).mono ?_; rintro e w8 ⟨rfl, rfl⟩))
                  go_quiet (first
                    | (go_at_call 18; exact Calls.quiet_of_same (HX.out _ (hT7.out.drewN _)))
                    | (go_at_call 19; exact Calls.quiet_of_same (HX2.out _ (hT7.out.drewN _))))
                  go_wp2
                  go_roundw
                  case rel => exact ⟨m, i + 1, rfl, by go_num, by omega, HAm.out, show Below w6.heap.size w6 _ from HB7.out.trans (drewN_below _ _ _)⟩
                  case measure => simp [intOf]; omega
                · have HN := hid (next_not hT.out j hjl c hc hm)
                  have hdn : ¬ d < L.length := fun hd => hm (by
                    rw [← htk, HAE.out]
                    exact nodesN_take _ _ (nodesN_self _ _ (mem_nums.2 (hin.out hd))) _)
                  have hdL : d = L.length := by omega
                  have hg1 : decide ((d : Int) < (L.length : Int)) = false := decide_eq_false (by omega)
                  have hg2 : decide (d < L.length) = false := decide_eq_false hdn
                  go_wp2_with (first
                    | (go_at_call 15; refine (HN.out).mono ?_; rintro e w7 ⟨rfl, q, rfl⟩; have HB7 := hid (hb2.out.trans (drewN_below _ q _))))
                  go_roundw
                  case rel => exact ⟨d + 1, by go_num, by omega, HB7.out⟩
                  case measure => simp [intOf]; omega
              · obtain rfl : i = s.size := by omega
                have ej2 : A[j]'hjl = nums s := by rw [ej]; exact take_all s
                by_cases hd : d < L.length
                · have hg1 : decide ((d : Int) < (L.length : Int)) = true := decide_eq_true (by omega)
                  have hg2 : decide (d < L.length) = true := decide_eq_true hd
                  have HWd : Hid (Calls Try.prog 20 #[.pointer (some ⟨t, 0, none⟩), .int .i64 (j : Int)] wr fun e w' => e = .returned (.int .i64 (d : Int)) ∧ w' = wr) := by
                    have := word_in hT.out j hjl
                    rw [ej2, hword.out hd] at this
                    exact this
                  go_wp2_with (go_at_call 20; refine (HWd.out).mono ?_; rintro e w7 ⟨rfl, rfl⟩)
                  go_roundw
                  case rel => exact ⟨d + 1, by go_num, by omega, hb2.out⟩
                  case measure => simp [intOf]; omega
                · have hdL : d = L.length := by omega
                  have hg1 : decide ((d : Int) < (L.length : Int)) = false := decide_eq_false (by omega)
                  have hg2 : decide (d < L.length) = false := decide_eq_false hd
                  have hg3 : decide ((0 : Int) ≤ (j : Int)) = true := decide_eq_true (by omega)
                  have HWd : Hid (Calls Try.prog 20 #[.pointer (some ⟨t, 0, none⟩), .int .i64 (j : Int)] wr fun e w' => e = .returned (.int .i64 (wordOf (L.map nums) (nums s))) ∧ w' = wr) := by
                    have := word_in hT.out j hjl
                    rw [ej2] at this
                    exact this
                  have HFd := hid (find_word (s := s) (HL6.out.below hb2.out) (by omega))
                  generalize wordOf (L.map nums) (nums s) = x at HWd HFd
                  subst hdL
                  go_wp2_with (first
                    | (go_at_call 20; refine (HWd.out).mono ?_; rintro e w7 ⟨rfl, rfl⟩)
                    | (go_at_call 14; refine (HFd.out).mono ?_; rintro e w7 ⟨rfl, rfl⟩))
                  go_roundw
                  case rel => exact ⟨L.length + 1, by go_num, by omega, hb2.out⟩
                  case measure => simp [intOf]
          · obtain rfl : d = L.length + 1 := by omega
            go_wp2
            go_ret
            exact ⟨rfl, below_more HB4.out (below_more HB6.out hb.out)⟩
      · go_enter Try.func4, Try.ntmps4
        go_wp2_with (first
          | (go_at_call 9; refine (few_any H.out).mono ?_; rintro e w1 ⟨rfl, rfl⟩; rw [hd1])
          | (go_at_call 10; refine (alive_any _).mono ?_; rintro e w2 ⟨rfl, hb2⟩; have H2 := hid (H.out.below hb2))
          | (go_at_call 11; refine (make_bad H2.out.1 hsz.1 (fun s hs => by have := hsz.2 s hs; omega) hL).mono ?_; rintro e w3 ⟨rfl, hb3⟩))
        go_ret
        exact ⟨rfl, below_more hb2 hb3⟩
    · go_enter Try.func4, Try.ntmps4
      go_wp2_with (first
        | (go_at_call 9; refine (few_any H.out).mono ?_; rintro e w1 ⟨rfl, rfl⟩; rw [hd1])
        | (go_at_call 10; refine (alive_any _).mono ?_; rintro e w2 ⟨rfl, hb2⟩))
      go_ret
      exact ⟨rfl, hb2⟩
  · have hd1 : fewB L = false := decide_eq_false hf
    go_enter Try.func4, Try.ntmps4
    go_wp2_with (first
      | (go_at_call 9; refine (few_any H.out).mono ?_; rintro e w1 ⟨rfl, rfl⟩; rw [hd1])
      | (go_at_call 10; refine (alive_any _).mono ?_; rintro e w2 ⟨rfl, hb2⟩))
    go_ret
    exact ⟨rfl, hb2⟩

set_option linter.unusedVariables false
theorem trieWalks_own : ownKnob Try.prog.godebug = none := by kernel_rfl

theorem trieWalks_laidOut : laidOutB Try.prog = true := by kernel_rfl

set_option maxRecDepth 100000 in
theorem trieWalks_lifted (os : Os) (started : os.Started) (H : Type) (enc : TypeId × Value → H) :
    ReturnsInHanded {} Try.checked os 4 .any (Rows.trieWalksSpec.pre6 enc Try.prog Try.f4 Rows.trieWalksRow.domain false) (Rows.trieWalksSpec.post enc Try.prog Try.f4 false true false false) := by
  refine returnsInHanded_of_change_sized (C := Try.checked) trieWalks_own started (by kernel_rfl) Try.func4
    (ChangeSpec.witness6 (enc := enc) (C := Try.checked) false ⟨#[], #[.slice none 0 0, .string ByteArray.empty], []⟩ 8 (by kernel_rfl) (by kernel_rfl) (by kernel_rfl) (by kernel_rfl)) ?_
  intro W base args ds gs before hval0 hW hcnd hsz0 _
  have hsz : (DataW.weightsEach Try.prog (Try.f4.params.toList ++ Rows.trieWalksSpec.plain.varTypes Try.prog) (ds ++ gs)).all (· ≤ reachBytes) = true := hsz0
  have hval : ∀ (j : Nat) t v, Try.f4.params[j]? = some t → args[j]? = some v → Value.okWide Try.prog W .any base t v := hval0
  have hW' := hW
  obtain ⟨p, q, hA0, hV, rfl, hfz, hnd⟩ := hW
  have hA : DataW.TrodAll enc Try.prog W 0 (fun _ => true) true Try.f4.params.toList args.toList ds p := hA0
  rw [Try.params4] at hA hval hsz
  obtain ⟨v0, vs0, d0, ds0, p0, q0, hargs, rfl, rfl, h0, r0⟩ := trodAll_cons hA
  obtain ⟨v1, vs1, d1, ds1, p1, q1, rfl, rfl, rfl, h1, r1⟩ := trodAll_cons r0
  obtain ⟨rfl, rfl, rfl⟩ := trodAll_nil r1
  obtain rfl : args = #[v0, v1] := by cases args; simp_all
  obtain ⟨rfl, rfl⟩ := trodVars_none hV
  obtain ⟨a0, len0, cap0, rfl⟩ := okWide_slice Try.underlying22 (hval 0 22 v0 rfl rfl)
  have k0 := h0
  have lt0 : ∀ x ∈ p0, x.block < W.heap.size := by obtain ⟨m, hm⟩ := k0; exact DataW.trod_lt m _ _ _ hm
  obtain ⟨z0, w0⟩ := h0.elim (fun _ hf => open_list hf hsz 0 rfl rfl)
  obtain ⟨a1, rfl, rfl, rfl, w1⟩ := open_string Try.underlying9 (hval 1 9 v1 rfl rfl) h1
  clear hA0 hval0
  have s1 : a1.size ≤ 140737488351232 := by have h := sized_string hsz (j := 1) (t := 9) rfl rfl; rw [Array.length_toList] at h; exact h
  refine (walks_walk _ z0 a1 W w0).mono fun e W' ⟨he, bel⟩ => ?_
  subst he
  exact ⟨_, rfl, _, _, _, [], _, [], hW', trodAll_mk1 (shut_bool Try.underlying4 _), (trodAll_cons_mk (Below.trod trieWalks_laidOut (by kernel_rfl) (of_decide_eq_true (by kernel_rfl)) k0 bel lt0) (trodAll_cons_mk (shut_string Try.underlying9 w1) trodAll_mk0)), rfl, bel.frame _, fun h => by cases h⟩

/-- THE STATEMENT. -/
theorem trieWalks_holds : Rows.TrieWalksSaid :=
  OpenClaim.holds_of_wide 4 Try.f4 rfl rfl rfl rfl rfl rfl rfl ⟨rfl, rfl, rfl, rfl, rfl⟩ rfl rfl rfl rfl rfl (by kernel_rfl) Try.func4 (by kernel_rfl)
    (of_decide_eq_true (by kernel_rfl)) (by unfold Func.isWrapper; first | (rw [if_pos (by decide +kernel)]; kernel_rfl) | (rw [if_neg (by decide +kernel)]; exact ⟨rfl, rfl⟩))
    (fun os started H enc _ => trieWalks_lifted os started H enc)
#print axioms trieWalks_holds
end Go.Proofs.Ytmoanhlpldimcaa
