/-
  TrieNext: in the tree of every dictionary a node has a son by a byte just where its Sons tell that byte; the son has a greater number, and its text is its father's and the byte. For every list of texts and every byte.
-/
import Derived.Test.YtmoanhlpldimcaaAlive7
import Derived.ChangeOld
import Derived.SizedLaws
namespace Go.Proofs.Ytmoanhlpldimcaa
open Go.ChangeShapes Go.WideShapes Go.ChangeAt Go.RowKit

theorem son_later {A : List (List Nat)} (h : Nodes A) {i : Nat} (hi : i < A.length) {c : Nat} (hm : (A[i]'hi) ++ [c] ∈ A) : i < A.idxOf ((A[i]'hi) ++ [c]) := by
  have hk := List.idxOf_lt_length_of_mem hm
  obtain ⟨j, hj, e⟩ := h.father (A.idxOf ((A[i]'hi) ++ [c])) ((A[i]'hi) ++ [c]) (by rw [List.getElem?_eq_getElem hk, List.getElem_idxOf]) (by simp)
  rw [List.dropLast_concat] at e
  obtain ⟨hj2, e2⟩ := List.getElem?_eq_some_iff.1 e
  have h1 := h.once
  unfold List.Nodup at h1
  rw [List.pairwise_iff_getElem] at h1
  rcases Nat.lt_trichotomy i j with hl | hl | hl
  · omega
  · omega
  · exact absurd e2 (h1 j i hj2 hi hl)

theorem contains_next (l : List Nat) (c k : Nat) (hk : k < l.length) : (l.take (k + 1)).contains c = ((l.take k).contains c || (((l[k]'hk : Nat) : Int) == (c : Int))) := by
  rw [List.take_succ_eq_append_getElem hk, Bool.eq_iff_iff, Bool.or_eq_true, List.contains_iff_mem, List.contains_iff_mem, List.mem_append, List.mem_singleton, beq_iff_eq]
  constructor
  · rintro (h | h)
    · exact .inl h
    · exact .inr (by rw [h])
  · rintro (h | h)
    · exact .inl h
    · exact .inr (by omega)

theorem conv_at (x : Nat) (w : World) (n : Nat) (h : w.heap[n]? = some (.cells #[.int .u8 (x : Int)] 5 (0, 0))) :
    (convert 38 9 (.slice (some ⟨n, 0, none⟩) 1 1)).run Try.prog w = .ok (.string (bytesOf [x])) w := by
  rw [run_convert_bytes_arg (P := Try.prog) w 38 5 Try.underlying38 Try.underlying5 n 0 1 1 [(x : Int)] rfl (fun i hi => by
    obtain rfl : i = 0 := by omega
    rw [Nat.zero_add, cell_of_row _ _ _ _ _ _ h]
    rfl) 9 Try.underlying9]
  rw [show strOfNums [(x : Int)] = bytesOf [x] from bytesOf_strs [x]]

theorem conv_now (x : Nat) (w : World) :
    (convert 38 9 (.slice (some ⟨w.heap.size, 0, none⟩) 1 1)).run Try.prog (w.alloc (.cells #[.int .u8 (x : Int)] 5)) = .ok (.string (bytesOf [x])) (w.alloc (.cells #[.int .u8 (x : Int)] 5)) :=
  conv_at x _ _ (heap_alloc_new w _)

theorem conv_drew (x : Nat) (w : World) :
    (convert 38 9 (.slice (some ⟨w.heap.size, 0, none⟩) 1 1)).run Try.prog (w.alloc (.cells #[.int .u8 (x : Int)] 5)).drew = .ok (.string (bytesOf [x])) (w.alloc (.cells #[.int .u8 (x : Int)] 5)).drew :=
  conv_at x _ _ (heap_alloc_new w _)

set_option maxRecDepth 20000 in
set_option maxHeartbeats 4000000 in
theorem next_walk (v : Value) (L : List ByteArray) (c : Nat) (hc : c < 256) (w : World) (h : ListIn w v L) :
    Calls Try.prog 7 #[v, .int .u8 (c : Int)] w fun e w' => e = .returned (.bool true) ∧ Below w.heap.size w w' := by
  have H := hid h
  by_cases hf : FewL L
  · have hd1 : fewB L = true := decide_eq_true hf
    have hsz := hf.sizes
    rcases fine_or_bad L with hL | ⟨cd, a0, hL⟩
    · have HF := hid hL
      clear h hL hsz hf
      go_enter Try.func7, Try.ntmps7
      go_wp2_with (first
        | (go_at_call 9; refine (few_any H.out).mono ?_; rintro e w1 ⟨rfl, rfl⟩; rw [hd1])
        | (go_at_call 10; refine (alive_any _).mono ?_; rintro e w2 ⟨rfl, hb2⟩; have H2 := hid (H.out.below hb2); have HB2 := hid hb2; clear hb2)
        | (go_at_call 11; refine (make_fine H2.out.1 HF.out).mono ?_; rintro e w3 ⟨p, rfl, hd, hb3⟩; have HD := hid hd; have HB3 := hid (below_more HB2.out hb3); clear hd hb3)
        | (go_at_call 12; refine (trie_new HD.out HF.out).mono ?_; rintro e w4 ⟨t, rfl, ht0, hb4⟩; have HT := hid ht0; have HB4 := hid (below_more HB3.out hb4); clear ht0 hb4))
      obtain ⟨A, hA⟩ : ∃ A, A = nodesN (L.map nums) := ⟨_, rfl⟩
      have HT4 : Hid (TrieAt w4 w3.heap.size t A (wordOf (L.map nums))) := by rw [hA]; exact HT.out
      have hfew := HT4.out.few
      clear HT HD H2 H HF HB2 HB3 hA
      go_loopw [7] (fun vi wr => ∃ i : Nat, vi = .int .i64 i ∧ i ≤ A.length ∧ Hid (Below w4.heap.size w4 wr)) (fun vi _ => A.length - (intOf vi).toNat)
      case atStart => exact ⟨0, rfl, by omega, Below.refl _ _⟩
      case round =>
        obtain ⟨i, rfl, hi, hb⟩ := hrel
        have hT := hid (HT4.out.below hb.out)
        by_cases hlt : i < A.length
        · have hd : decide ((i : Int) < (A.length : Int)) = true := decide_eq_true (by omega)
          by_cases hm : (A[i]'hlt) ++ [c] ∈ A
          · have hn1 := son_later hT.out.nodes hlt hm
            have hn2 := List.idxOf_lt_length_of_mem hm
            have hg : A[A.idxOf ((A[i]'hlt) ++ [c])]'hn2 = (A[i]'hlt) ++ [c] := List.getElem_idxOf hn2
            have HN := hid (next_in hT.out i hlt c hc hm)
            obtain ⟨m, hmm⟩ : ∃ m, m = A.idxOf ((A[i]'hlt) ++ [c]) := ⟨_, rfl⟩
            have HX : Hid (∀ (W : World), TrieAt W w3.heap.size t A (wordOf (L.map nums)) → Calls Try.prog 18 #[.pointer (some ⟨t, 0, none⟩), .int .i64 (m : Int)] W fun e w' => e = .returned (.string (bytesOf ((A[i]'hlt) ++ [c]))) ∧ w' = W) := fun W hW => by
              have := text_in hW (A.idxOf ((A[i]'hlt) ++ [c])) hn2
              rw [hg] at this
              rw [hmm]
              exact this
            rw [← hmm] at HN hn1 hn2
            clear hg hmm
            obtain ⟨bl, hbl⟩ : ∃ bl, bl = byOf A (A[i]'hlt) := ⟨_, rfl⟩
            obtain ⟨n, hn⟩ : ∃ n, n = bl.length := ⟨_, rfl⟩
            have hnb : n ≤ 256 := by rw [hn, hbl]; exact byOf_length A _
            have hcon : bl.contains c = true := by rw [hbl, byOf_contains A _ c hc]; exact decide_eq_true hm
            have HBL := hid hbl
            have HNN := hid hn
            have HCON := hid hcon
            clear hbl hn hcon
            go_wp2_with (first
              | (go_at_call 22; refine (len_trie hT.out).mono ?_; rintro e w5 ⟨rfl, rfl⟩)
              | (go_at_call 15; refine (HN.out).mono ?_; rintro e w5 ⟨rfl, q, rfl⟩; have hT5 := hid (hT.out.drewN q))
              | (go_at_call 16; refine (sons_list hT5.out i hlt HBL.out HNN.out).mono ?_; rintro e w6 ⟨a6, c6, rfl, hR6, _, hb6⟩; have HR6 := hid hR6; have hT6 := hid (hT5.out.below hb6); have HB6 := hid (hb.out.trans ((drewN_below _ q _).trans (hb6.mono (by have := hb.out.size; have := (drewN_below w5 q 0).size; omega)))); clear hR6 hb6))
            go_loopw [10, 46] (fun vf vk wr => ∃ k : Nat, vk = .int .i64 k ∧ k ≤ n ∧ vf = .bool ((bl.take k).contains c) ∧ wr = w6) (fun _ vk _ => n - (intOf vk).toNat)
            case atStart => exact ⟨0, rfl, by omega, rfl, rfl⟩
            case round =>
              obtain ⟨k, rfl, hk, rfl, rfl⟩ := hrel
              by_cases hkn : k < n
              · obtain ⟨gb, o, rfl, hgb, hcb⟩ := reads_byte HR6.out HNN.out k hkn
                have hkb : k < bl.length := by rw [← HNN.out]; exact hkn
                have hnx := hid (contains_next bl c k hkb)
                have hx' : (decide ((0 : Int) ≤ (k : Int) ∧ (k : Int) < (n : Int))) = true := decide_eq_true ⟨by omega, by omega⟩
                generalize bl[k]'hkb = y at hcb hnx
                generalize (bl.take k).contains c = f at hnx
                cases f
                · go_wp2
                  go_roundw
                  case rel => exact ⟨k + 1, by go_num, by omega, by rw [hnx.out]; rfl, trivial⟩
                  case measure => simp [intOf]; omega
                · go_wp2
                  go_roundw
                  case rel => exact ⟨k + 1, by go_num, by omega, by rw [hnx.out]; rfl, trivial⟩
                  case measure => simp [intOf]; omega
              · obtain rfl : k = n := by omega
                have hfull : (bl.take k).contains c = true := by rw [List.take_of_length_le (by rw [← HNN.out]; exact Nat.le_refl _), HCON.out]
                rw [hfull]
                clear hfull
                go_wp2
                have hcm1 : decide ((m : Int) ≤ (i : Int)) = false := decide_eq_false (by omega)
                have hcm2 : decide ((A.length : Int) ≤ (m : Int)) = false := decide_eq_false (by omega)
                have hcn1 : decide (m ≤ i) = false := decide_eq_false (by omega)
                have hcn2 : decide (A.length ≤ m) = false := decide_eq_false (by omega)
                have hcv := conv_now c
                have hcd := conv_drew c
                have hsh := hT6.out.short _ (List.getElem_mem hlt)
                have hadd : ∀ W : World, (Op.stringOp .add (bytesOf (A[i]'hlt)) (bytesOf [c])).run Try.prog W = .ok (.string (bytesOf ((A[i]'hlt) ++ [c]))) W := fun W => by
                  rw [run_string_add_sum W _ _ (by rw [bytesOf_size, bytesOf_size]; simp; omega), bytesOf_append]
                have hS0 : Below wr.heap.size wr wr := Below.refl _ _
                have HLo : Hid (∀ W, Below wr.heap.size wr W → TrieAt W w3.heap.size t A (wordOf (L.map nums))) := fun W hW => hT6.out.below hW
                go_region_held_law (fun w' => Below wr.heap.size wr w') (((repeat refine Below.drew ?_); first | assumption | (refine Below.alloc ?_ ?_ _ <;> first | assumption | (exact Below.size (by assumption))))) (first
                  | (go_at_call 22; refine (len_trie (HLo.out _ (by assumption))).mono ?_; rintro e w7 ⟨rfl, rfl⟩)
                  | (go_at_call_of 18 (Value.int IntKind.i64 (i : Int)); refine (text_in (HLo.out _ (by assumption)) i hlt).mono ?_; rintro e w7 ⟨rfl, rfl⟩)
                  | (go_at_call_of 18 (Value.int IntKind.i64 (m : Int)); refine (HX.out _ (HLo.out _ (by assumption))).mono ?_; rintro e w7 ⟨rfl, rfl⟩))
                all_goals
                  go_wp2
                  go_roundw
                  case rel => exact ⟨i + 1, by go_num, by omega, HB6.out.trans (Below.mono (show Below wr.heap.size wr _ by assumption) HB6.out.size)⟩
                  case measure => simp [intOf]; omega
          · have HN := hid (next_not hT.out i hlt c hc hm)
            obtain ⟨bl, hbl⟩ : ∃ bl, bl = byOf A (A[i]'hlt) := ⟨_, rfl⟩
            obtain ⟨n, hn⟩ : ∃ n, n = bl.length := ⟨_, rfl⟩
            have hnb : n ≤ 256 := by rw [hn, hbl]; exact byOf_length A _
            have hcon : bl.contains c = false := by rw [hbl, byOf_contains A _ c hc]; exact decide_eq_false hm
            have HBL := hid hbl
            have HNN := hid hn
            have HCON := hid hcon
            clear hbl hn hcon
            go_wp2_with (first
              | (go_at_call 22; refine (len_trie hT.out).mono ?_; rintro e w5 ⟨rfl, rfl⟩)
              | (go_at_call 15; refine (HN.out).mono ?_; rintro e w5 ⟨rfl, q, rfl⟩; have hT5 := hid (hT.out.drewN q))
              | (go_at_call 16; refine (sons_list hT5.out i hlt HBL.out HNN.out).mono ?_; rintro e w6 ⟨a6, c6, rfl, hR6, _, hb6⟩; have HR6 := hid hR6; have hT6 := hid (hT5.out.below hb6); have HB6 := hid (hb.out.trans ((drewN_below _ q _).trans (hb6.mono (by have := hb.out.size; have := (drewN_below w5 q 0).size; omega)))); clear hR6 hb6))
            go_loopw [10, 46] (fun vf vk wr => ∃ k : Nat, vk = .int .i64 k ∧ k ≤ n ∧ vf = .bool ((bl.take k).contains c) ∧ wr = w6) (fun _ vk _ => n - (intOf vk).toNat)
            case atStart => exact ⟨0, rfl, by omega, rfl, rfl⟩
            case round =>
              obtain ⟨k, rfl, hk, rfl, rfl⟩ := hrel
              by_cases hkn : k < n
              · obtain ⟨gb, o, rfl, hgb, hcb⟩ := reads_byte HR6.out HNN.out k hkn
                have hkb : k < bl.length := by rw [← HNN.out]; exact hkn
                have hnx := hid (contains_next bl c k hkb)
                have hx' : (decide ((0 : Int) ≤ (k : Int) ∧ (k : Int) < (n : Int))) = true := decide_eq_true ⟨by omega, by omega⟩
                generalize bl[k]'hkb = y at hcb hnx
                generalize (bl.take k).contains c = f at hnx
                cases f
                · go_wp2
                  go_roundw
                  case rel => exact ⟨k + 1, by go_num, by omega, by rw [hnx.out]; rfl, trivial⟩
                  case measure => simp [intOf]; omega
                · go_wp2
                  go_roundw
                  case rel => exact ⟨k + 1, by go_num, by omega, by rw [hnx.out]; rfl, trivial⟩
                  case measure => simp [intOf]; omega
              · obtain rfl : k = n := by omega
                have hfull : (bl.take k).contains c = false := by rw [List.take_of_length_le (by rw [← HNN.out]; exact Nat.le_refl _), HCON.out]
                rw [hfull]
                clear hfull
                go_wp2
                have hS0 : Below wr.heap.size wr wr := Below.refl _ _
                go_region
                all_goals
                  go_wp2
                  go_roundw
                  case rel => exact ⟨i + 1, by go_num, by omega, show Below w4.heap.size w4 _ from HB6.out.drew⟩
                  case measure => simp [intOf]; omega
        · obtain rfl : i = A.length := by omega
          have hd : decide ((A.length : Int) < (A.length : Int)) = false := decide_eq_false (by omega)
          go_wp2_with (go_at_call 22; refine (len_trie hT.out).mono ?_; rintro e w5 ⟨rfl, rfl⟩)
          go_ret
          exact ⟨rfl, below_more HB4.out hb.out⟩
    · go_enter Try.func7, Try.ntmps7
      go_wp2_with (first
        | (go_at_call 9; refine (few_any H.out).mono ?_; rintro e w1 ⟨rfl, rfl⟩; rw [hd1])
        | (go_at_call 10; refine (alive_any _).mono ?_; rintro e w2 ⟨rfl, hb2⟩; have H2 := hid (H.out.below hb2))
        | (go_at_call 11; refine (make_bad H2.out.1 hsz.1 (fun s hs => by have := hsz.2 s hs; omega) hL).mono ?_; rintro e w3 ⟨rfl, hb3⟩))
      go_ret
      exact ⟨rfl, below_more hb2 hb3⟩
  · have hd1 : fewB L = false := decide_eq_false hf
    go_enter Try.func7, Try.ntmps7
    go_wp2_with (first
      | (go_at_call 9; refine (few_any H.out).mono ?_; rintro e w1 ⟨rfl, rfl⟩; rw [hd1])
      | (go_at_call 10; refine (alive_any _).mono ?_; rintro e w2 ⟨rfl, hb2⟩))
    go_ret
    exact ⟨rfl, hb2⟩

theorem byte_of {n : Int} (h : (Lit.int .u8 n).wf = true) : 0 ≤ n ∧ n < 256 := by
  simp only [Lit.wf, Bool.and_eq_true, IntKind.min, IntKind.max, IntKind.signed, IntKind.bits] at h
  simp at h
  omega

theorem nextI_walk (v : Value) (L : List ByteArray) (c : Int) (hc : 0 ≤ c ∧ c < 256) (w : World) (h : ListIn w v L) :
    Calls Try.prog 7 #[v, .int .u8 c] w fun e w' => e = .returned (.bool true) ∧ Below w.heap.size w w' := by
  obtain ⟨n, rfl⟩ := Int.eq_ofNat_of_zero_le hc.1
  exact next_walk v L n (by omega) w h

set_option linter.unusedVariables false
theorem trieNext_own : ownKnob Try.prog.godebug = none := by kernel_rfl

theorem trieNext_laidOut : laidOutB Try.prog = true := by kernel_rfl

set_option maxRecDepth 100000 in
theorem trieNext_lifted (os : Os) (started : os.Started) (H : Type) (enc : TypeId × Value → H) :
    ReturnsInHanded {} Try.checked os 7 .any (Rows.trieNextSpec.pre6 enc Try.prog Try.f7 Rows.trieNextRow.domain false) (Rows.trieNextSpec.post enc Try.prog Try.f7 false true false false) := by
  refine returnsInHanded_of_change_sized (C := Try.checked) trieNext_own started (by kernel_rfl) Try.func7
    (ChangeSpec.witness6 (enc := enc) (C := Try.checked) false ⟨#[], #[.slice none 0 0, .int .u8 0], []⟩ 8 (by kernel_rfl) (by kernel_rfl) (by kernel_rfl) (by kernel_rfl)) ?_
  intro W base args ds gs before hval0 hW hcnd hsz0 _
  have hsz : (DataW.weightsEach Try.prog (Try.f7.params.toList ++ Rows.trieNextSpec.plain.varTypes Try.prog) (ds ++ gs)).all (· ≤ reachBytes) = true := hsz0
  have hval : ∀ (j : Nat) t v, Try.f7.params[j]? = some t → args[j]? = some v → Value.okWide Try.prog W .any base t v := hval0
  have hW' := hW
  obtain ⟨p, q, hA0, hV, rfl, hfz, hnd⟩ := hW
  have hA : DataW.TrodAll enc Try.prog W 0 (fun _ => true) true Try.f7.params.toList args.toList ds p := hA0
  rw [Try.params7] at hA hval hsz
  obtain ⟨v0, vs0, d0, ds0, p0, q0, hargs, rfl, rfl, h0, r0⟩ := trodAll_cons hA
  obtain ⟨v1, vs1, d1, ds1, p1, q1, rfl, rfl, rfl, h1, r1⟩ := trodAll_cons r0
  obtain ⟨rfl, rfl, rfl⟩ := trodAll_nil r1
  obtain rfl : args = #[v0, v1] := by cases args; simp_all
  obtain ⟨rfl, rfl⟩ := trodVars_none hV
  obtain ⟨a0, len0, cap0, rfl⟩ := okWide_slice Try.underlying22 (hval 0 22 v0 rfl rfl)
  have k0 := h0
  have lt0 : ∀ x ∈ p0, x.block < W.heap.size := by obtain ⟨m, hm⟩ := k0; exact DataW.trod_lt m _ _ _ hm
  obtain ⟨z0, w0⟩ := h0.elim (fun _ hf => open_list hf hsz 0 rfl rfl)
  obtain ⟨a1, rfl, rfl, rfl, w1⟩ := open_int Try.underlying5 (hval 1 5 v1 rfl rfl) h1
  clear hA0 hval0
  refine (nextI_walk _ z0 a1 (byte_of w1) W w0).mono fun e W' ⟨he, bel⟩ => ?_
  subst he
  exact ⟨_, rfl, _, _, _, [], _, [], hW', trodAll_mk1 (shut_bool Try.underlying4 _), (trodAll_cons_mk (Below.trod trieNext_laidOut (by kernel_rfl) (of_decide_eq_true (by kernel_rfl)) k0 bel lt0) (trodAll_cons_mk (shut_int Try.underlying5 w1) trodAll_mk0)), rfl, bel.frame _, fun h => by cases h⟩

/-- THE STATEMENT. -/
theorem trieNext_holds : Rows.TrieNextSaid :=
  OpenClaim.holds_of_wide 7 Try.f7 rfl rfl rfl rfl rfl rfl rfl ⟨rfl, rfl, rfl, rfl, rfl⟩ rfl rfl rfl rfl rfl (by kernel_rfl) Try.func7 (by kernel_rfl)
    (of_decide_eq_true (by kernel_rfl)) (by unfold Func.isWrapper; first | (rw [if_pos (by decide +kernel)]; kernel_rfl) | (rw [if_neg (by decide +kernel)]; exact ⟨rfl, rfl⟩))
    (fun os started H enc _ => trieNext_lifted os started H enc)
#print axioms trieNext_holds
end Go.Proofs.Ytmoanhlpldimcaa
