/-
  TrieCounts: in the tree of every dictionary there are as many nodes as sons of nodes, and the root; no more than all bytes and one; as many words as phrases; each node's sons rise. For every list of texts.
-/
import Derived.Test.YtmoanhlpldimcaaAlive7
import Derived.ChangeOld
import Derived.SizedLaws
namespace Go.Proofs.Ytmoanhlpldimcaa
open Go.ChangeShapes Go.WideShapes Go.ChangeAt Go.RowKit

theorem sum_one_more (l : List (List Nat)) (f g : List Nat → Nat) (x : List Nat) (hl : l.Nodup) (hx : x ∈ l) (ho : ∀ z, z ≠ x → f z = g z) (hf : f x = g x + 1) : (l.map f).sum = (l.map g).sum + 1 := by
  induction l with
  | nil => cases hx
  | cons a l ih =>
    have h2 := List.nodup_cons.1 hl
    simp only [List.map_cons, List.sum_cons]
    rcases List.mem_cons.1 hx with rfl | hm
    · have hsame : l.map f = l.map g := List.map_congr_left (fun z hz => ho z (fun e => h2.1 (e ▸ hz)))
      rw [hsame, hf]
      omega
    · have hne : a ≠ x := fun e => h2.1 (e ▸ hm)
      rw [ih h2.2 hm, ho a hne]
      omega

theorem nodes_init {A : List (List Nat)} {y : List Nat} (h : Nodes (A ++ [y])) (h0 : A ≠ []) : Nodes A := by
  have hpos : 0 < A.length := List.length_pos_iff.2 h0
  refine ⟨?_, (List.nodup_append.1 h.once).1, fun i x hx hne => ?_⟩
  · have := h.root
    rwa [List.getElem?_append_left hpos] at this
  · have hi := (List.getElem?_eq_some_iff.1 hx).1
    obtain ⟨j, hj, e⟩ := h.father i x (by rw [List.getElem?_append_left hi]; exact hx) hne
    exact ⟨j, hj, by rwa [List.getElem?_append_left (by omega)] at e⟩

/-- As many nodes as sons of nodes, and the root. -/
theorem sum_sons (n : Nat) : ∀ A : List (List Nat), A.length = n → Nodes A → AllBytes A → (A.map (fun x => (byOf A x).length)).sum + 1 = A.length := by
  induction n with
  | zero => intro A hA h _; have := h.pos; omega
  | succ n ih =>
    intro A hA h hb
    rcases List.eq_nil_or_concat A with rfl | ⟨A', y, rfl⟩
    · simp at hA
    · rw [List.concat_eq_append] at *
      by_cases h0 : A' = []
      · subst h0
        have hr := h.root
        simp at hr
        subst hr
        have : byOf [[]] [] = [] := by
          unfold byOf
          rw [List.filter_eq_nil_iff]
          intro c _
          simp
        simp [this]
      · have h' := nodes_init h h0
        have hy : y ∉ A' := by
          have := (List.nodup_append.1 h.once).2.2
          intro hm
          exact this y hm y (by simp) rfl
        have hne : y ≠ [] := fun e => hy (e ▸ h'.root_mem)
        obtain ⟨j, hj, e⟩ := h.father A'.length y (by simp) hne
        rw [List.getElem?_append_left hj] at e
        have hx : y.dropLast ∈ A' := List.mem_of_getElem? e
        obtain ⟨x, c, rfl⟩ : ∃ x c, y = x ++ [c] := ⟨y.dropLast, y.getLast hne, (List.dropLast_concat_getLast hne).symm⟩
        rw [List.dropLast_concat] at hx
        have hc : c < 256 := hb (x ++ [c]) (by simp) c (by simp)
        have hl' : A'.length = n := by simpa using hA
        have key := ih A' hl' h' (fun z hz => hb z (by simp [hz]))
        rw [List.map_append, List.sum_append, List.map_singleton, byOf_fresh h' hy]
        have step := sum_one_more A' (fun z => (byOf (A' ++ [x ++ [c]]) z).length) (fun z => (byOf A' z).length) x h'.once hx (fun z hz => by show (byOf _ z).length = _; rw [byOf_other A' x z c hz]) (by
          show (byOf _ x).length = _
          have hk := countP_le (byOf A' x) c
          rw [byOf_new A' x c hc hy, List.length_append, List.length_cons, List.length_take, List.length_drop]
          omega)
        rw [step]
        simp
        omega

theorem length_le_of_subset (l m : List (List Nat)) (hl : l.Nodup) (hs : ∀ x ∈ l, x ∈ m) : l.length ≤ m.length := by
  induction l generalizing m with
  | nil => simp
  | cons a l ih =>
    have h2 := List.nodup_cons.1 hl
    have ha := hs a (by simp)
    have := ih (m.erase a) h2.2 (fun x hx => (List.mem_erase_of_ne (a := x) (b := a) (by intro e; rw [e] at hx; exact h2.1 hx)).2 (hs x (by simp [hx])))
    rw [List.length_erase_of_mem ha] at this
    have hp : 0 < m.length := List.length_pos_of_mem ha
    simp only [List.length_cons]
    omega

/-- As many words as phrases. -/
theorem count_words (A L : List (List Nat)) (hA : A.Nodup) (hL : L.Nodup) (hs : ∀ x ∈ L, x ∈ A) : A.countP (fun x => decide (x ∈ L)) = L.length := by
  rw [List.countP_eq_length_filter]
  refine Nat.le_antisymm (length_le_of_subset _ _ (hA.filter _) (fun x hx => ?_)) (length_le_of_subset _ _ hL (fun x hx => ?_))
  · simpa using (List.mem_filter.1 hx).2
  · exact List.mem_filter.2 ⟨hs x hx, by simpa using hx⟩

theorem wordOf_nonneg (L : List (List Nat)) (x : List Nat) : (0 ≤ wordOf L x) ↔ x ∈ L := by
  unfold wordOf
  split
  · rename_i h
    exact ⟨fun _ => h, fun _ => by omega⟩
  · rename_i h
    exact ⟨fun h2 => by omega, fun h2 => absurd h2 h⟩
theorem nodup_nums {L : List ByteArray} (h : L.Nodup) : (L.map nums).Nodup := by
  unfold List.Nodup at h ⊢
  rw [List.pairwise_map]
  exact h.imp (fun hne e => hne (nums_inj _ _ e))

theorem countP_snoc (A : List (List Nat)) (p : List Nat → Bool) (i : Nat) (hi : i < A.length) : (A.take (i + 1)).countP p = (A.take i).countP p + (if p (A[i]'hi) then 1 else 0) := by
  rw [List.take_succ_eq_append_getElem hi, List.countP_append, List.countP_singleton]

set_option maxRecDepth 20000 in
set_option maxHeartbeats 4000000 in
theorem counts_walk (v : Value) (L : List ByteArray) (w : World) (h : ListIn w v L) :
    Calls Try.prog 5 #[v] w fun e w' => e = .returned (.bool true) ∧ Below w.heap.size w w' := by
  have H := hid h
  by_cases hf : FewL L
  · have hd1 : fewB L = true := decide_eq_true hf
    have hsz := hf.sizes
    rcases fine_or_bad L with hL | ⟨cd, a0, hL⟩
    · have HF := hid hL
      have hF := (fine_iff L).1 hL
      have HFI := hid hF
      have hl100 := hF.1
      obtain ⟨⟨a, ca, rfl, ha⟩, _, _⟩ := h
      rw [strs_length] at *
      have HA := hid ha
      clear ha hL hsz hf hF
      go_enter Try.func5, Try.ntmps5
      go_wp2_with (first
        | (go_at_call 9; refine (few_any H.out).mono ?_; rintro e w1 ⟨rfl, rfl⟩; rw [hd1])
        | (go_at_call 10; refine (alive_any _).mono ?_; rintro e w2 ⟨rfl, hb2⟩; have H2 := hid (H.out.below hb2); have HB2 := hid hb2; clear hb2)
        | (go_at_call 11; refine (make_fine H2.out.1 HF.out).mono ?_; rintro e w3 ⟨p, rfl, hd, hb3⟩; have HD := hid hd; have HB3 := hid (below_more HB2.out hb3); clear hd hb3)
        | (go_at_call 12; refine (trie_new HD.out HF.out).mono ?_; rintro e w4 ⟨t, rfl, ht0, hb4⟩; have HT := hid ht0; have HB4 := hid (below_more HB3.out hb4); clear ht0 hb4))
      obtain ⟨A, hA⟩ : ∃ A, A = nodesN (L.map nums) := ⟨_, rfl⟩
      have HT4 : Hid (TrieAt w4 w3.heap.size t A (wordOf (L.map nums))) := by rw [hA]; exact HT.out
      have hfew := HT4.out.few
      have HAE := hid hA
      clear HT HD H2 H HF HB2 HB3 hA
      go_loopw [5, 31] (fun vn vi wr => ∃ n i : Nat, vn = .int .i64 n ∧ vi = .int .i64 i ∧ i ≤ L.length ∧ n ≤ i * 40 ∧ Hid (n = total (L.take i)) ∧ wr = w4) (fun _ vi _ => L.length - (intOf vi).toNat)
      case atStart => exact ⟨0, 0, rfl, rfl, by omega, by omega, by simp [Hid, total], rfl⟩
      case round =>
        obtain ⟨n, i, rfl, rfl, hi, hn40, hn, rfl⟩ := hrel
        by_cases hlt : i < L.length
        · rcases HA.out with h0 | ⟨gb, o, rfl, hgb, hcell⟩
          · omega
          have hcb : wr.cell? ⟨gb, o + i, none⟩ = some (.string (L[i]'hlt)) := by rw [HB4.out.cell (p := ⟨gb, o + i, none⟩) hgb, hcell i hlt, strs_at]
          have hs40 := (HFI.out.2.1 (L[i]'hlt) (List.getElem_mem hlt)).2
          have hnx : Hid (n + (L[i]'hlt).size = total (L.take (i + 1))) := by
            show _ = _
            rw [List.take_succ_eq_append_getElem hlt, total_snoc, hn.out]
          clear hcell
          generalize L[i]'hlt = s at hcb hs40 hnx
          have hx' : (decide ((0 : Int) ≤ (i : Int) ∧ (i : Int) < (L.length : Int))) = true := decide_eq_true ⟨by omega, by omega⟩
          go_wp2
          go_roundw
          case rel => exact ⟨n + s.size, i + 1, by go_num, by go_num, by omega, by omega, hnx.out, by first | rfl | trivial⟩
          case measure => simp [intOf]; omega
        · obtain rfl : i = L.length := by omega
          have hall : L.take L.length = L := List.take_length
          rw [hall] at hn
          clear hall
          go_wp2
          go_loopw [6, 7, 10] (fun vs vw vi wr2 => ∃ s wd i : Nat, vs = .int .i64 s ∧ vw = .int .i64 wd ∧ vi = .int .i64 i ∧ i ≤ A.length ∧ s ≤ i * 256 ∧ wd ≤ i ∧ Hid (s = ((A.take i).map (fun x => (byOf A x).length)).sum) ∧ Hid (wd = (A.take i).countP (fun x => decide (x ∈ L.map nums))) ∧ Hid (Below wr.heap.size wr wr2)) (fun _ _ vi _ => A.length - (intOf vi).toNat)
          case atStart => exact ⟨0, 0, 0, rfl, rfl, rfl, by omega, by omega, by omega, by simp [Hid], by simp [Hid], Below.refl _ _⟩
          case round =>
            obtain ⟨s, wd, j, rfl, rfl, rfl, hj, hs256, hwj, hs, hwd, hb⟩ := hrel
            have hT := hid (HT4.out.below hb.out)
            by_cases hlt2 : j < A.length
            · have hdl : decide ((j : Int) < (A.length : Int)) = true := decide_eq_true (by omega)
              obtain ⟨bl, hbl⟩ : ∃ bl, bl = byOf A (A[j]'hlt2) := ⟨_, rfl⟩
              obtain ⟨m, hm⟩ : ∃ m, m = bl.length := ⟨_, rfl⟩
              have hmb : m ≤ 256 := by rw [hm, hbl]; exact byOf_length A _
              have hris : bl.Pairwise (· < ·) := by rw [hbl]; exact byOf_rising A _
              have hs2 : Hid (s + m = ((A.take (j + 1)).map (fun x => (byOf A x).length)).sum) := by
                show _ = _
                rw [List.take_succ_eq_append_getElem hlt2, List.map_append, List.sum_append, List.map_singleton, List.sum_singleton, ← hs.out, hm, hbl]
              have HBL := hid hbl
              have HM := hid hm
              have HRIS := hid hris
              clear hbl hm hris
              go_wp2_with (first
                | (go_at_call 22; refine (len_trie hT.out).mono ?_; rintro e w5 ⟨rfl, rfl⟩)
                | (go_at_call 16; refine (sons_list hT.out j hlt2 HBL.out HM.out).mono ?_; rintro e w6 ⟨a6, c6, rfl, hR6, _, hb6⟩; have HR6 := hid hR6; have hT6 := hid (hT.out.below hb6); have HB6 := hid (hb.out.trans (hb6.mono hb.out.size)); clear hR6 hb6))
              go_loopw [55] (fun vk wr3 => ∃ k : Nat, vk = .int .i64 k ∧ k ≤ m ∧ Hid (Below w6.heap.size w6 wr3)) (fun vk _ => m - (intOf vk).toNat)
              case atStart => exact ⟨0, rfl, by omega, Below.refl _ _⟩
              case round =>
                obtain ⟨k, rfl, hk, hb3⟩ := hrel
                have HR7 := hid (HR6.out.below hb3.out)
                by_cases hkm : k < m
                · have hx' : (decide ((0 : Int) ≤ (k : Int) ∧ (k : Int) < (m : Int))) = true := decide_eq_true ⟨by omega, by omega⟩
                  by_cases hk0 : k = 0
                  · have hg1 : decide ((0 : Int) < (k : Int)) = false := decide_eq_false (by omega)
                    have hg2 : decide (0 < k) = false := decide_eq_false (by omega)
                    go_wp2
                    go_region
                    all_goals
                      go_wp2
                      go_roundw
                      case rel => exact ⟨k + 1, by go_num, by omega, show Below w6.heap.size w6 _ from hb3.out.drew⟩
                      case measure => simp [intOf]; omega
                  · obtain ⟨q, hq⟩ : ∃ q, q + 1 = k := ⟨k - 1, by omega⟩
                    have hg1 : decide ((0 : Int) < (k : Int)) = true := decide_eq_true (by omega)
                    have hg2 : decide (0 < k) = true := decide_eq_true (by omega)
                    have hq1 : (k : Int) - 1 = (q : Int) := by omega
                    obtain ⟨gb, o, rfl, hgb, hcb⟩ := reads_byte HR7.out HM.out k hkm
                    obtain ⟨gb2, o2, e2, _, hcb2⟩ := reads_byte HR7.out HM.out q (by omega)
                    injection e2 with e2
                    injection e2 with e3 e4 e5
                    subst e3
                    subst e4
                    have hkb : k < bl.length := by rw [← HM.out]; exact hkm
                    have hxy : (bl[q]'(by omega)) < (bl[k]'hkb) := List.pairwise_iff_getElem.1 HRIS.out q k (by omega) hkb (by omega)
                    generalize bl[k]'hkb = y at hcb hxy
                    generalize bl[q]'(by omega) = x at hcb2 hxy
                    have hc1 : decide ((y : Int) ≤ (x : Int)) = false := decide_eq_false (by omega)
                    have hc2 : decide (y ≤ x) = false := decide_eq_false (by omega)
                    have hx2 : (decide ((0 : Int) ≤ (q : Int) ∧ (q : Int) < (m : Int))) = true := decide_eq_true ⟨by omega, by omega⟩
                    go_wp2
                    go_region
                    all_goals
                      go_wp2
                      go_roundw
                      case rel => exact ⟨k + 1, by go_num, by omega, show Below w6.heap.size w6 _ from hb3.out.drew⟩
                      case measure => simp [intOf]; omega
                · obtain rfl : k = m := by omega
                  have hT8 := hid (hT6.out.below hb3.out)
                  have HB8 := hid (HB6.out.trans (hb3.out.mono HB6.out.size))
                  have hcp := hid (countP_snoc A (fun x => decide (x ∈ L.map nums)) j hlt2)
                  by_cases hin : (A[j]'hlt2) ∈ L.map nums
                  · have hg1 : decide ((0 : Int) ≤ wordOf (L.map nums) (A[j]'hlt2)) = true := decide_eq_true ((wordOf_nonneg _ _).2 hin)
                    go_wp2_with (go_at_call 20; refine (word_in hT8.out j hlt2).mono ?_; rintro e w9 ⟨rfl, rfl⟩)
                    go_roundw
                    case rel => exact ⟨s + k, wd + 1, j + 1, by go_num, by go_num, by go_num, by omega, by omega, by omega, hs2.out, by
                      show _ = _
                      rw [hcp.out, ← hwd.out, if_pos (decide_eq_true hin)], HB8.out⟩
                    case measure => simp [intOf]; omega
                  · have hg1 : decide ((0 : Int) ≤ wordOf (L.map nums) (A[j]'hlt2)) = false := decide_eq_false (fun h => hin ((wordOf_nonneg _ _).1 h))
                    go_wp2_with (go_at_call 20; refine (word_in hT8.out j hlt2).mono ?_; rintro e w9 ⟨rfl, rfl⟩)
                    go_roundw
                    case rel => exact ⟨s + k, wd, j + 1, by go_num, by go_num, by go_num, by omega, by omega, by omega, hs2.out, by
                      show _ = _
                      rw [hcp.out, ← hwd.out, if_neg (by simpa using hin)]; rfl, HB8.out⟩
                    case measure => simp [intOf]; omega
            · obtain rfl : j = A.length := by omega
              have hdl : decide ((A.length : Int) < (A.length : Int)) = false := decide_eq_false (by omega)
              have hall : A.take A.length = A := List.take_length
              have e1 : s + 1 = A.length := by
                have := sum_sons A.length A rfl hT.out.nodes hT.out.bytes
                have h2 := hs.out
                rw [hall] at h2
                omega
              have e2 : wd = L.length := by
                have h2 := hwd.out
                rw [hall, count_words A (L.map nums) hT.out.nodes.once (nodup_nums HFI.out.2.2.2) (fun x hx => by rw [HAE.out]; exact nodesN_self _ _ hx), List.length_map] at h2
                exact h2
              have e3 : A.length ≤ n + 1 := by
                have := nodesN_length (L.map nums)
                rw [sum_nums, ← HAE.out] at this
                have := hn.out
                omega
              clear hall
              have hq1 : (s : Int) + 1 = (A.length : Int) := by omega
              have hq2 : decide ((A.length : Int) ≤ (n : Int) + 1) = true := decide_eq_true (by omega)
              subst e2
              go_wp2_with (go_at_call 22; refine (len_trie hT.out).mono ?_; rintro e w5 ⟨rfl, rfl⟩)
              go_ret
              exact ⟨rfl, below_more HB4.out hb.out⟩
    · go_enter Try.func5, Try.ntmps5
      go_wp2_with (first
        | (go_at_call 9; refine (few_any H.out).mono ?_; rintro e w1 ⟨rfl, rfl⟩; rw [hd1])
        | (go_at_call 10; refine (alive_any _).mono ?_; rintro e w2 ⟨rfl, hb2⟩; have H2 := hid (H.out.below hb2))
        | (go_at_call 11; refine (make_bad H2.out.1 hsz.1 (fun s hs => by have := hsz.2 s hs; omega) hL).mono ?_; rintro e w3 ⟨rfl, hb3⟩))
      go_ret
      exact ⟨rfl, below_more hb2 hb3⟩
  · have hd1 : fewB L = false := decide_eq_false hf
    go_enter Try.func5, Try.ntmps5
    go_wp2_with (first
      | (go_at_call 9; refine (few_any H.out).mono ?_; rintro e w1 ⟨rfl, rfl⟩; rw [hd1])
      | (go_at_call 10; refine (alive_any _).mono ?_; rintro e w2 ⟨rfl, hb2⟩))
    go_ret
    exact ⟨rfl, hb2⟩

set_option linter.unusedVariables false
theorem trieCounts_own : ownKnob Try.prog.godebug = none := by kernel_rfl

theorem trieCounts_laidOut : laidOutB Try.prog = true := by kernel_rfl

set_option maxRecDepth 100000 in
theorem trieCounts_lifted (os : Os) (started : os.Started) (H : Type) (enc : TypeId × Value → H) :
    ReturnsInHanded {} Try.checked os 5 .any (Rows.trieCountsSpec.pre6 enc Try.prog Try.f5 Rows.trieCountsRow.domain false) (Rows.trieCountsSpec.post enc Try.prog Try.f5 false true false false) := by
  refine returnsInHanded_of_change_sized (C := Try.checked) trieCounts_own started (by kernel_rfl) Try.func5
    (ChangeSpec.witness6 (enc := enc) (C := Try.checked) false ⟨#[], #[.slice none 0 0], []⟩ 8 (by kernel_rfl) (by kernel_rfl) (by kernel_rfl) (by kernel_rfl)) ?_
  intro W base args ds gs before hval0 hW hcnd hsz0 _
  have hsz : (DataW.weightsEach Try.prog (Try.f5.params.toList ++ Rows.trieCountsSpec.plain.varTypes Try.prog) (ds ++ gs)).all (· ≤ reachBytes) = true := hsz0
  have hval : ∀ (j : Nat) t v, Try.f5.params[j]? = some t → args[j]? = some v → Value.okWide Try.prog W .any base t v := hval0
  have hW' := hW
  obtain ⟨p, q, hA0, hV, rfl, hfz, hnd⟩ := hW
  have hA : DataW.TrodAll enc Try.prog W 0 (fun _ => true) true Try.f5.params.toList args.toList ds p := hA0
  rw [Try.params5] at hA hval hsz
  obtain ⟨v0, vs0, d0, ds0, p0, q0, hargs, rfl, rfl, h0, r0⟩ := trodAll_cons hA
  obtain ⟨rfl, rfl, rfl⟩ := trodAll_nil r0
  obtain rfl : args = #[v0] := by cases args; simp_all
  obtain ⟨rfl, rfl⟩ := trodVars_none hV
  obtain ⟨a0, len0, cap0, rfl⟩ := okWide_slice Try.underlying22 (hval 0 22 v0 rfl rfl)
  have k0 := h0
  have lt0 : ∀ x ∈ p0, x.block < W.heap.size := by obtain ⟨m, hm⟩ := k0; exact DataW.trod_lt m _ _ _ hm
  obtain ⟨z0, w0⟩ := h0.elim (fun _ hf => open_list hf hsz 0 rfl rfl)
  clear hA0 hval0
  refine (counts_walk _ z0 W w0).mono fun e W' ⟨he, bel⟩ => ?_
  subst he
  exact ⟨_, rfl, _, _, _, [], _, [], hW', trodAll_mk1 (shut_bool Try.underlying4 _), (trodAll_cons_mk (Below.trod trieCounts_laidOut (by kernel_rfl) (of_decide_eq_true (by kernel_rfl)) k0 bel lt0) trodAll_mk0), rfl, bel.frame _, fun h => by cases h⟩

/-- THE STATEMENT. -/
theorem trieCounts_holds : Rows.TrieCountsSaid :=
  OpenClaim.holds_of_wide 5 Try.f5 rfl rfl rfl rfl rfl rfl rfl ⟨rfl, rfl, rfl, rfl, rfl⟩ rfl rfl rfl rfl rfl (by kernel_rfl) Try.func5 (by kernel_rfl)
    (of_decide_eq_true (by kernel_rfl)) (by unfold Func.isWrapper; first | (rw [if_pos (by decide +kernel)]; kernel_rfl) | (rw [if_neg (by decide +kernel)]; exact ⟨rfl, rfl⟩))
    (fun os started H enc _ => trieCounts_lifted os started H enc)
#print axioms trieCounts_holds
end Go.Proofs.Ytmoanhlpldimcaa
