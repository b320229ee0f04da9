/-
  TrieGrows: with one phrase more the nodes that there were are as they were: their texts, their words; there are no more new ones than that phrase has bytes. For every list of texts and every text.
-/
import Derived.Test.YtmoanhlpldimcaaAlive7
import Derived.ShutString
import Derived.ChangeOld
import Derived.SizedLaws
namespace Go.Proofs.Ytmoanhlpldimcaa
open Go.ChangeShapes Go.WideShapes Go.ChangeAt Go.RowKit
open Go.ChangeMaps (open_string shut_string)

theorem make_or {w : World} {u : Value} {L : List ByteArray} (hu : Reads w u (strs L)) (hln : L.length ≤ 1000000) (hsz : ∀ s ∈ L, s.size ≤ 140737488355328) :
    Calls Try.prog 11 #[u] w fun e w' => ∃ pv, e = .returned (.pointer pv) ∧ (pv = none ∨ ∃ p, pv = some ⟨p, 0, none⟩ ∧ DictAt w' w.heap.size p L ∧ Fine L) ∧ Below w.heap.size w w' := by
  rcases fine_or_bad L with hL | ⟨c, a, hL⟩
  · refine (make_fine hu hL).mono ?_
    rintro e w' ⟨p, rfl, hd, hb⟩
    exact ⟨_, rfl, .inr ⟨p, rfl, hd, hL⟩, hb⟩
  · refine (make_bad hu hln hsz hL).mono ?_
    rintro e w' ⟨rfl, hb⟩
    exact ⟨_, rfl, .inl rfl, hb⟩

theorem grows_length (L : List ByteArray) (s : ByteArray) : (nodesN (L.map nums)).length ≤ (nodesN ((L ++ [s]).map nums)).length ∧ (nodesN ((L ++ [s]).map nums)).length ≤ (nodesN (L.map nums)).length + s.size := by
  rw [List.map_append, List.map_singleton, nodesN_snoc]
  have := addUpto_length (nodesN (L.map nums)) (nums s) (nums s).length
  rw [nums_length] at *
  exact this

theorem grows_at (L : List ByteArray) (s : ByteArray) (i : Nat) (h : i < (nodesN (L.map nums)).length) (h2 : i < (nodesN ((L ++ [s]).map nums)).length) : (nodesN ((L ++ [s]).map nums))[i]'h2 = (nodesN (L.map nums))[i]'h := by
  have hp := nodesN_prefix (L.map nums) ([s].map nums)
  rw [← List.map_append] at hp
  exact (hp.getElem h).symm

theorem grows_word (L : List ByteArray) (s : ByteArray) (x : List Nat) : wordOf (L.map nums) x = wordOf ((L ++ [s]).map nums) x ∨ wordOf (L.map nums) x = -1 := by
  by_cases hx : x ∈ L.map nums
  · left
    unfold wordOf
    rw [if_pos hx, List.map_append, if_pos (List.mem_append_left _ hx), List.idxOf_append, if_pos hx]
  · right
    unfold wordOf
    rw [if_neg hx]

theorem root_word {L : List ByteArray} (hL : Fine L) : wordOf (L.map nums) [] = -1 := by
  unfold wordOf
  rw [if_neg]
  intro h
  obtain ⟨t, ht, e⟩ := List.mem_map.1 h
  have h1 := (((fine_iff L).1 hL).2.1 t ht).1
  have h2 := congrArg List.length e
  rw [nums_length, List.length_nil] at h2
  omega

set_option maxRecDepth 20000 in
set_option maxHeartbeats 4000000 in
theorem grows_walk (v : Value) (L : List ByteArray) (s : ByteArray) (w : World) (h : ListIn w v L) :
    Calls Try.prog 6 #[v, .string s] w fun e w' => e = .returned (.bool true) ∧ Below w.heap.size w w' := by
  obtain ⟨i0, hi0, hz0, hz1, hz2⟩ := info_parts Try.infoStr
  have H := hid h
  by_cases hf : FewL L
  · have hd1 : fewB L = true := decide_eq_true hf
    by_cases hs40 : s.size ≤ 40
    · have hsz := hf.sizes
      have hl110 := hf.1
      have hsz2 : ∀ x ∈ L ++ [s], x.size ≤ 140737488355328 := by
        intro x hx
        rcases List.mem_append.1 hx with h1 | h1
        · have := hsz.2 x h1; omega
        · rw [List.mem_singleton.1 h1]; omega
      have hln2 : (L ++ [s]).length ≤ 1000000 := by rw [List.length_append, List.length_singleton]; omega
      have HZ := hid hsz
      have HZ2 := hid hsz2
      have HLN := hid hln2
      clear hsz hf hsz2 hln2
      obtain ⟨⟨a, ca, rfl, ha⟩, _, _⟩ := h
      rw [strs_length] at *
      have hls := strs_length L
      clear ha
      rcases fine_or_bad L with hF1 | ⟨cd, a0, hF1⟩
      · have HF1 := hid hF1
        rcases fine_or_bad (L ++ [s]) with hF2 | ⟨cd2, a02, hF2⟩
        · have HF2 := hid hF2
          clear hF1 hF2
          go_enter Try.func6, Try.ntmps6
          go_wp2_with (first
            | (go_at_call 9; refine (few_any H.out).mono ?_; rintro e w1 ⟨rfl, rfl⟩; rw [hd1])
            | (go_at_call 10; refine (alive_any _).mono ?_; rintro e w2 ⟨rfl, hb2⟩; have H2 := hid (H.out.below hb2); have HB2 := hid hb2; clear hb2)
            | (have _h := later6; go_at_call 11; refine (make_fine (ownsRow_reads HO6.out) HF2.out).mono ?_; rintro e w7 ⟨p2, rfl, hd2, hb7⟩; have HD2 := hid hd2; clear hd2; have HB7 := hid (below_more HB3.out (HB6.out.trans (hb7.mono HB6.out.size))); have HB37 := hid (HB6.out.trans (hb7.mono HB6.out.size)); clear hb7)
            | (go_at_call 11; refine (make_fine H2.out.1 HF1.out).mono ?_; rintro e w3 ⟨p, rfl, hd, hb3⟩; have HD := hid hd; clear hd; have H3 := hid (H2.out.below hb3).1; have HB3 := hid (below_more HB2.out hb3); clear hb3)
            | (have _h := later; at_builtin; refine wpList_append_reads _ rfl _ _ 22 rfl w3.heap.size 9 i0 (.string ⟨#[]⟩) 16 Try.underlying22 hi0 hz0 hz1 hz2 rfl v5 L.length (strs L) rfl (HO5.out.alloc _) (.slice (some ⟨w5.heap.size, 0, none⟩) 1 1) [.string s] rfl (reads_built w5 #[.string s] _ 1 rfl) (by intro u hu; simp at hu; subst hu; rfl) (by unfold maxLen; simp; omega) (by simp; omega) (by have := HB5.out.size; simp; omega) ?_
               intro v6 w6 hown6 hgrow6 hat6 hold6
               have hs5 := HB5.out.size
               have hb6 : Below w3.heap.size w3 w6 := (HB5.out.alloc HB5.out.size _).grown hgrow6 (by rw [Go.Deep.nblk_alloc]; omega) (fun k hk => (HO5.out.lt k hk).1)
               rw [show strs L ++ [Value.string s] = strs (L ++ [s]) by simp [strs]] at hown6
               have HO6 := hid hown6
               have HB6 := hid hb6
               have later6 : True := trivial
               obtain ⟨a6, c6, rfl⟩ := ownsRow_slice hown6
               clear hown6 hgrow6 hat6 hold6 hb6)
            | (at_builtin; refine wpList_append_reads _ rfl _ _ 22 rfl w3.heap.size 9 i0 (.string ⟨#[]⟩) 16 Try.underlying22 hi0 hz0 hz1 hz2 rfl (.slice none 0 0) 0 [] rfl (World.ownsRow_nil _ _ _ _) (.slice a L.length ca) (strs L) rfl H3.out (strs_one L) (by unfold maxLen; omega) (by omega) (Nat.le_refl _) ?_
               intro v5 w5 hown5 hgrow5 hat5 hold5
               rw [List.nil_append, hls, Nat.zero_add] at hown5
               have hb5 : Below w3.heap.size w3 w5 := (Below.refl _ _).grown hgrow5 (Nat.le_refl _) (fun k hk => by cases hk)
               have HO5 := hid hown5
               have HB5 := hid hb5
               have later : True := trivial
               clear hown5 hgrow5 hat5 hold5 hb5)
            | (have _h := later8; go_at_call 12; refine (trie_new HD2b.out HF2.out).mono ?_; rintro e w9 ⟨ty, rfl, hty, hb9⟩; have HTY := hid hty; have HTX := hid (HTX0.out.below hb9); have HB9 := hid (below_more HB8.out hb9); clear hty hb9)
            | (go_at_call 12; refine (trie_new (HD.out.below HB37.out) HF1.out).mono ?_; rintro e w8 ⟨tx, rfl, htx, hb8⟩; have HTX0 := hid htx; have HD2b := hid (HD2.out.below hb8); have HB8 := hid (below_more HB7.out hb8); have later8 : True := trivial; clear htx hb8))
          have hgl := grows_length L s
          have HAT := hid (grows_at L s)
          have HRW : Hid (wordOf ((L ++ [s]).map nums) [] = -1) := root_word HF2.out
          have HTX2 : Hid (TrieAt w9 w7.heap.size tx (nodesN (L.map nums)) (wordOf (L.map nums))) := HTX.out
          have HTY2 : Hid (TrieAt w9 w8.heap.size ty (nodesN ((L ++ [s]).map nums)) (wordOf ((L ++ [s]).map nums))) := HTY.out
          have HGW := hid (grows_word L s)
          generalize nodesN (L.map nums) = A at hgl HTX2 HAT
          generalize nodesN ((L ++ [s]).map nums) = A2 at hgl HTY2 HAT
          generalize wordOf (L.map nums) = f at HTX2 HGW
          generalize wordOf ((L ++ [s]).map nums) = f2 at HTY2 HRW HGW
          have hfew := HTX2.out.few
          have hfew2 := HTY2.out.few
          have g1 : decide ((A2.length : Int) < (A.length : Int)) = false := decide_eq_false (by omega)
          have g2 : decide ((A.length : Int) + (s.size : Int) < (A2.length : Int)) = false := decide_eq_false (by omega)
          have g3 : decide (A2.length < A.length) = false := decide_eq_false (by omega)
          have HLX := hid (len_trie HTX2.out)
          have HLY := hid (len_trie HTY2.out)
          clear HTX HTY HTX0 HD HD2 HD2b H H2 H3 HO5 HO6 HB5 HB6 HB37 HB7 HB8 HB2 HB3 HZ HZ2
          go_wp2_with (first
            | (go_at_call_of 22 (Value.pointer (some ⟨ty, 0, none⟩)); refine (HLY.out).mono ?_; rintro e w10 ⟨rfl, rfl⟩)
            | (go_at_call_of 22 (Value.pointer (some ⟨tx, 0, none⟩)); refine (HLX.out).mono ?_; rintro e w10 ⟨rfl, rfl⟩))
          go_loopw [9] (fun vi wr => ∃ i : Nat, vi = .int .i64 i ∧ i ≤ A.length ∧ wr = w10) (fun vi _ => A.length - (intOf vi).toNat)
          case atStart => exact ⟨0, rfl, by omega, rfl⟩
          case round =>
            obtain ⟨i, rfl, hi, rfl⟩ := hrel
            by_cases hlt : i < A.length
            · have hd : decide ((i : Int) < (A.length : Int)) = true := decide_eq_true (by omega)
              have hlt2 : i < A2.length := by omega
              have T1 := hid (text_in HTX2.out i hlt)
              have T2 := text_in HTY2.out i hlt2
              have W1 := word_in HTX2.out i hlt
              have W2 := word_in HTY2.out i hlt2
              rw [HAT.out i hlt hlt2] at T2 W2
              have T2 := hid T2
              generalize bytesOf (A[i]'hlt) = z at T1 T2
              generalize A[i]'hlt = x at W1 W2
              have W1 := hid W1
              have W2 := hid W2
              rcases HGW.out x with hw | hw
              · rw [hw] at W1
                generalize f2 x = y at W1 W2
                go_wp2_with (first
                  | (go_at_call 22; refine (HLX.out).mono ?_; rintro e w11 ⟨rfl, rfl⟩)
                  | (go_at_call_of 18 (Value.pointer (some ⟨tx, 0, none⟩)); refine (T1.out).mono ?_; rintro e w11 ⟨rfl, rfl⟩)
                  | (go_at_call_of 18 (Value.pointer (some ⟨ty, 0, none⟩)); refine (T2.out).mono ?_; rintro e w11 ⟨rfl, rfl⟩)
                  | (go_at_call_of 20 (Value.pointer (some ⟨tx, 0, none⟩)); refine (W1.out).mono ?_; rintro e w11 ⟨rfl, rfl⟩)
                  | (go_at_call_of 20 (Value.pointer (some ⟨ty, 0, none⟩)); refine (W2.out).mono ?_; rintro e w11 ⟨rfl, rfl⟩))
                go_roundw
                case rel => exact ⟨i + 1, by go_num, by omega, by first | rfl | trivial⟩
                case measure => simp [intOf]; omega
              · rw [hw] at W1
                generalize f2 x = y at W2
                by_cases hy : (-1 : Int) = y
                · subst hy
                  go_wp2_with (first
                    | (go_at_call 22; refine (HLX.out).mono ?_; rintro e w11 ⟨rfl, rfl⟩)
                    | (go_at_call_of 18 (Value.pointer (some ⟨tx, 0, none⟩)); refine (T1.out).mono ?_; rintro e w11 ⟨rfl, rfl⟩)
                    | (go_at_call_of 18 (Value.pointer (some ⟨ty, 0, none⟩)); refine (T2.out).mono ?_; rintro e w11 ⟨rfl, rfl⟩)
                    | (go_at_call_of 20 (Value.pointer (some ⟨tx, 0, none⟩)); refine (W1.out).mono ?_; rintro e w11 ⟨rfl, rfl⟩)
                    | (go_at_call_of 20 (Value.pointer (some ⟨ty, 0, none⟩)); refine (W2.out).mono ?_; rintro e w11 ⟨rfl, rfl⟩))
                  go_roundw
                  case rel => exact ⟨i + 1, by go_num, by omega, by first | rfl | trivial⟩
                  case measure => simp [intOf]; omega
                · have hne : ((-1 : Int) == y) = false := beq_false_of_ne hy
                  have hne2 : ((-1 : Int) != y) = true := by rw [bne, hne]; rfl
                  have hne3 : decide ((-1 : Int) = y) = false := decide_eq_false hy
                  go_wp2_with (first
                    | (go_at_call 22; refine (HLX.out).mono ?_; rintro e w11 ⟨rfl, rfl⟩)
                    | (go_at_call_of 18 (Value.pointer (some ⟨tx, 0, none⟩)); refine (T1.out).mono ?_; rintro e w11 ⟨rfl, rfl⟩)
                    | (go_at_call_of 18 (Value.pointer (some ⟨ty, 0, none⟩)); refine (T2.out).mono ?_; rintro e w11 ⟨rfl, rfl⟩)
                    | (go_at_call_of 20 (Value.pointer (some ⟨tx, 0, none⟩)); refine (W1.out).mono ?_; rintro e w11 ⟨rfl, rfl⟩)
                    | (go_at_call_of 20 (Value.pointer (some ⟨ty, 0, none⟩)); refine (W2.out).mono ?_; rintro e w11 ⟨rfl, rfl⟩))
                  go_roundw
                  case rel => exact ⟨i + 1, by go_num, by omega, by first | rfl | trivial⟩
                  case measure => simp [intOf]; omega
            · obtain rfl : i = A.length := by omega
              have hd : decide ((A.length : Int) < (A.length : Int)) = false := decide_eq_false (by omega)
              have W0 := word_in HTY2.out 0 HTY2.out.nodes.pos
              have er : A2[0]'HTY2.out.nodes.pos = [] := (List.getElem?_eq_some_iff.1 HTY2.out.nodes.root).2
              rw [er, HRW.out] at W0
              have HW0 : Hid (Calls Try.prog 20 #[.pointer (some ⟨ty, 0, none⟩), .int .i64 0] wr fun e w' => e = .returned (.int .i64 (-1)) ∧ w' = wr) := W0
              clear W0 er
              go_wp2_with (first
                | (go_at_call 22; refine (HLX.out).mono ?_; rintro e w11 ⟨rfl, rfl⟩)
                | (go_at_call 20; refine (HW0.out).mono ?_; rintro e w11 ⟨rfl, rfl⟩))
              go_ret
              exact ⟨rfl, HB9.out⟩
        · have HF2 := hid hF2
          clear hF1 hF2
          go_enter Try.func6, Try.ntmps6
          go_wp2_with (first
            | (go_at_call 9; refine (few_any H.out).mono ?_; rintro e w1 ⟨rfl, rfl⟩; rw [hd1])
            | (go_at_call 10; refine (alive_any _).mono ?_; rintro e w2 ⟨rfl, hb2⟩; have H2 := hid (H.out.below hb2); have HB2 := hid hb2; clear hb2)
            | (have _h := later6; go_at_call 11; refine (make_bad (ownsRow_reads HO6.out) HLN.out HZ2.out HF2.out).mono ?_; rintro e w7 ⟨rfl, hb7⟩; have HB7 := hid (below_more HB3.out (HB6.out.trans (hb7.mono HB6.out.size))); have HB37 := hid (HB6.out.trans (hb7.mono HB6.out.size)); clear hb7)
            | (go_at_call 11; refine (make_fine H2.out.1 HF1.out).mono ?_; rintro e w3 ⟨p, rfl, hd, hb3⟩; have HD := hid hd; clear hd; have H3 := hid (H2.out.below hb3).1; have HB3 := hid (below_more HB2.out hb3); clear hb3)
            | (have _h := later; at_builtin; refine wpList_append_reads _ rfl _ _ 22 rfl w3.heap.size 9 i0 (.string ⟨#[]⟩) 16 Try.underlying22 hi0 hz0 hz1 hz2 rfl v5 L.length (strs L) rfl (HO5.out.alloc _) (.slice (some ⟨w5.heap.size, 0, none⟩) 1 1) [.string s] rfl (reads_built w5 #[.string s] _ 1 rfl) (by intro u hu; simp at hu; subst hu; rfl) (by unfold maxLen; simp; omega) (by simp; omega) (by have := HB5.out.size; simp; omega) ?_
               intro v6 w6 hown6 hgrow6 hat6 hold6
               have hs5 := HB5.out.size
               have hb6 : Below w3.heap.size w3 w6 := (HB5.out.alloc HB5.out.size _).grown hgrow6 (by rw [Go.Deep.nblk_alloc]; omega) (fun k hk => (HO5.out.lt k hk).1)
               rw [show strs L ++ [Value.string s] = strs (L ++ [s]) by simp [strs]] at hown6
               have HO6 := hid hown6
               have HB6 := hid hb6
               have later6 : True := trivial
               obtain ⟨a6, c6, rfl⟩ := ownsRow_slice hown6
               clear hown6 hgrow6 hat6 hold6 hb6)
            | (at_builtin; refine wpList_append_reads _ rfl _ _ 22 rfl w3.heap.size 9 i0 (.string ⟨#[]⟩) 16 Try.underlying22 hi0 hz0 hz1 hz2 rfl (.slice none 0 0) 0 [] rfl (World.ownsRow_nil _ _ _ _) (.slice a L.length ca) (strs L) rfl H3.out (strs_one L) (by unfold maxLen; omega) (by omega) (Nat.le_refl _) ?_
               intro v5 w5 hown5 hgrow5 hat5 hold5
               rw [List.nil_append, hls, Nat.zero_add] at hown5
               have hb5 : Below w3.heap.size w3 w5 := (Below.refl _ _).grown hgrow5 (Nat.le_refl _) (fun k hk => by cases hk)
               have HO5 := hid hown5
               have HB5 := hid hb5
               have later : True := trivial
               clear hown5 hgrow5 hat5 hold5 hb5))
          go_ret
          exact ⟨rfl, HB7.out⟩
      · have HF1 := hid hF1
        rcases fine_or_bad (L ++ [s]) with hF2 | ⟨cd2, a02, hF2⟩
        · have HF2 := hid hF2
          clear hF1 hF2
          go_enter Try.func6, Try.ntmps6
          go_wp2_with (first
            | (go_at_call 9; refine (few_any H.out).mono ?_; rintro e w1 ⟨rfl, rfl⟩; rw [hd1])
            | (go_at_call 10; refine (alive_any _).mono ?_; rintro e w2 ⟨rfl, hb2⟩; have H2 := hid (H.out.below hb2); have HB2 := hid hb2; clear hb2)
            | (have _h := later6; go_at_call 11; refine (make_fine (ownsRow_reads HO6.out) HF2.out).mono ?_; rintro e w7 ⟨p2, rfl, hd2, hb7⟩; have HD2 := hid hd2; clear hd2; have HB7 := hid (below_more HB3.out (HB6.out.trans (hb7.mono HB6.out.size))); have HB37 := hid (HB6.out.trans (hb7.mono HB6.out.size)); clear hb7)
            | (go_at_call 11; refine (make_bad H2.out.1 HZ.out.1 (fun x hx => by have := HZ.out.2 x hx; omega) HF1.out).mono ?_; rintro e w3 ⟨rfl, hb3⟩; have H3 := hid (H2.out.below hb3).1; have HB3 := hid (below_more HB2.out hb3); clear hb3)
            | (have _h := later; at_builtin; refine wpList_append_reads _ rfl _ _ 22 rfl w3.heap.size 9 i0 (.string ⟨#[]⟩) 16 Try.underlying22 hi0 hz0 hz1 hz2 rfl v5 L.length (strs L) rfl (HO5.out.alloc _) (.slice (some ⟨w5.heap.size, 0, none⟩) 1 1) [.string s] rfl (reads_built w5 #[.string s] _ 1 rfl) (by intro u hu; simp at hu; subst hu; rfl) (by unfold maxLen; simp; omega) (by simp; omega) (by have := HB5.out.size; simp; omega) ?_
               intro v6 w6 hown6 hgrow6 hat6 hold6
               have hs5 := HB5.out.size
               have hb6 : Below w3.heap.size w3 w6 := (HB5.out.alloc HB5.out.size _).grown hgrow6 (by rw [Go.Deep.nblk_alloc]; omega) (fun k hk => (HO5.out.lt k hk).1)
               rw [show strs L ++ [Value.string s] = strs (L ++ [s]) by simp [strs]] at hown6
               have HO6 := hid hown6
               have HB6 := hid hb6
               have later6 : True := trivial
               obtain ⟨a6, c6, rfl⟩ := ownsRow_slice hown6
               clear hown6 hgrow6 hat6 hold6 hb6)
            | (at_builtin; refine wpList_append_reads _ rfl _ _ 22 rfl w3.heap.size 9 i0 (.string ⟨#[]⟩) 16 Try.underlying22 hi0 hz0 hz1 hz2 rfl (.slice none 0 0) 0 [] rfl (World.ownsRow_nil _ _ _ _) (.slice a L.length ca) (strs L) rfl H3.out (strs_one L) (by unfold maxLen; omega) (by omega) (Nat.le_refl _) ?_
               intro v5 w5 hown5 hgrow5 hat5 hold5
               rw [List.nil_append, hls, Nat.zero_add] at hown5
               have hb5 : Below w3.heap.size w3 w5 := (Below.refl _ _).grown hgrow5 (Nat.le_refl _) (fun k hk => by cases hk)
               have HO5 := hid hown5
               have HB5 := hid hb5
               have later : True := trivial
               clear hown5 hgrow5 hat5 hold5 hb5))
          go_ret
          exact ⟨rfl, HB7.out⟩
        · have HF2 := hid hF2
          clear hF1 hF2
          go_enter Try.func6, Try.ntmps6
          go_wp2_with (first
            | (go_at_call 9; refine (few_any H.out).mono ?_; rintro e w1 ⟨rfl, rfl⟩; rw [hd1])
            | (go_at_call 10; refine (alive_any _).mono ?_; rintro e w2 ⟨rfl, hb2⟩; have H2 := hid (H.out.below hb2); have HB2 := hid hb2; clear hb2)
            | (have _h := later6; go_at_call 11; refine (make_bad (ownsRow_reads HO6.out) HLN.out HZ2.out HF2.out).mono ?_; rintro e w7 ⟨rfl, hb7⟩; have HB7 := hid (below_more HB3.out (HB6.out.trans (hb7.mono HB6.out.size))); have HB37 := hid (HB6.out.trans (hb7.mono HB6.out.size)); clear hb7)
            | (go_at_call 11; refine (make_bad H2.out.1 HZ.out.1 (fun x hx => by have := HZ.out.2 x hx; omega) HF1.out).mono ?_; rintro e w3 ⟨rfl, hb3⟩; have H3 := hid (H2.out.below hb3).1; have HB3 := hid (below_more HB2.out hb3); clear hb3)
            | (have _h := later; at_builtin; refine wpList_append_reads _ rfl _ _ 22 rfl w3.heap.size 9 i0 (.string ⟨#[]⟩) 16 Try.underlying22 hi0 hz0 hz1 hz2 rfl v5 L.length (strs L) rfl (HO5.out.alloc _) (.slice (some ⟨w5.heap.size, 0, none⟩) 1 1) [.string s] rfl (reads_built w5 #[.string s] _ 1 rfl) (by intro u hu; simp at hu; subst hu; rfl) (by unfold maxLen; simp; omega) (by simp; omega) (by have := HB5.out.size; simp; omega) ?_
               intro v6 w6 hown6 hgrow6 hat6 hold6
               have hs5 := HB5.out.size
               have hb6 : Below w3.heap.size w3 w6 := (HB5.out.alloc HB5.out.size _).grown hgrow6 (by rw [Go.Deep.nblk_alloc]; omega) (fun k hk => (HO5.out.lt k hk).1)
               rw [show strs L ++ [Value.string s] = strs (L ++ [s]) by simp [strs]] at hown6
               have HO6 := hid hown6
               have HB6 := hid hb6
               have later6 : True := trivial
               obtain ⟨a6, c6, rfl⟩ := ownsRow_slice hown6
               clear hown6 hgrow6 hat6 hold6 hb6)
            | (at_builtin; refine wpList_append_reads _ rfl _ _ 22 rfl w3.heap.size 9 i0 (.string ⟨#[]⟩) 16 Try.underlying22 hi0 hz0 hz1 hz2 rfl (.slice none 0 0) 0 [] rfl (World.ownsRow_nil _ _ _ _) (.slice a L.length ca) (strs L) rfl H3.out (strs_one L) (by unfold maxLen; omega) (by omega) (Nat.le_refl _) ?_
               intro v5 w5 hown5 hgrow5 hat5 hold5
               rw [List.nil_append, hls, Nat.zero_add] at hown5
               have hb5 : Below w3.heap.size w3 w5 := (Below.refl _ _).grown hgrow5 (Nat.le_refl _) (fun k hk => by cases hk)
               have HO5 := hid hown5
               have HB5 := hid hb5
               have later : True := trivial
               clear hown5 hgrow5 hat5 hold5 hb5))
          go_ret
          exact ⟨rfl, HB7.out⟩
    · go_enter Try.func6, Try.ntmps6
      go_wp2_with (first
        | (go_at_call 9; refine (few_any H.out).mono ?_; rintro e w1 ⟨rfl, rfl⟩; rw [hd1])
        | (go_at_call 10; refine (alive_any _).mono ?_; rintro e w2 ⟨rfl, hb2⟩))
      go_ret
      exact ⟨rfl, hb2⟩
  · have hd1 : fewB L = false := decide_eq_false hf
    go_enter Try.func6, Try.ntmps6
    go_wp2_with (first
      | (go_at_call 9; refine (few_any H.out).mono ?_; rintro e w1 ⟨rfl, rfl⟩; rw [hd1])
      | (go_at_call 10; refine (alive_any _).mono ?_; rintro e w2 ⟨rfl, hb2⟩))
    go_ret
    exact ⟨rfl, hb2⟩

set_option linter.unusedVariables false
theorem trieGrows_own : ownKnob Try.prog.godebug = none := by kernel_rfl

theorem trieGrows_laidOut : laidOutB Try.prog = true := by kernel_rfl

set_option maxRecDepth 100000 in
theorem trieGrows_lifted (os : Os) (started : os.Started) (H : Type) (enc : TypeId × Value → H) :
    ReturnsInHanded {} Try.checked os 6 .any (Rows.trieGrowsSpec.pre6 enc Try.prog Try.f6 Rows.trieGrowsRow.domain false) (Rows.trieGrowsSpec.post enc Try.prog Try.f6 false true false false) := by
  refine returnsInHanded_of_change_sized (C := Try.checked) trieGrows_own started (by kernel_rfl) Try.func6
    (ChangeSpec.witness6 (enc := enc) (C := Try.checked) false ⟨#[], #[.slice none 0 0, .string ByteArray.empty], []⟩ 8 (by kernel_rfl) (by kernel_rfl) (by kernel_rfl) (by kernel_rfl)) ?_
  intro W base args ds gs before hval0 hW hcnd hsz0 _
  have hsz : (DataW.weightsEach Try.prog (Try.f6.params.toList ++ Rows.trieGrowsSpec.plain.varTypes Try.prog) (ds ++ gs)).all (· ≤ reachBytes) = true := hsz0
  have hval : ∀ (j : Nat) t v, Try.f6.params[j]? = some t → args[j]? = some v → Value.okWide Try.prog W .any base t v := hval0
  have hW' := hW
  obtain ⟨p, q, hA0, hV, rfl, hfz, hnd⟩ := hW
  have hA : DataW.TrodAll enc Try.prog W 0 (fun _ => true) true Try.f6.params.toList args.toList ds p := hA0
  rw [Try.params6] at hA hval hsz
  obtain ⟨v0, vs0, d0, ds0, p0, q0, hargs, rfl, rfl, h0, r0⟩ := trodAll_cons hA
  obtain ⟨v1, vs1, d1, ds1, p1, q1, rfl, rfl, rfl, h1, r1⟩ := trodAll_cons r0
  obtain ⟨rfl, rfl, rfl⟩ := trodAll_nil r1
  obtain rfl : args = #[v0, v1] := by cases args; simp_all
  obtain ⟨rfl, rfl⟩ := trodVars_none hV
  obtain ⟨a0, len0, cap0, rfl⟩ := okWide_slice Try.underlying22 (hval 0 22 v0 rfl rfl)
  have k0 := h0
  have lt0 : ∀ x ∈ p0, x.block < W.heap.size := by obtain ⟨m, hm⟩ := k0; exact DataW.trod_lt m _ _ _ hm
  obtain ⟨z0, w0⟩ := h0.elim (fun _ hf => open_list hf hsz 0 rfl rfl)
  obtain ⟨a1, rfl, rfl, rfl, w1⟩ := open_string Try.underlying9 (hval 1 9 v1 rfl rfl) h1
  clear hA0 hval0
  have s1 : a1.size ≤ 140737488351232 := by have h := sized_string hsz (j := 1) (t := 9) rfl rfl; rw [Array.length_toList] at h; exact h
  refine (grows_walk _ z0 a1 W w0).mono fun e W' ⟨he, bel⟩ => ?_
  subst he
  exact ⟨_, rfl, _, _, _, [], _, [], hW', trodAll_mk1 (shut_bool Try.underlying4 _), (trodAll_cons_mk (Below.trod trieGrows_laidOut (by kernel_rfl) (of_decide_eq_true (by kernel_rfl)) k0 bel lt0) (trodAll_cons_mk (shut_string Try.underlying9 w1) trodAll_mk0)), rfl, bel.frame _, fun h => by cases h⟩

/-- THE STATEMENT. -/
theorem trieGrows_holds : Rows.TrieGrowsSaid :=
  OpenClaim.holds_of_wide 6 Try.f6 rfl rfl rfl rfl rfl rfl rfl ⟨rfl, rfl, rfl, rfl, rfl⟩ rfl rfl rfl rfl rfl (by kernel_rfl) Try.func6 (by kernel_rfl)
    (of_decide_eq_true (by kernel_rfl)) (by unfold Func.isWrapper; first | (rw [if_pos (by decide +kernel)]; kernel_rfl) | (rw [if_neg (by decide +kernel)]; exact ⟨rfl, rfl⟩))
    (fun os started H enc _ => trieGrows_lifted os started H enc)
#print axioms trieGrows_holds
end Go.Proofs.Ytmoanhlpldimcaa
