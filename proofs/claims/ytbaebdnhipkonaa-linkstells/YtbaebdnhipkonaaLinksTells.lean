/-
  LinksTells: of every dictionary the links answer as the document's own: of each node where one goes on, which phrase ends there, too; all nodes by their depth; of what is no node nothing; lists that were answered are kept, marked, grown. For every list of texts and every number.
-/
import Derived.Test.YtbaebdnhipkonaaAlive8
import Derived.Test.YtbaebdnhipkonaaRefLongest
import Derived.Test.YtbaebdnhipkonaaRefPhrases
import Derived.Test.YtbaebdnhipkonaaNodeCalls
import Derived.Test.YtbaebdnhipkonaaShelfInts
import Derived.Test.YtbaebdnhipkonaaOutMath
import Derived.ChangeOld
import Derived.SizedLaws
namespace Go.Proofs.Ytbaebdnhipkonaa
open Go.ChangeShapes Go.WideShapes Go.ChangeAt Go.RowKit

/-- The order of all nodes of fewer than n bytes. -/
def ordTo (A : List (List Nat)) (n : Nat) : List Nat := (List.range n).flatMap (fun m => (List.range A.length).filter (fun i => decide ((A.getD i []).length = m)))
theorem ordTo_all (A : List (List Nat)) (n : Nat) : ordTo A (n + 1) = orderN A n := rfl
theorem ordTo_zero (A : List (List Nat)) : ordTo A 0 = [] := rfl

/-- Those of n bytes among the first i nodes. -/
def ordAt (A : List (List Nat)) (n i : Nat) : List Nat := (List.range i).filter (fun i => decide ((A.getD i []).length = n))
theorem ordAt_zero (A : List (List Nat)) (n : Nat) : ordAt A n 0 = [] := rfl
theorem ordTo_succ (A : List (List Nat)) (n : Nat) : ordTo A (n + 1) = ordTo A n ++ ordAt A n A.length := by
  unfold ordTo ordAt
  rw [List.range_succ, List.flatMap_append]
  simp
theorem ordAt_in (A : List (List Nat)) (n i : Nat) (h : (A.getD i []).length = n) : ordAt A n (i + 1) = ordAt A n i ++ [i] := by
  unfold ordAt
  rw [List.range_succ, List.filter_append]
  simpa using h
theorem ordAt_out (A : List (List Nat)) (n i : Nat) (h : ¬ (A.getD i []).length = n) : ordAt A n (i + 1) = ordAt A n i := by
  unfold ordAt
  rw [List.range_succ, List.filter_append]
  simpa using h
theorem ordAt_length (A : List (List Nat)) (n i : Nat) : (ordAt A n i).length ≤ i := by
  have := List.length_filter_le (fun i => decide ((A.getD i []).length = n)) (List.range i)
  simpa [ordAt] using this
theorem ordTo_length (A : List (List Nat)) (n : Nat) : (ordTo A n).length ≤ n * A.length := by
  induction n with
  | zero => simp [ordTo]
  | succ n ih =>
    rw [ordTo_succ, List.length_append]
    have := ordAt_length A n A.length
    rw [Nat.succ_mul]
    omega

/-- One text of a list of beginnings. -/
theorem reads_begin {w : World} {a : Option Addr} {n c : Nat} {A : List (List Nat)} (h : Reads w (.slice a n c) (strs (asTexts A))) (hn : n = A.length) (k : Nat) (hk : k < n) : ∃ g o, a = some ⟨g, o, none⟩ ∧ g < w.heap.size ∧ w.cell? ⟨g, o + k, none⟩ = some (.string (bytesOf (txt A k))) := by
  obtain ⟨a2, c2, e, h2⟩ := h
  rw [strs_length, asTexts_length] at e h2
  injection e with e1 e2 e3
  rcases h2 with h0 | ⟨g, o, ea, hg, hc⟩
  · omega
  · refine ⟨g, o, by rw [e1, ea], hg, ?_⟩
    have hkA : k < A.length := by omega
    rw [hc k (by omega), strs_at (asTexts A) k (by rw [asTexts_length]; exact hkA), txt_at hkA]
    simp [asTexts]

set_option maxRecDepth 20000 in
set_option maxHeartbeats 8000000 in
theorem tells_walk (v : Value) (L : List ByteArray) (node : Int) (w : World) (h : ListIn w v L) :
    Calls Try.prog 3 #[v, .int .i64 node] w fun e w' => e = .returned (.bool true) ∧ Below w.heap.size w w' := by
  obtain ⟨i0, hi0, hz0, hz1, hz2⟩ := info_parts Try.infoI
  have H := hid h
  by_cases hf : FewL L
  · have hd1 : fewB L = true := decide_eq_true hf
    have hsz := hf.sizes
    rcases fine_or_bad L with hL | ⟨cd, a0, hL⟩
    · have HF := hid hL
      have hl100 := hL.1
      have htot := hf.2
      clear h hL hsz hf
      go_enter Try.func3, Try.ntmps3
      go_wp2_with (first
        | (go_at_call 7; refine (few_any H.out).mono ?_; rintro e w1 ⟨rfl, rfl⟩; rw [hd1])
        | (go_at_call 8; refine (alive_any _).mono ?_; rintro e w2 ⟨rfl, hb2⟩; have H2 := hid (H.out.below hb2); have HB2 := hid hb2; clear hb2)
        | (go_at_call 9; refine (phrases_fine H2.out.1 HF.out).mono ?_; rintro e w3 ⟨rfl, rfl⟩)
        | (go_at_call 10; refine (makeL_fine H2.out.1 HF.out).mono ?_; rintro e w4 ⟨l, t, rfl, hx4, hb4⟩; have HX := hid hx4; have HL4 := hid (H2.out.1.below hb4); have HB4 := hid (below_more HB2.out hb4); clear hx4 hb4)
        | (go_at_call 11; refine (nodes_any HL4.out (by omega) (by omega)).mono ?_; rintro e w6 ⟨v6, rfl, ho6, hb6⟩; obtain ⟨a6, c6, rfl⟩ := ownsRow_slice ho6; have HO6 := hid ho6; have HB6 := hid hb6; clear ho6 hb6))
      obtain ⟨A, hA⟩ : ∃ A, A = nodesN (L.map nums) := ⟨_, rfl⟩
      obtain ⟨P, hP⟩ : ∃ P, P = L.map nums := ⟨_, rfl⟩
      have HX6 : Hid (LinksAt w6 l t A P (wordOf P)) := by rw [hA, hP]; exact HX.out.later HB6.out
      have HPA : Hid (∀ s ∈ P, s ∈ A) := fun s hs => by rw [hA]; rw [hP] at hs; exact nodesN_self _ _ hs
      have HSH : Hid (∀ x ∈ A, x.length ≤ 40) := fun x hx => by rw [hA] at hx; exact node_short HF.out x hx
      have HP0 : Hid ([] ∉ P) := by rw [hP]; exact phrase_some HF.out
      have hAl : A.length ≤ 1301 := by
        have := nodesN_length (L.map nums)
        rw [sum_nums, ← hA] at this
        omega
      rw [← hA] at HO6 ⊢
      obtain ⟨B0, hT0⟩ := HX6.out.trie
      have HN := hid hT0.nodes
      have HBY := hid hT0.bytes
      have HPE := hid hP
      have HL6 := hid (HL4.out.below HB6.out)
      have HR6 := hid (ownsRow_reads HO6.out)
      have HBW := hid (below_more HB4.out HB6.out)
      generalize hn : A.length = n at HO6 HR6 hAl ⊢
      have HNE := hid hn
      clear HX H2 H HF HB2 hA hP hT0 HL4 HB4 HB6 HO6 hn
      go_loopw [9, 10] (fun vo vm wr => ∃ m : Nat, vm = .int .i64 m ∧ m ≤ 41 ∧ Hid (wr.ownsRow w6.heap.size 3 1 vo (ordTo A m).length (numsI (ordTo A m))) ∧ Hid (Below w6.heap.size w6 wr)) (fun _ vm _ => 41 - (intOf vm).toNat)
      case atStart => exact ⟨0, rfl, by omega, World.ownsRow_nil _ _ _ _, Below.refl _ _⟩
      case round =>
        obtain ⟨m, rfl, hm, hO, hb⟩ := hrel
        by_cases hm40 : m ≤ 40
        · have hd : decide ((m : Int) ≤ 40) = true := decide_eq_true (by omega)
          have hmx : (ordTo A m).length ≤ 60000 := by have := ordTo_length A m; rw [HNE.out] at this; have h3 : m * n ≤ 41 * 1301 := Nat.mul_le_mul (by omega) hAl; omega
          go_wp2
          go_loopw [9, 47] (fun vo vi wr2 => ∃ i : Nat, vi = .int .i64 i ∧ i ≤ n ∧ Hid (wr2.ownsRow w6.heap.size 3 1 vo (ordTo A m ++ ordAt A m i).length (numsI (ordTo A m ++ ordAt A m i))) ∧ Hid (Below w6.heap.size w6 wr2)) (fun _ vi _ => n - (intOf vi).toNat)
          case atStart => exact ⟨0, rfl, by omega, by rw [ordAt_zero, List.append_nil]; exact hO.out, hb.out⟩
          case round =>
            obtain ⟨i, rfl, hi, hO2, hb2⟩ := hrel
            by_cases hlt : i < n
            · obtain ⟨g, o, rfl, hg, hcb⟩ := reads_begin (HR6.out.below hb2.out) HNE.out.symm i hlt
              have hx' : (decide ((0 : Int) ≤ (i : Int) ∧ (i : Int) < (n : Int))) = true := decide_eq_true ⟨by omega, by omega⟩
              have hss : (bytesOf (txt A i)).size = (A.getD i []).length := bytesOf_size _
              generalize hsb : bytesOf (txt A i) = s at hcb hss
              have hol := ordAt_length A m i
              have hs2 := hb2.out.size
              by_cases hin : (A.getD i []).length = m
              · have hq : s.size = m := by omega
                have hq1 : ((s.size : Int) == (m : Int)) = true := by rw [hq]; simp
                have HQ := hid hin
                clear hsb hss hin
                have HAI : Hid (ordTo A m ++ ordAt A m (i + 1) = (ordTo A m ++ ordAt A m i) ++ [i]) := by show _ = _; rw [ordAt_in A m i HQ.out, List.append_assoc]
                have hll : (ordTo A m ++ ordAt A m i).length ≤ 70000 := by rw [List.length_append]; omega
                generalize ordTo A m ++ ordAt A m i = M at hO2 HAI hll
                go_wp2_with (first
                  | (at_builtin; refine wpList_append_reads _ rfl _ _ 31 rfl w6.heap.size 3 i0 (.int .i64 0) 8 Try.underlying31 hi0 hz0 hz1 hz2 rfl _ M.length (numsI M) rfl (hO2.out.alloc _) (.slice (some ⟨wr.heap.size, 0, none⟩) 1 1) [.int .i64 (i : Int)] rfl (reads_built wr #[.int .i64 (i : Int)] _ 1 rfl) (by intro u hu; simp at hu; subst hu; rfl) (by unfold maxLen; simp; omega) (by simp; omega) (by rw [Go.Deep.nblk_alloc]; omega) ?_
                     intro v7 w7 hown7 hgrow7 hat7 hold7
                     have hb7 : Below w6.heap.size w6 w7 := (hb2.out.alloc hb2.out.size _).grown hgrow7 (by rw [Go.Deep.nblk_alloc]; omega) (fun k hk => (hO2.out.lt k hk).1)
                     rw [show numsI M ++ [Value.int .i64 (i : Int)] = numsI (M ++ [i]) by simp [numsI], List.length_singleton] at hown7
                     have HO7 := hid hown7
                     have HB7 := hid hb7
                     clear hown7 hgrow7 hat7 hold7 hb7))
                go_roundw
                case rel => exact ⟨i + 1, by go_num, by omega, by rw [HAI.out, List.length_append, List.length_singleton]; exact HO7.out, HB7.out⟩
                case measure => simp [intOf]; omega
              · have hq : ¬ s.size = m := by omega
                have hq1 : ((s.size : Int) == (m : Int)) = false := by simp; omega
                have HQ := hid hin
                clear hsb hss hin
                go_wp2
                go_roundw
                case rel => exact ⟨i + 1, by go_num, by omega, by rw [ordAt_out A m i HQ.out]; exact hO2.out, hb2.out⟩
                case measure => simp [intOf]; omega
            · have HOm : Hid (wr.ownsRow w6.heap.size 3 1 u9 (ordTo A (m + 1)).length (numsI (ordTo A (m + 1)))) := by
                have h1 := hO2.out
                rw [show i = A.length by rw [HNE.out]; omega, ← ordTo_succ] at h1
                exact h1
              go_wp2
              go_roundw
              case rel => exact ⟨m + 1, by go_num, by omega, HOm.out, hb2.out⟩
              case measure => simp [intOf]; omega
        · have hd : decide ((m : Int) ≤ 40) = false := decide_eq_false (by omega)
          have HO : Hid (wr.ownsRow w6.heap.size 3 1 u9 (orderN A 40).length (numsI (orderN A 40))) := by
            have h1 := hO.out
            rw [show m = 40 + 1 by omega, ordTo_all] at h1
            exact h1
          have HOL : Hid ((orderN A 40).length = n) := by show _ = _; rw [orderN_length A 40 HSH.out]; exact HNE.out
          obtain ⟨a9, c9, e9⟩ := ownsRow_slice HO.out
          have HX7 := hid (HX6.out.later hb.out)
          have HR7 := hid (HR6.out.below hb.out)
          have HL7 := hid (HL6.out.below hb.out)
          have HB7 := hid (below_more HBW.out hb.out)
          clear HX6 HR6 HL6 HBW hb hO
          subst e9
          rw [HOL.out] at HO ⊢
          obtain ⟨w7, rfl⟩ : ∃ w7, w7 = wr := ⟨_, rfl⟩
          go_wp2
          go_loopw [63] (fun vi wr3 => ∃ i : Nat, vi = .int .i64 i ∧ i ≤ n ∧ Hid (Below w7.heap.size w7 wr3)) (fun vi _ => n - (intOf vi).toNat)
          case atStart => exact ⟨0, rfl, by omega, Below.refl _ _⟩
          case round =>
            obtain ⟨i, rfl, hi, hb⟩ := hrel
            by_cases hlt : i < n
            · have hltA : i < A.length := by rw [HNE.out]; exact hlt
              have HRW := hid (fun (W : World) (hW : Below w7.heap.size w7 W) => HR7.out.below hW)
              obtain ⟨g, o, rfl, hg, hcb⟩ := reads_begin (HR7.out.below hb.out) HNE.out.symm i hlt
              have hx' : (decide ((0 : Int) ≤ (i : Int) ∧ (i : Int) < (n : Int))) = true := decide_eq_true ⟨by omega, by omega⟩
              obtain ⟨x, hx⟩ : ∃ x, x = txt A i := ⟨_, rfl⟩
              have hx40 : x.length ≤ 40 := by rw [hx]; exact txt_short HSH.out i
              have HXB : Hid (∀ z ∈ x, z < 256) := by rw [hx]; exact HBY.out _ (txt_mem hltA)
              rw [← hx] at hcb
              obtain ⟨s, hs⟩ : ∃ s, s = bytesOf x := ⟨_, rfl⟩
              rw [← hs] at hcb
              have hss : Hid (s.size = x.length) := by show _ = _; rw [hs, bytesOf_size]
              have hs40 : s.size ≤ 40 := by rw [hss.out]; exact hx40
              have HXE := hid hx
              have HSE := hid hs
              have HFL := hid (fun (W : World) (hW : LinksAt W l t A P (wordOf P)) => fail_in hW i hltA)
              have HOU := hid (fun (W : World) (hW : LinksAt W l t A P (wordOf P)) => out_in hW i hltA)
              clear hx hs
              by_cases hs0 : s.size = 0
              · have hi0' : i = 0 := txt_nil HN.out hltA (by rw [← HXE.out]; exact List.length_eq_zero_iff.1 (by rw [← hss.out]; exact hs0))
                have er : RF A i = 0 := by rw [hi0']; exact RF_zero HN.out
                have eu : RU A P i = 0 := by rw [hi0']; exact RU_zero HN.out P
                rw [er] at HFL
                rw [eu] at HOU
                clear hi0' er eu
                have hb4 := hb
                go_wp2
                refine wp_loop_rounds 1 ?_
                rw [rounds_succ]
                go_wp2_with (first
                  | (go_at_call 14; refine (HFL.out _ (HX7.out.later hb4.out)).mono ?_; rintro e w8 ⟨rfl, q8, hq8⟩; have HX8 : Hid (LinksAt w8 l t A P (wordOf P)) := (by rw [hq8]; exact (HX7.out.later hb4.out).later (drewN_below _ _ _)); have HB8 : Hid (Below w7.heap.size w7 w8) := (by rw [hq8]; exact hb4.out.trans (drewN_below _ _ _)); clear hq8)
                  | (go_at_call 15; refine (HOU.out _ HX8.out).mono ?_; rintro e w9 ⟨rfl, q9, hq9⟩; have HB9 : Hid (Below w7.heap.size w7 w9) := (by rw [hq9]; exact HB8.out.trans (drewN_below _ _ _)); clear hq9))
                go_roundw
                case rel => exact ⟨i + 1, by go_num, by omega, HB9.out⟩
                case measure => simp [intOf]; omega
              · have hsp : 0 < s.size := by omega
                have HLo : Hid (Calls Try.prog 12 #[.slice (some ⟨g, o, none⟩) n c6, .string s, .int .i64 ((s.size : Int) - 1)] wr fun e w' => e = .returned (.int .i64 (RF A i : Int)) ∧ w' = wr) := by
                  have h1 := longest_from HBY.out (nodes_mem0 HN.out) (HRW.out _ hb.out) (by rw [HNE.out]; omega) HSE.out HXB.out (by omega) (s.size - 1) (by omega)
                  rw [show ((s.size - 1 : Nat) : Int) = (s.size : Int) - 1 by omega, show x.length - (s.size - 1) = 1 by rw [← hss.out]; omega, ← failT_long A x (nodes_mem0 HN.out), HXE.out] at h1
                  exact h1
                obtain ⟨r, hr⟩ : ∃ r, r = RF A i := ⟨_, rfl⟩
                obtain ⟨u, hu⟩ : ∃ u, u = RU A P i := ⟨_, rfl⟩
                rw [← hr] at HLo HFL
                rw [← hu] at HOU
                have HU := hid hu
                clear hr hu
                go_wp2_with (go_at_call 12; refine (HLo.out).mono ?_; rintro e w8 ⟨rfl, rfl⟩)
                go_loopw [16, 17] (fun vo vm wr4 => ∃ o4 M : Nat, vo = .int .i64 o4 ∧ vm = .int .i64 ((M : Int) - 1) ∧ M ≤ s.size ∧ Hid ((o4 = 0 ∧ u = idx0 A (outT P (x.drop (x.length - M)))) ∨ (o4 ≠ 0 ∧ o4 = u)) ∧ Hid (Below w7.heap.size w7 wr4)) (fun _ vm _ => (intOf vm).toNat)
                case atStart => exact ⟨0, s.size, rfl, rfl, Nat.le_refl _, .inl ⟨rfl, by rw [hss.out, Nat.sub_self, List.drop_zero, HU.out, HXE.out]; rfl⟩, hb.out⟩
                case round =>
                  obtain ⟨o4, M, rfl, rfl, hM, hz, hb4⟩ := hrel
                  by_cases h1 : M ≤ 1
                  · have hd3 : decide ((1 : Int) ≤ (M : Int) - 1) = false := decide_eq_false (by omega)
                    have hou : o4 = u := by
                      rcases hz.out with ⟨e1, e2⟩ | ⟨_, e2⟩
                      · rw [e1, e2, outT_one P HP0.out _ (by rw [List.length_drop]; have := hss.out; omega)]; rfl
                      · exact e2
                    subst hou
                    go_wp2_with (first
                      | (go_at_call 14; refine (HFL.out _ (HX7.out.later hb4.out)).mono ?_; rintro e w8 ⟨rfl, q8, hq8⟩; have HX8 : Hid (LinksAt w8 l t A P (wordOf P)) := (by rw [hq8]; exact (HX7.out.later hb4.out).later (drewN_below _ _ _)); have HB8 : Hid (Below w7.heap.size w7 w8) := (by rw [hq8]; exact hb4.out.trans (drewN_below _ _ _)); clear hq8)
                      | (go_at_call 15; refine (HOU.out _ HX8.out).mono ?_; rintro e w9 ⟨rfl, q9, hq9⟩; have HB9 : Hid (Below w7.heap.size w7 w9) := (by rw [hq9]; exact HB8.out.trans (drewN_below _ _ _)); clear hq9))
                    go_roundw
                    case rel => exact ⟨i + 1, by go_num, by omega, HB9.out⟩
                    case measure => simp [intOf]; omega
                  · obtain ⟨K, rfl⟩ : ∃ K, M = K + 1 := ⟨M - 1, by omega⟩
                    have e1 : (((K + 1 : Nat) : Int) - 1) = (K : Int) := by omega
                    rw [e1]
                    have hd3 : decide ((1 : Int) ≤ (K : Int)) = true := decide_eq_true (by omega)
                    rcases hz.out with ⟨e2, hzz⟩ | ⟨e2, e3⟩
                    · subst e2
                      have hM2 : K + 1 ≤ x.length := by rw [← hss.out]; exact hM
                      obtain ⟨y, hy⟩ : ∃ y, y = x.drop (x.length - K) := ⟨_, rfl⟩
                      rw [outT_drop P x K hM2, ← hy] at hzz
                      have hyl : y.length = K := by rw [hy, List.length_drop]; omega
                      have hyb : ∀ u ∈ y, u < 256 := fun u hu => HXB.out u (by rw [hy] at hu; exact List.mem_of_mem_drop hu)
                      have hsl : ∀ W : World, (Instr.slice 9 (.string s) (some (.int .i64 ((s.size : Int) - (K : Int)))) none none).run Try.prog W = .ok (.string (bytesOf y)) W := fun W => by
                        have := slice_last x (x.length - K) (by omega) W
                        rw [← hy, ← HSE.out] at this
                        rw [← this, hss.out, Int.ofNat_sub (by omega)]
                      have hFd := find_word (s := bytesOf y) (HL7.out.below hb4.out) (by omega)
                      rw [nums_bytesOf y hyb, ← HPE.out] at hFd
                      have HYE := hid hy
                      clear hy
                      by_cases hm2 : y ∈ P
                      · rw [if_pos hm2] at hzz
                        rw [wordOf, if_pos hm2] at hFd
                        have hyA := HPA.out y hm2
                        have hFn := find_begin HBY.out (HRW.out _ hb4.out) (by rw [HNE.out]; omega) (x := y) hyb
                        rw [wordOf, if_pos hyA] at hFn
                        have hzA : A.idxOf y < A.length := idx_lt hyA
                        have hz0 : A.idxOf y ≠ 0 := fun e => by
                          have h2 := txt_idx hyA
                          rw [e, txt_zero HN.out] at h2
                          rw [← h2] at hyl
                          simp at hyl
                          omega
                        have hzu : A.idxOf y = u := hzz.symm
                        rw [hzu] at hFn hzA hz0
                        generalize P.idxOf y = k at hFd
                        have HFd := hid hFd
                        have HFn := hid hFn
                        have hmax : max (u : Int) 0 = (u : Int) := by omega
                        have g1 : decide ((0 : Int) ≤ (k : Int)) = true := decide_eq_true (by omega)
                        have HZ0 := hid hz0
                        clear hFd hFn hzz hzu e1 hyl hyb hyA hz0
                        go_wp2_with (first
                          | (have _h := later4; go_at_call 13; refine (HFn.out).mono ?_; rintro e w8 ⟨rfl, rfl⟩)
                          | (go_at_call 13; refine (HFd.out).mono ?_; rintro e w8 ⟨rfl, rfl⟩; have later4 : True := trivial))
                        go_roundw
                        case rel => exact ⟨u, K, rfl, by go_num, by omega, .inr ⟨HZ0.out, rfl⟩, hb4.out⟩
                        case measure => simp [intOf]; omega
                      · rw [if_neg hm2] at hzz
                        rw [wordOf, if_neg hm2] at hFd
                        have HFd := hid hFd
                        have HZZ := hid hzz
                        clear hFd hzz e1 hyl hyb
                        go_wp2_with (first
                          | (go_at_call 13; refine (HFd.out).mono ?_; rintro e w8 ⟨rfl, rfl⟩))
                        go_roundw
                        case rel => exact ⟨0, K, rfl, by go_num, by omega, .inl ⟨rfl, by rw [← HYE.out]; exact HZZ.out⟩, hb4.out⟩
                        case measure => simp [intOf]; omega
                    · subst e3
                      have g0 : ¬ ((o4 : Int) = 0) := by omega
                      clear e1
                      go_wp2_with (first
                        | (go_at_call 14; refine (HFL.out _ (HX7.out.later hb4.out)).mono ?_; rintro e w8 ⟨rfl, q8, hq8⟩; have HX8 : Hid (LinksAt w8 l t A P (wordOf P)) := (by rw [hq8]; exact (HX7.out.later hb4.out).later (drewN_below _ _ _)); have HB8 : Hid (Below w7.heap.size w7 w8) := (by rw [hq8]; exact hb4.out.trans (drewN_below _ _ _)); clear hq8)
                        | (go_at_call 15; refine (HOU.out _ HX8.out).mono ?_; rintro e w9 ⟨rfl, q9, hq9⟩; have HB9 : Hid (Below w7.heap.size w7 w9) := (by rw [hq9]; exact HB8.out.trans (drewN_below _ _ _)); clear hq9))
                      go_roundw
                      case rel => exact ⟨i + 1, by go_num, by omega, HB9.out⟩
                      case measure => simp [intOf]; omega
            · obtain rfl : i = n := by omega
              obtain ⟨X, hX⟩ : ∃ X, X = (orderN A 40).map (fun x : Nat => (x : Int)) := ⟨_, rfl⟩
              have hXl : X.length = i := by rw [hX, List.length_map, HOL.out]
              have HXN : Hid (∀ W : World, Below wr.heap.size wr W → LinksAt W l t A P (wordOf P)) := fun W hW => (HX7.out.later hb.out).later hW
              have HRO : Hid (Reads wr (.slice a9 i c9) (nats X)) := by
                rw [hX, ← numsI_nats]
                exact (ownsRow_reads HO.out).below hb.out
              have HORD : Hid (∀ W : World, LinksAt W l t A P (wordOf P) → Calls Try.prog 17 #[.pointer (some ⟨l, 0, none⟩)] W fun e w' => ∃ a c, e = .returned (.slice a i c) ∧ w'.ownsRow W.heap.size 3 1 (.slice a i c) X.length (nats X) ∧ Below W.heap.size W w') := fun W hW => by
                refine (orderL_in hW HSH.out).mono ?_
                rintro e w' ⟨v', rfl, ho, hb'⟩
                rw [HOL.out, numsI_nats, ← hX] at ho
                obtain ⟨a, c, rfl⟩ := ownsRow_slice ho
                exact ⟨a, c, rfl, by rw [hXl]; exact ho, hb'⟩
              have HB0 : Hid (Below wr.heap.size wr (wr.alloc (.cells #[.slice none 0 0, .slice none 0 0, .slice none 0 0, .slice none 0 0, .slice none 0 0, .slice none 0 0, .slice none 0 0, .slice none 0 0, .slice none 0 0, .slice none 0 0] 42))) := (Below.refl _ _).alloc (Nat.le_refl _) _
              have HXL : Hid (X.length ≤ 50000) := by show _ ≤ _; omega
              clear hX
              by_cases h1 : node < 0
              · have g1 : decide ((0 : Int) ≤ node) = false := decide_eq_false (by omega)
                have hnd : node < 0 ∨ (A.length : Int) ≤ node := .inl h1
                go_wp2_with (first
                  | (go_at_call_of 14 (Value.pointer none); refine (fail_none _ 0).mono ?_; rintro e w17 ⟨rfl, q17, hq17⟩; have HB17 : Hid (Below w13.heap.size w13 w17) := (by rw [hq17]; exact HB16.out.trans (drewN_below _ _ _)); clear hq17)
                  | (go_at_call_of 15 (Value.pointer none); refine (out_none _ 0).mono ?_; rintro e w18 ⟨rfl, q18, hq18⟩; have HB18 : Hid (Below w13.heap.size w13 w18) := (by rw [hq18]; exact HB17.out.trans (drewN_below _ _ _)); clear hq18)
                  | (go_at_call_of 17 (Value.pointer none); refine (orderL_none _).mono ?_; rintro e w19 ⟨rfl, rfl⟩)
                  | (go_at_call_of 19 (Value.pointer none); refine (trieL_none _).mono ?_; rintro e w20 ⟨rfl, rfl⟩)
                  | (have _h := lk2; go_at_call 17; refine (HORD.out _ (HXN.out _ HB12.out)).mono ?_; rintro e w13 ⟨a13, c13, rfl, ho13, hb13⟩; have HO13 := hid ho13; have HB13 := hid (below_more HB12.out hb13); have HS13 := hid (HS12.out.below hb13); clear ho13 hb13)
                  | (have _h := lk1; go_at_call 17; refine (HORD.out _ (HXN.out _ HB10.out)).mono ?_; rintro e w11 ⟨a11, c11, rfl, ho11, hb11⟩; have HO11 := hid ho11; have HB11 := hid hb11; clear ho11 hb11)
                  | (go_at_call 17; refine (HORD.out _ (HXN.out _ HB0.out)).mono ?_; rintro e w9 ⟨a9b, c9b, rfl, ho9, hb9⟩; have HO9 := hid ho9; have HB9 := hid hb9; clear ho9 hb9)
                  | (have _h := lk1; go_at_call 16; refine (ShelfI.keep (by omega) HB11.out HS10.out HO11.out HXL.out HSZ10.out).mono ?_; rintro e w12 ⟨rfl, hs12, hr12, hb12, hu12⟩; have HS12 := hid hs12; have HB12 : Hid (Below wr.heap.size wr w12) := ((below_more HB10.out HB11.out).trans hb12); have lk2 : True := trivial; clear hs12 hr12 hb12 hu12)
                  | (go_at_call 16; refine (ShelfI.keep (by omega) HB9.out (shelfI_new wr) HO9.out HXL.out (by rw [Go.Deep.nblk_alloc]; omega)).mono ?_; rintro e w10 ⟨rfl, hs10, hr10, hb10, hu10⟩; have HS10 := hid hs10; have HB10 : Hid (Below wr.heap.size wr w10) := ((below_more HB0.out HB9.out).trans hb10); have HSZ10 : Hid (wr.heap.size ≤ w10.heap.size) := HB10.out.size; have lk1 : True := trivial; clear hs10 hr10 hb10 hu10)
                  | (go_at_call 18; refine (sameInts_any (xs := X) (ys := X) (ownsRow_reads HO13.out) (HRO.out.below HB13.out) (by omega) (by omega)).mono ?_; rintro e w14 ⟨rfl, hb14⟩; rw [show decide (X = X) = true from decide_eq_true rfl]; have HB14 := hid hb14; clear hb14)
                  | (go_at_call 14; refine (fail_out (HXN.out _ (below_more HB13.out HB14.out)) (node) hnd).mono ?_; rintro e w15 ⟨rfl, q15, hq15⟩; have HB15 : Hid (Below w13.heap.size w13 w15) := (by rw [hq15]; exact HB14.out.trans (drewN_below _ _ _)); clear hq15)
                  | (go_at_call 15; refine (out_out (HXN.out _ (below_more HB13.out HB15.out)) (node) hnd).mono ?_; rintro e w16 ⟨rfl, q16, hq16⟩; have HB16 : Hid (Below w13.heap.size w13 w16) := (by rw [hq16]; exact HB15.out.trans (drewN_below _ _ _)); clear hq16)
                  | (go_at_call 20; refine (ShelfI.apart (HS13.out.below HB18.out) (by omega) (Nat.le_trans HB13.out.size HB18.out.size)).mono ?_; rintro e w21 ⟨rfl, hb21⟩; have HB21 := hid hb21; clear hb21))
                go_ret
                exact ⟨rfl, (below_more HB7.out hb.out).trans (Below.mono ((below_more HB13.out HB18.out).trans HB21.out) (below_more HB7.out hb.out).size)⟩
              · by_cases h2 : node < (i : Int)
                · have g1 : decide ((0 : Int) ≤ node) = true := decide_eq_true (by omega)
                  have g2 : decide (node < (i : Int)) = true := decide_eq_true h2
                  have hnd : -1 - node < 0 ∨ (A.length : Int) ≤ -1 - node := .inl (by omega)
                  go_wp2_with (first
                    | (go_at_call_of 14 (Value.pointer none); refine (fail_none _ 0).mono ?_; rintro e w17 ⟨rfl, q17, hq17⟩; have HB17 : Hid (Below w13.heap.size w13 w17) := (by rw [hq17]; exact HB16.out.trans (drewN_below _ _ _)); clear hq17)
                    | (go_at_call_of 15 (Value.pointer none); refine (out_none _ 0).mono ?_; rintro e w18 ⟨rfl, q18, hq18⟩; have HB18 : Hid (Below w13.heap.size w13 w18) := (by rw [hq18]; exact HB17.out.trans (drewN_below _ _ _)); clear hq18)
                    | (go_at_call_of 17 (Value.pointer none); refine (orderL_none _).mono ?_; rintro e w19 ⟨rfl, rfl⟩)
                    | (go_at_call_of 19 (Value.pointer none); refine (trieL_none _).mono ?_; rintro e w20 ⟨rfl, rfl⟩)
                    | (have _h := lk2; go_at_call 17; refine (HORD.out _ (HXN.out _ HB12.out)).mono ?_; rintro e w13 ⟨a13, c13, rfl, ho13, hb13⟩; have HO13 := hid ho13; have HB13 := hid (below_more HB12.out hb13); have HS13 := hid (HS12.out.below hb13); clear ho13 hb13)
                    | (have _h := lk1; go_at_call 17; refine (HORD.out _ (HXN.out _ HB10.out)).mono ?_; rintro e w11 ⟨a11, c11, rfl, ho11, hb11⟩; have HO11 := hid ho11; have HB11 := hid hb11; clear ho11 hb11)
                    | (go_at_call 17; refine (HORD.out _ (HXN.out _ HB0.out)).mono ?_; rintro e w9 ⟨a9b, c9b, rfl, ho9, hb9⟩; have HO9 := hid ho9; have HB9 := hid hb9; clear ho9 hb9)
                    | (have _h := lk1; go_at_call 16; refine (ShelfI.keep (by omega) HB11.out HS10.out HO11.out HXL.out HSZ10.out).mono ?_; rintro e w12 ⟨rfl, hs12, hr12, hb12, hu12⟩; have HS12 := hid hs12; have HB12 : Hid (Below wr.heap.size wr w12) := ((below_more HB10.out HB11.out).trans hb12); have lk2 : True := trivial; clear hs12 hr12 hb12 hu12)
                    | (go_at_call 16; refine (ShelfI.keep (by omega) HB9.out (shelfI_new wr) HO9.out HXL.out (by rw [Go.Deep.nblk_alloc]; omega)).mono ?_; rintro e w10 ⟨rfl, hs10, hr10, hb10, hu10⟩; have HS10 := hid hs10; have HB10 : Hid (Below wr.heap.size wr w10) := ((below_more HB0.out HB9.out).trans hb10); have HSZ10 : Hid (wr.heap.size ≤ w10.heap.size) := HB10.out.size; have lk1 : True := trivial; clear hs10 hr10 hb10 hu10)
                    | (go_at_call 18; refine (sameInts_any (xs := X) (ys := X) (ownsRow_reads HO13.out) (HRO.out.below HB13.out) (by omega) (by omega)).mono ?_; rintro e w14 ⟨rfl, hb14⟩; rw [show decide (X = X) = true from decide_eq_true rfl]; have HB14 := hid hb14; clear hb14)
                    | (go_at_call 14; refine (fail_out (HXN.out _ (below_more HB13.out HB14.out)) (-1 - node) hnd).mono ?_; rintro e w15 ⟨rfl, q15, hq15⟩; have HB15 : Hid (Below w13.heap.size w13 w15) := (by rw [hq15]; exact HB14.out.trans (drewN_below _ _ _)); clear hq15)
                    | (go_at_call 15; refine (out_out (HXN.out _ (below_more HB13.out HB15.out)) (-1 - node) hnd).mono ?_; rintro e w16 ⟨rfl, q16, hq16⟩; have HB16 : Hid (Below w13.heap.size w13 w16) := (by rw [hq16]; exact HB15.out.trans (drewN_below _ _ _)); clear hq16)
                    | (go_at_call 20; refine (ShelfI.apart (HS13.out.below HB18.out) (by omega) (Nat.le_trans HB13.out.size HB18.out.size)).mono ?_; rintro e w21 ⟨rfl, hb21⟩; have HB21 := hid hb21; clear hb21))
                  go_ret
                  exact ⟨rfl, (below_more HB7.out hb.out).trans (Below.mono ((below_more HB13.out HB18.out).trans HB21.out) (below_more HB7.out hb.out).size)⟩
                · have g1 : decide ((0 : Int) ≤ node) = true := decide_eq_true (by omega)
                  have g2 : decide (node < (i : Int)) = false := decide_eq_false h2
                  have hnd : node < 0 ∨ (A.length : Int) ≤ node := .inr (by rw [HNE.out]; omega)
                  go_wp2_with (first
                    | (go_at_call_of 14 (Value.pointer none); refine (fail_none _ 0).mono ?_; rintro e w17 ⟨rfl, q17, hq17⟩; have HB17 : Hid (Below w13.heap.size w13 w17) := (by rw [hq17]; exact HB16.out.trans (drewN_below _ _ _)); clear hq17)
                    | (go_at_call_of 15 (Value.pointer none); refine (out_none _ 0).mono ?_; rintro e w18 ⟨rfl, q18, hq18⟩; have HB18 : Hid (Below w13.heap.size w13 w18) := (by rw [hq18]; exact HB17.out.trans (drewN_below _ _ _)); clear hq18)
                    | (go_at_call_of 17 (Value.pointer none); refine (orderL_none _).mono ?_; rintro e w19 ⟨rfl, rfl⟩)
                    | (go_at_call_of 19 (Value.pointer none); refine (trieL_none _).mono ?_; rintro e w20 ⟨rfl, rfl⟩)
                    | (have _h := lk2; go_at_call 17; refine (HORD.out _ (HXN.out _ HB12.out)).mono ?_; rintro e w13 ⟨a13, c13, rfl, ho13, hb13⟩; have HO13 := hid ho13; have HB13 := hid (below_more HB12.out hb13); have HS13 := hid (HS12.out.below hb13); clear ho13 hb13)
                    | (have _h := lk1; go_at_call 17; refine (HORD.out _ (HXN.out _ HB10.out)).mono ?_; rintro e w11 ⟨a11, c11, rfl, ho11, hb11⟩; have HO11 := hid ho11; have HB11 := hid hb11; clear ho11 hb11)
                    | (go_at_call 17; refine (HORD.out _ (HXN.out _ HB0.out)).mono ?_; rintro e w9 ⟨a9b, c9b, rfl, ho9, hb9⟩; have HO9 := hid ho9; have HB9 := hid hb9; clear ho9 hb9)
                    | (have _h := lk1; go_at_call 16; refine (ShelfI.keep (by omega) HB11.out HS10.out HO11.out HXL.out HSZ10.out).mono ?_; rintro e w12 ⟨rfl, hs12, hr12, hb12, hu12⟩; have HS12 := hid hs12; have HB12 : Hid (Below wr.heap.size wr w12) := ((below_more HB10.out HB11.out).trans hb12); have lk2 : True := trivial; clear hs12 hr12 hb12 hu12)
                    | (go_at_call 16; refine (ShelfI.keep (by omega) HB9.out (shelfI_new wr) HO9.out HXL.out (by rw [Go.Deep.nblk_alloc]; omega)).mono ?_; rintro e w10 ⟨rfl, hs10, hr10, hb10, hu10⟩; have HS10 := hid hs10; have HB10 : Hid (Below wr.heap.size wr w10) := ((below_more HB0.out HB9.out).trans hb10); have HSZ10 : Hid (wr.heap.size ≤ w10.heap.size) := HB10.out.size; have lk1 : True := trivial; clear hs10 hr10 hb10 hu10)
                    | (go_at_call 18; refine (sameInts_any (xs := X) (ys := X) (ownsRow_reads HO13.out) (HRO.out.below HB13.out) (by omega) (by omega)).mono ?_; rintro e w14 ⟨rfl, hb14⟩; rw [show decide (X = X) = true from decide_eq_true rfl]; have HB14 := hid hb14; clear hb14)
                    | (go_at_call 14; refine (fail_out (HXN.out _ (below_more HB13.out HB14.out)) (node) hnd).mono ?_; rintro e w15 ⟨rfl, q15, hq15⟩; have HB15 : Hid (Below w13.heap.size w13 w15) := (by rw [hq15]; exact HB14.out.trans (drewN_below _ _ _)); clear hq15)
                    | (go_at_call 15; refine (out_out (HXN.out _ (below_more HB13.out HB15.out)) (node) hnd).mono ?_; rintro e w16 ⟨rfl, q16, hq16⟩; have HB16 : Hid (Below w13.heap.size w13 w16) := (by rw [hq16]; exact HB15.out.trans (drewN_below _ _ _)); clear hq16)
                    | (go_at_call 20; refine (ShelfI.apart (HS13.out.below HB18.out) (by omega) (Nat.le_trans HB13.out.size HB18.out.size)).mono ?_; rintro e w21 ⟨rfl, hb21⟩; have HB21 := hid hb21; clear hb21))
                  go_ret
                  exact ⟨rfl, (below_more HB7.out hb.out).trans (Below.mono ((below_more HB13.out HB18.out).trans HB21.out) (below_more HB7.out hb.out).size)⟩
    · go_enter Try.func3, Try.ntmps3
      have hc0 : ¬ cd = 0 := bad_code hL
      go_wp2_with (first
        | (go_at_call 7; refine (few_any H.out).mono ?_; rintro e w1 ⟨rfl, rfl⟩; rw [hd1])
        | (go_at_call 8; refine (alive_any _).mono ?_; rintro e w2 ⟨rfl, hb2⟩; have H2 := hid (H.out.below hb2))
        | (go_at_call 9; refine (phrases_bad H2.out.1 hsz.1 (fun s hs => by have := hsz.2 s hs; omega) hL).mono ?_; rintro e w3 ⟨rfl, rfl⟩))
      go_ret
      exact ⟨rfl, hb2⟩
  · have hd1 : fewB L = false := decide_eq_false hf
    go_enter Try.func3, Try.ntmps3
    go_wp2_with (first
      | (go_at_call 7; refine (few_any H.out).mono ?_; rintro e w1 ⟨rfl, rfl⟩; rw [hd1])
      | (go_at_call 8; refine (alive_any _).mono ?_; rintro e w2 ⟨rfl, hb2⟩))
    go_ret
    exact ⟨rfl, hb2⟩

set_option linter.unusedVariables false
theorem linksTells_own : ownKnob Try.prog.godebug = none := by kernel_rfl

theorem linksTells_laidOut : laidOutB Try.prog = true := by kernel_rfl

set_option maxRecDepth 100000 in
theorem linksTells_lifted (os : Os) (started : os.Started) (H : Type) (enc : TypeId × Value → H) :
    ReturnsInHanded {} Try.checked os 3 .any (Rows.linksTellsSpec.pre6 enc Try.prog Try.f3 Rows.linksTellsRow.domain false) (Rows.linksTellsSpec.post enc Try.prog Try.f3 false true false false) := by
  refine returnsInHanded_of_change_sized (C := Try.checked) linksTells_own started (by kernel_rfl) Try.func3
    (ChangeSpec.witness6 (enc := enc) (C := Try.checked) false ⟨#[], #[.slice none 0 0, .int .i64 0], []⟩ 8 (by kernel_rfl) (by kernel_rfl) (by kernel_rfl) (by kernel_rfl)) ?_
  intro W base args ds gs before hval0 hW hcnd hsz0 _
  have hsz : (DataW.weightsEach Try.prog (Try.f3.params.toList ++ Rows.linksTellsSpec.plain.varTypes Try.prog) (ds ++ gs)).all (· ≤ reachBytes) = true := hsz0
  have hval : ∀ (j : Nat) t v, Try.f3.params[j]? = some t → args[j]? = some v → Value.okWide Try.prog W .any base t v := hval0
  have hW' := hW
  obtain ⟨p, q, hA0, hV, rfl, hfz, hnd⟩ := hW
  have hA : DataW.TrodAll enc Try.prog W 0 (fun _ => true) true Try.f3.params.toList args.toList ds p := hA0
  rw [Try.params3] at hA hval hsz
  obtain ⟨v0, vs0, d0, ds0, p0, q0, hargs, rfl, rfl, h0, r0⟩ := trodAll_cons hA
  obtain ⟨v1, vs1, d1, ds1, p1, q1, rfl, rfl, rfl, h1, r1⟩ := trodAll_cons r0
  obtain ⟨rfl, rfl, rfl⟩ := trodAll_nil r1
  obtain rfl : args = #[v0, v1] := by cases args; simp_all
  obtain ⟨rfl, rfl⟩ := trodVars_none hV
  obtain ⟨a0, len0, cap0, rfl⟩ := okWide_slice Try.underlying22 (hval 0 22 v0 rfl rfl)
  have k0 := h0
  have lt0 : ∀ x ∈ p0, x.block < W.heap.size := by obtain ⟨m, hm⟩ := k0; exact DataW.trod_lt m _ _ _ hm
  obtain ⟨z0, w0⟩ := h0.elim (fun _ hf => open_list hf hsz 0 rfl rfl)
  obtain ⟨a1, rfl, rfl, rfl, w1⟩ := open_int Try.underlying3 (hval 1 3 v1 rfl rfl) h1
  clear hA0 hval0
  refine (tells_walk _ z0 a1 W w0).mono fun e W' ⟨he, bel⟩ => ?_
  subst he
  exact ⟨_, rfl, _, _, _, [], _, [], hW', trodAll_mk1 (shut_bool Try.underlying4 _), (trodAll_cons_mk (Below.trod linksTells_laidOut (by kernel_rfl) (of_decide_eq_true (by kernel_rfl)) k0 bel lt0) (trodAll_cons_mk (shut_int Try.underlying3 w1) trodAll_mk0)), rfl, bel.frame _, fun h => by cases h⟩

/-- THE STATEMENT. -/
theorem linksTells_holds : Rows.LinksTellsSaid :=
  OpenClaim.holds_of_wide 3 Try.f3 rfl rfl rfl rfl rfl rfl rfl ⟨rfl, rfl, rfl, rfl, rfl⟩ rfl rfl rfl rfl rfl (by kernel_rfl) Try.func3 (by kernel_rfl)
    (of_decide_eq_true (by kernel_rfl)) (by unfold Func.isWrapper; first | (rw [if_pos (by decide +kernel)]; kernel_rfl) | (rw [if_neg (by decide +kernel)]; exact ⟨rfl, rfl⟩))
    (fun os started H enc _ => linksTells_lifted os started H enc)
#print axioms linksTells_holds
end Go.Proofs.Ytbaebdnhipkonaa
