/-
  DenseTells: each step of each node, laid out, by the document's own longest ends; what differs from the root's; all hits; of what is no node nothing; the lists are apart. For every list of texts, every bytes, every number.
-/
import Derived.Test.YtcbnlhgkihhakaaGreatAlive10
import Derived.Test.YtcbnlhgkihhakaaGreatDense
import Derived.Test.YtcbnlhgkihhakaaGreatRef
import Derived.Test.YtcbnlhgkihhakaaGreatRefHits
import Derived.Test.YtcbnlhgkihhakaaGreatMix
import Derived.Deep.RegionHeld3
import Derived.ShutString
import Derived.ChangeOld
import Derived.SizedLaws
namespace Go.Proofs.YtcbnlhgkihhakaaGreat
open Go.ChangeShapes Go.WideShapes Go.ChangeAt Go.RowKit
open Go.ChangeMaps (open_string shut_string)

theorem few_hits {P : List (List Nat)} (h : ∀ x ∈ P, x.length ≤ 40) (s : ByteArray) (hs : s.size ≤ 1000) : (asHits (hitsT P 0 [] (nums s))).length ≤ 50000 := by
  have := hitsT_few P 40 h (nums s) 0 []
  rw [asHits_length]
  rw [nums_length] at this
  omega

theorem below_drewN {B q : Nat} {w w' : World} (h : Below B w w') : Below B w (w'.drewN q) := h.trans (drewN_below _ _ _)

theorem refHits_zero {w : World} {v : Value} {L : List ByteArray} {P : List (List Nat)} (hv : Reads w v (strs L)) (hl : L.length ≤ 1000) (hP : Hid (P = L.map nums)) (h40 : ∀ x ∈ P, x.length ≤ 40) (b : ByteArray) (hbl : b.size ≤ 1000) :
    Calls Tryz.prog 23 #[v, .string ⟨#[]⟩, .string b, .int .i64 0] w fun e w' => ∃ v', e = .returned v' ∧ ReadsH w' v' (asHits (hitsT P 0 [] (nums b))) ∧ Below w.heap.size w w' :=
  refHits_any hv hl hP.out h40 ⟨#[]⟩ b (by decide) hbl 0 (by decide)

theorem held_more {p q : Prop} (h : p → q) (hp : p) : p ∧ q := ⟨hp, h hp⟩

theorem step_word {A : List (List Nat)} (h : Nodes A) (c : Nat) : max (wordOf A [c]) 0 = (stepN A 0 c : Int) := by
  unfold wordOf
  by_cases hm : [c] ∈ A
  · rw [if_pos hm, stepN_son 0 c (by rw [txt_zero h, List.nil_append]; exact hm), txt_zero h, List.nil_append]
    omega
  · rw [if_neg hm, stepN_root h c (by rw [txt_zero h, List.nil_append]; exact hm)]
    rfl

theorem conv_at (x : Nat) (w : World) (g : Nat) (hg : w.heap[g]? = some (.cells #[.int .u8 (x : Int)] 5 (0, 0))) :
    (convert 44 9 (.slice (some ⟨g, 0, none⟩) 1 1)).run Tryz.prog w = .ok (.string (bytesOf [x])) w := by
  rw [run_convert_bytes_arg (P := Tryz.prog) w 44 5 Tryz.underlying44 Tryz.underlying5 g 0 1 1 [(x : Int)] rfl (fun i hi => by
    have h0 : i = 0 := by simp at hi; omega
    subst h0
    rw [cell_of_row _ _ _ _ _ _ hg]; rfl) 9 Tryz.underlying9]
  rw [show strOfNums [(x : Int)] = bytesOf [x] from bytesOf_strs [x]]

theorem conv_now (x : Nat) (w : World) :
    (convert 44 9 (.slice (some ⟨w.heap.size, 0, none⟩) 1 1)).run Tryz.prog (w.alloc (.cells #[.int .u8 (x : Int)] 5)) = .ok (.string (bytesOf [x])) (w.alloc (.cells #[.int .u8 (x : Int)] 5)) :=
  conv_at x _ _ (heap_alloc_new w _)

theorem conv_drew (x : Nat) (w : World) :
    (convert 44 9 (.slice (some ⟨w.heap.size, 0, none⟩) 1 1)).run Tryz.prog (w.alloc (.cells #[.int .u8 (x : Int)] 5)).drew = .ok (.string (bytesOf [x])) (w.alloc (.cells #[.int .u8 (x : Int)] 5)).drew :=
  conv_at x _ _ (heap_alloc_new w _)

set_option linter.unusedVariables false in
set_option maxRecDepth 20000 in
set_option maxHeartbeats 4000000 in
theorem tells_in (L : List ByteArray) (a : Option Addr) (ca : Nat) (b : ByteArray) (j : Nat) (w : World) (H : Hid (ListIn w (.slice a L.length ca) L)) (hd1 : fewB L = true) (HSZ : Hid (total L ≤ 1300)) (HF : Hid (Fine L)) (hl100 : L.length ≤ 100) (hd30 : decide ((30 : Int) < (L.length : Int)) = false) (hd30b : decide (30 < L.length) = false) (hb100 : b.size ≤ 100) (hdc : decide ((100 : Int) < (b.size : Int)) = false) (hdc2 : decide (100 < b.size) = false) (hj : j < (nodesN (L.map nums)).length) :
    Calls Tryz.prog 3 #[.slice a L.length ca, .string b, .int .i64 (j : Int)] w fun e w' => e = .returned (.bool true) ∧ Below w.heap.size w w' := by
  obtain ⟨A, hA⟩ : ∃ A, A = nodesN (L.map nums) := ⟨_, rfl⟩
  obtain ⟨P, hP⟩ : ∃ P, P = L.map nums := ⟨_, rfl⟩
  obtain ⟨n, hn⟩ : ∃ n, n = A.length := ⟨_, rfl⟩
  have hn9 : n ≤ 1000000 := by rw [hn, hA]; exact nodes_most HF.out
  have HN0 : Hid (0 < n) := by show 0 < n; rw [hn, hA]; exact nodes_some L
  have HBY : Hid (AllBytes A) := by show AllBytes A; rw [hA]; exact allBytes_nodes L
  have HSH : Hid (∀ x ∈ A, x.length ≤ 40) := fun x hx => by rw [hA] at hx; exact node_short HF.out x hx
  rw [← hA, ← hn] at hj
  have HAE := hid hA
  have HPE := hid hP
  have HNE := hid hn
  clear hA hP hn
  have hdj : decide ((j : Int) < (n : Int)) = true := decide_eq_true (by omega)
  go_enter Tryz.func3, Tryz.ntmps3
  go_wp2_with (first
    | (go_at_call 4; refine (few_any H.out).mono ?_; rintro e w1 ⟨rfl, rfl⟩; rw [hd1])
    | (go_at_call 5; refine (alive_any _).mono ?_; rintro e w2 ⟨rfl, hb2⟩; have H2 := hid (H.out.below hb2); have HB2 := hid hb2; clear hb2)
    | (go_at_call 6; refine (phrases_fine H2.out.1 HF.out).mono ?_; rintro e w3 ⟨rfl, rfl⟩)
    | (go_at_call 8; refine (makeL_fine H2.out.1 HF.out).mono ?_; rintro e w4 ⟨l, t, rfl, hx4, hb4⟩; have hr4 := ready_of hx4 HF.out; have HR := hid hr4; have HX := hid hx4; have HL4 := hid (H2.out.1.below hb4); have HB4 := hid (below_more HB2.out hb4); clear hx4 hb4 hr4)
    | (go_at_call 7; refine (newT_in (show LinksAt w4 l t A P (wordOf P) by rw [HAE.out, HPE.out]; exact HX.out) (by rw [HAE.out]; exact HR.out.father)).mono ?_; rintro e w5 ⟨p, rfl, ht5, hp5, hb5⟩; have HB5 := hid (below_more HB4.out hb5); have HL5 := hid (HL4.out.below hb5); obtain ⟨rp, ht55⟩ := ht5.2; have HT5 : Hid (TbAt w5 p l rp n (stepN A)) := (by have h := ht55; rw [← HNE.out] at h; exact h); have HTB := hid ht5; have HR2 : Hid (Ready A P) := (by show Ready A P; rw [HAE.out, HPE.out]; exact HR.out); clear ht5 ht55 hp5 hb5)
    | (go_at_call 9; refine (nodes_any HL5.out (by have := HSZ.out; omega) (by have := HSZ.out; omega)).mono ?_; rintro e w6 ⟨v6, rfl, ho6, hb6⟩; rw [← HAE.out, ← HNE.out] at ho6; obtain ⟨g6, c6, rfl⟩ := ownsRow_slice ho6; have HO6 := hid (ownsRow_reads ho6); have HT6 := hid (HT5.out.later hb6); have HTB6 := hid (HTB.out.later hb6); have HL6 := hid (HL5.out.below hb6); have HB6 := hid (below_more HB5.out hb6); obtain ⟨B, hB⟩ : ∃ B, B = w6.heap.size := ⟨_, rfl⟩; have HBE := hid hB; clear ho6 hb6 hB)
    | (have _h := HO8; go_at_call 10; refine (rowT_in (HT6.out.later HZ8.out) 0 HN0.out).mono ?_; rintro e w9 ⟨v9, rfl, ho9, hb9⟩; obtain ⟨a9, c9, rfl⟩ := ownsRow_slice ho9; have HO9 := hid ho9; have HO89 := hid (ownsRow_below HO8.out hb9); have HB9 := hid (below_more HB8.out hb9); have HZ9 := hid (below_more HZ8.out hb9); have HW89 := hid (Nat.le_trans HB8.out.size (Nat.le_refl _)); clear ho9 hb9)
    | (go_at_call 10; have hmx := mixed_new w6; have hz7 : Below w6.heap.size w6 (w6.alloc (.cells #[.slice none 0 0, .slice none 0 0, .slice none 0 0, .slice none 0 0, .slice none 0 0, .slice none 0 0, .slice none 0 0, .slice none 0 0, .slice none 0 0, .slice none 0 0] 40)) := (Below.refl _ _).alloc (Nat.le_refl _) _; have hs7 : (w6.alloc (.cells #[.slice none 0 0, .slice none 0 0, .slice none 0 0, .slice none 0 0, .slice none 0 0, .slice none 0 0, .slice none 0 0, .slice none 0 0, .slice none 0 0, .slice none 0 0] 40)).heap.size = w6.heap.size + 1 := (by simp); rw [← HBE.out] at hmx hs7 ⊢; generalize w6.alloc (.cells #[.slice none 0 0, .slice none 0 0, .slice none 0 0, .slice none 0 0, .slice none 0 0, .slice none 0 0, .slice none 0 0, .slice none 0 0, .slice none 0 0, .slice none 0 0] 40) = w7 at hmx hz7 hs7 ⊢; refine (rowT_in (HT6.out.later hz7) j hj).mono ?_; rintro e w8 ⟨v8, rfl, ho8, hb8⟩; obtain ⟨a8, c8, rfl⟩ := ownsRow_slice ho8; have HMX := hid hmx; have HS7 := hid hs7; have HO8 := hid ho8; have HB8 := hid hb8; have HZ8 := hid (below_more hz7 hb8); clear hmx hz7 hs7 ho8 hb8)
    | (have _h := laterI; go_at_call 11; refine (MixOff.keepI HM10.out (by decide) (X := ((List.range 256).map (stepN A 0)).map fun x : Nat => (x : Int)) (by rw [nats_nums]; exact HP9.out) (by simp) (by have := HZ10.out.size; have := HBE.out; omega)).mono ?_; rintro e w11 ⟨rfl, hm11, h9, hb11, hr11⟩; have HM11 := hid hm11; rw [nats_nums] at h9; rw [HBE.out] at hb11; have HQ8 := hid (ownsRow_reads (ownsRow_rest HP8.out hr11 (by decide) (by decide))); have HQ9 := hid (ownsRow_reads h9); have HZ11 := hid (HZ10.out.trans hb11); clear hm11 h9 hb11 hr11)
    | (go_at_call 11; refine (Mixed.keepI_off (S := fun _ => False) HMX.out (by decide) (below_kept HB9.out _) (fun _ h => h.elim) (X := ((List.range 256).map (stepN A j)).map fun x : Nat => (x : Int)) (by rw [nats_nums]; exact HO89.out) (ownsRow_lower HO9.out HB8.out.size) (off_later HO8.out HO9.out) (by simp) (by have := HS7.out; omega)).mono ?_; rintro e w10 ⟨rfl, hm10, h8, h9, hb10, hr10⟩; have HM10 := hid hm10; rw [nats_nums] at h8; rw [HBE.out] at hb10; have HP8 := hid h8; have HP9 := hid h9; have HZ10 := hid (HZ9.out.trans hb10); have laterI : True := trivial; clear hm10 h8 h9 hb10 hr10))
  clear HX HR H H2 HB2 HL4 HB4 HL5 HT5 HTB HB5 HMX HS7 HO8 HB8 HZ8 HO9 HO89 HB9 HZ9 HW89 HM10 HP8 HP9 HZ10 laterI _h
  obtain ⟨i0, hi0, hz0, hz1, hz2⟩ := info_parts Tryz.infoOct
  have HA0 : Hid ([] ∈ A) := nodes_mem0 HR2.out.nodes
  have hjA : j < A.length := by have := HNE.out; omega
  obtain ⟨y, hy⟩ : ∃ y, y = txt A j := ⟨_, rfl⟩
  have hyl : y.length ≤ 40 := by rw [hy]; exact txt_short HSH.out j
  have hyb : ∀ z ∈ y, z < 256 := by rw [hy]; exact HBY.out _ (txt_mem hjA)
  have HY := hid hy
  have HYB := hid hyb
  clear hy hyb
  obtain ⟨gn, on, hg6, hgn, hcn⟩ : ∃ gn on, g6 = some ⟨gn, on, none⟩ ∧ gn < w6.heap.size ∧ w6.cell? ⟨gn, on + j, none⟩ = some (.string (bytesOf y)) := by
    obtain ⟨a0, c0, e0, h0⟩ := HO6.out
    rw [strs_length, asTexts_length, ← HNE.out] at e0 h0
    injection e0 with e1 e2 e3
    rcases h0 with h0 | ⟨gn, on, ea, hg, hc⟩
    · omega
    · refine ⟨gn, on, by rw [e1, ea], hg, ?_⟩
      rw [hc j hj, strs_at _ j (by rw [asTexts_length]; exact hjA), HY.out, txt_at hjA]
      simp [asTexts]
  subst hg6
  have HGN := hid hgn
  have HCN := hid hcn
  clear hgn hcn
  have hxj : decide ((0 : Int) ≤ (j : Int) ∧ (j : Int) < (n : Int)) = true := decide_eq_true ⟨by omega, by omega⟩
  go_loopw [14, 15] (fun u vx wr => ∃ x : Nat, vx = .int .i64 x ∧ x ≤ 256 ∧ Hid (wr.ownsRow w11.heap.size 5 1 u (sparseN A j x).length (octs (sparseN A j x))) ∧ Hid (Below w11.heap.size w11 wr)) (fun _ vx _ => 256 - (intOf vx).toNat)
  case atStart => exact ⟨0, rfl, by omega, World.ownsRow_nil _ _ _ _, Below.refl _ _⟩
  case round =>
    obtain ⟨x, rfl, hx, hown, hB⟩ := hrel
    by_cases hlt : x < 256
    · have hcv : (IntKind.u8.wrap (x : Int)) = (x : Int) := by rw [IntKind.wrap_u8]; omega
      have hdx : decide ((x : Int) < 256) = true := decide_eq_true (by omega)
      have HZr := hid (below_more HZ11.out hB.out)
      have hcn2 := HZr.out.cell (p := ⟨gn, on + j, none⟩) HGN.out
      rw [HCN.out] at hcn2
      have hgr : gn < wr.heap.size := Nat.lt_of_lt_of_le HGN.out HZr.out.size
      have HCW : Hid (∀ W, Below wr.heap.size wr W → W.cell? ⟨gn, on + j, none⟩ = some (.string (bytesOf y))) := fun W hW => by rw [hW.cell (p := ⟨gn, on + j, none⟩) hgr]; exact hcn2
      obtain ⟨s, hs⟩ : ∃ s, s = bytesOf (y ++ [x]) := ⟨_, rfl⟩
      have hss : s.size = y.length + 1 := by rw [hs, bytesOf_size]; simp
      have hadd : ∀ W : World, (Op.stringOp .add (bytesOf y) (bytesOf [x])).run Tryz.prog W = .ok (.string s) W := fun W => by
        rw [run_string_add_sum W _ _ (by rw [bytesOf_size, bytesOf_size]; simp; omega), bytesOf_append, hs]
      have hcv1 := conv_now x
      have hcv2 := conv_drew x
      have HS := hid hs
      clear hs
      go_wp2_with fail
      go_region_held_law (fun w' => Below wr.heap.size wr w' ∧ w'.cell? ⟨gn, on + j, none⟩ = some (.string (bytesOf y))) ((go_split_ands; refine held_more (HCW.out _) ?_; (repeat refine Below.drew ?_); first | assumption | exact Below.refl _ _ | (refine Below.alloc ?_ ?_ _ <;> first | assumption | exact Below.refl _ _ | exact Nat.le_refl _ | (exact Below.size (by assumption)) | (simp; done)))) (fail)
      have hBa : Below wr.heap.size wr (wr.alloc (.cells #[.int .u8 (x : Int)] 5)).drew := ((Below.refl _ _).alloc (Nat.le_refl _) _).drew
      generalize (wr.alloc (.cells #[.int .u8 (x : Int)] 5)).drew = wa at *
      have HBa := hid hBa
      have HZa := hid (below_more HZr.out hBa)
      have HB11 := hid (below_more hB.out hBa)
      obtain ⟨m, hm⟩ : ∃ m, m = stepN A j x := ⟨_, rfl⟩
      obtain ⟨r0, hr0⟩ : ∃ r0, r0 = stepN A 0 x := ⟨_, rfl⟩
      obtain ⟨f, hf⟩ : ∃ f, f = wordOf A [x] := ⟨_, rfl⟩
      have hmax : max f 0 = (r0 : Int) := by rw [hf, hr0]; exact step_word HR2.out.nodes x
      have HLO : Hid (∀ W, Below wa.heap.size wa W → Calls Tryz.prog 12 #[.slice (some ⟨gn, on, none⟩) n c6, .string s, .int .i64 (s.size : Int)] W fun e w' => e = .returned (.int .i64 (m : Int)) ∧ w' = W) := fun W hW => by
        have h := longest_from (w := W) HBY.out HA0.out (HO6.out.below (below_more HZa.out hW)) (by have := HNE.out; omega) (x := y ++ [x]) HS.out (by intro z hz; rcases List.mem_append.1 hz with h | h; exact HYB.out z h; simp at h; omega) (by simp; omega) s.size (by omega)
        rw [show (y ++ [x]).length = s.size by rw [hss]; simp, Nat.sub_self, List.drop_zero] at h
        rw [hm, stepN, ← HY.out]
        exact h
      have HGO : Hid (∀ W, Below wa.heap.size wa W → Calls Tryz.prog 13 #[.pointer (some ⟨p, 0, none⟩), .int .i64 (j : Int), .int .u8 (x : Int)] W fun e w' => e = .returned (.int .i64 (m : Int)) ∧ ∃ q, w' = W.drewN q) := fun W hW => by
        rw [hm]
        exact goT_in (HT6.out.later (below_more HZa.out hW)) j hj x hlt
      have HFD : Hid (∀ W, Below wa.heap.size wa W → Calls Tryz.prog 14 #[.slice (some ⟨gn, on, none⟩) n c6, .string (bytesOf [x])] W fun e w' => e = .returned (.int .i64 f) ∧ w' = W) := fun W hW => by
        rw [hf]
        exact find_begin HBY.out (HO6.out.below (below_more HZa.out hW)) (by have := HNE.out; omega) (by intro z hz; simp at hz; omega)
      obtain ⟨g8, o8, h8, hg8, hc8⟩ := reads_int HQ8.out x hlt
      obtain ⟨g9, o9, h9, hg9, hc9⟩ := reads_int HQ9.out x hlt
      rw [← hm] at hc8
      rw [← hr0] at hc9
      have HCL : Hid (∀ W, Below wa.heap.size wa W → W.cell? ⟨g8, o8 + x, none⟩ = some (.int .i64 (m : Int)) ∧ W.cell? ⟨g9, o9 + x, none⟩ = some (.int .i64 (r0 : Int))) := fun W hW => by
        have hW2 := below_more HB11.out hW
        rw [hW2.cell (p := ⟨g8, o8 + x, none⟩) hg8, hW2.cell (p := ⟨g9, o9 + x, none⟩) hg9]
        exact ⟨hc8, hc9⟩
      have hx4 : decide ((0 : Int) ≤ (x : Int) ∧ (x : Int) < 256) = true := decide_eq_true ⟨by omega, by omega⟩
      have HHM := hid hm
      have HSS := hid hss
      have HHR := hid hr0
      subst h8
      subst h9
      clear hm hr0 hf hBa hc8 hc9 hadd hcn2 HCW hcv2 hss
      go_wp2_with (go_at_call 12; refine (HLO.out _ (Below.refl _ _)).mono ?_; rintro e w12 ⟨rfl, rfl⟩)
      obtain ⟨wa, rfl⟩ : ∃ wa, wa = w12 := ⟨_, rfl⟩
      go_region_held_law (fun w' => Below wa.heap.size wa w' ∧ (w'.cell? ⟨g8, o8 + x, none⟩ = some (.int .i64 (m : Int)) ∧ w'.cell? ⟨g9, o9 + x, none⟩ = some (.int .i64 (r0 : Int)))) ((go_split_ands; refine held_more (HCL.out _) ?_; (repeat refine Below.drew ?_); first | assumption | exact Below.refl _ _ | (refine Below.alloc ?_ ?_ _ <;> first | assumption | exact Below.refl _ _ | exact Nat.le_refl _ | (exact Below.size (by assumption)) | (simp; done)))) ((go_split_ands; first
        | (go_at_call 13; refine (HGO.out _ (by assumption)).mono ?_; rintro e w13 ⟨rfl, q13, hq13⟩; have hb13 : Below wa.heap.size wa w13 := (by rw [hq13]; exact below_drewN (by assumption)); clear hq13)
        | (go_at_call 14; refine (HFD.out _ (by assumption)).mono ?_; rintro e w14 ⟨rfl, rfl⟩)))
      generalize w13.alloc (.cells #[.int .u8 (x : Int)] 5) = wf at *
      have hBf : Below wa.heap.size wa wf := by go_split_ands; assumption
      have hcf := HCL.out wf hBf
      have HBf := hid (below_more HB11.out hBf)
      have HOf := hid (ownsRow_below (ownsRow_below hown.out HBa.out) hBf)
      obtain ⟨cf1, cf2⟩ := hcf
      obtain ⟨xs, hxs⟩ : ∃ xs, xs = sparseN A j x := ⟨_, rfl⟩
      have hsl := sparseN_length A j x
      have HSU := hid (sparseN_succ A j x)
      rw [← HHM.out, ← HHR.out, ← hxs] at HSU
      rw [← hxs] at HOf hsl
      clear hown hB HZr hxs hb13 hmax hBf cf1
      clear HGO HFD HLO HCL
      by_cases he : m = r0
      · have hbe : (((m : Int)) == (r0 : Int)) = true := by rw [he]; exact beq_self_eq_true _
        have HR : Hid (sparseN A j (x + 1) = xs) := by show _ = _; rw [HSU.out, if_pos he]
        have hei : ((m : Int)) = (r0 : Int) := by rw [he]
        clear he HSU
        go_wp2
        go_roundw
        case rel => exact ⟨x + 1, by go_num, by omega, by show World.ownsRow _ _ _ _ _ _ _; rw [HR.out]; exact HOf.out, HBf.out⟩
        case measure => simp [intOf]; omega
      · have hbe : (((m : Int)) == (r0 : Int)) = false := beq_false_of_ne (fun h => he (by omega))
        have hbn : (((m : Int)) != (r0 : Int)) = true := by rw [bne, hbe]; rfl
        have hde : decide (m = r0) = false := decide_eq_false he
        have HR : Hid (sparseN A j (x + 1) = xs ++ [x]) := by show _ = _; rw [HSU.out, if_neg he]
        clear he HSU
        go_wp2_with (at_builtin; refine wpList_append_reads _ rfl (.tmp 135) (.tmp 138) 44 rfl w11.heap.size 5 i0 (.int .u8 0) 1 Tryz.underlying44 hi0 hz0 hz1 hz2 rfl u14 xs.length (octs xs) rfl (World.ownsRow.alloc HOf.out _) _ (octs [x]) rfl (reads_built wf #[.int .u8 (x : Int)] 5 1 rfl) (oct_one [x]) (by unfold maxLen; rw [octs_length]; simp; omega) (by rw [octs_length]; simp; omega) (by have := HBf.out.size; simp; omega) ?_; intro v' w3' hown3 hgrow hat hold)
        have HB3 : Hid (Below w11.heap.size w11 w3') := (HBf.out.alloc HBf.out.size _).grown hgrow (by have := HBf.out.size; simp; omega) (fun k hk => (HOf.out.lt k hk).1)
        have HO3 := hid hown3
        clear hown3 hgrow hat hold
        go_roundw
        case rel =>
          refine ⟨x + 1, by go_num, by omega, ?_, HB3.out⟩
          have h1 := HO3.out
          rw [octs_length, show octs [x] = [.int .u8 (x : Int)] from rfl, octs_snoc] at h1
          show World.ownsRow _ _ _ _ _ _ _
          rw [HR.out, List.length_append]
          exact h1
        case measure => simp [intOf]; omega
    · obtain rfl : x = 256 := by omega
      obtain ⟨wq, rfl⟩ : ∃ wq, wq = wr := ⟨_, rfl⟩
      have HZq := hid (below_more HZ11.out hB.out)
      have HMq := hid (HM11.out.below hB.out)
      have HOS := hid hown.out
      have hBq : B ≤ wq.heap.size := by have := HZq.out.size; have := HBE.out; omega
      obtain ⟨xs, hxs⟩ : ∃ xs, xs = sparseN A j 256 := ⟨_, rfl⟩
      have hxl : xs.length ≤ 256 := by rw [hxs]; exact sparseN_length A j 256
      have HXS := hid hxs
      rw [← hxs] at HOS
      clear hxs hown hB HM11 HZ11
      obtain ⟨X, hX⟩ : ∃ X, X = asHits (hitsT P 0 [] (nums b)) := ⟨_, rfl⟩
      have hXl : X.length ≤ 50000 := by rw [hX]; exact few_hits HR2.out.short b (by omega)
      have HXE := hid hX
      clear hX
      go_wp2_with (first
        | (go_at_call_of 13 (Value.pointer none); refine (goT_none _ _ _).mono ?_; rintro e wN1 ⟨rfl, qN1, hN1⟩; have HZN1 := hid (below_more HZK.out (drewN_below _ qN1 _)); have HMN1 := hid (HMK.out.below (drewN_below _ qN1 _)); rw [← hN1] at HZN1 HMN1; clear hN1)
        | (go_at_call_of 20 (Value.pointer none); refine (lenT_none _).mono ?_; rintro e wN2 ⟨rfl, rfl⟩)
        | (go_at_call_of 21 (Value.pointer none); refine (sizeT_none _).mono ?_; rintro e wN3 ⟨rfl, rfl⟩)
        | (go_at_call_of 10 (Value.pointer none); refine (rowT_none _ _).mono ?_; rintro e wN4 ⟨rfl, qN4, hN4⟩; have HZN4 := hid (below_more HZN1.out (drewN_below _ qN4 _)); have HMN4 := hid (HMN1.out.below (drewN_below _ qN4 _)); rw [← hN4] at HZN4 HMN4; clear hN4)
        | (go_at_call_of 15 (Value.pointer none); refine (sparseT_none _ _).mono ?_; rintro e wN5 ⟨rfl, qN5, hN5⟩; have HZN5 := hid (below_more HZN4.out (drewN_below _ qN5 _)); have HMN5 := hid (HMN4.out.below (drewN_below _ qN5 _)); rw [← hN5] at HZN5 HMN5; clear hN5)
        | (go_at_call_of 18 (Value.pointer none); refine (allT_none _ _).mono ?_; rintro e wN6 ⟨rfl, rfl⟩)
        | (go_at_call 24; refine (Mixed.apart HMN5.out (by decide) (by decide) (by decide) (by decide) (by have := HZN5.out.size; have := HBE.out; omega)).mono ?_; rintro e wA ⟨rfl, hbA⟩; rw [HBE.out] at hbA; have HZA := hid (HZN5.out.trans hbA); clear hbA)
        | (go_at_call_of 15 (Value.pointer (some ⟨p, 0, none⟩)); refine (sparseT_in (HT6.out.later HZq.out) j hj).mono ?_; rintro e w20 ⟨v20, rfl, ho20, hb20⟩; rw [← HXS.out] at ho20; have HO20 := hid ho20; have HB20 := hid hb20; have HZ20 := hid (below_more HZq.out hb20); have HOS20 := hid (ownsRow_below HOS.out hb20); clear ho20 hb20)
        | (go_at_call 16; refine (Mixed.keepB (S := fun _ => False) HMq.out (by decide) (below_kept HB20.out _) (fun _ h => h.elim) HO20.out (by omega) hBq).mono ?_; rintro e w21 ⟨rfl, hm21, hr21, hb21, hq21⟩; have HM21 := hid hm21; have HR21 := hid hr21; rw [HBE.out] at hb21; have HZ21 := hid (HZ20.out.trans hb21); have HRS21 := hid (ownsRow_reads (ownsRow_rest HOS20.out hq21 (by decide) (by decide))); clear hm21 hr21 hb21 hq21)
        | (go_at_call 17; refine (sameBytes_any HR21.out HRS21.out (by omega) (by omega)).mono ?_; rintro e w22 ⟨rfl, hb22⟩; have HMJ := hid (HM21.out.below hb22); have HZJ := hid (below_more HZ21.out hb22); clear hb22; rw [decide_eq_true rfl])
        | (go_at_call 18; refine (allT_in (HTB6.out.later HZJ.out) HR2.out.father HR2.out.mem HR2.out.some HR2.out.short b (by omega)).mono ?_; rintro e wH ⟨vH, kH, rfl, hoH, hbH⟩; rw [← HXE.out] at hoH; have HOH := hid hoH; have HBH := hid hbH; have HZH := hid (below_more HZJ.out hbH); clear hoH hbH)
        | (go_at_call 19; refine (Mixed.keepH (S := fun _ => False) HMJ.out (by decide) (below_kept HBH.out _) (fun _ h => h.elim) HOH.out hXl (by have := HZJ.out.size; have := HBE.out; omega)).mono ?_; rintro e wI ⟨rfl, hmI, hrI, hbI, hqI⟩; have HMI := hid hmI; have HRI := hid hrI; rw [HBE.out] at hbI; have HZI := hid (HZH.out.trans hbI); clear hmI hrI hbI hqI)
        | (go_at_call 20; refine (lenT_in (HT6.out.later HZI.out)).mono ?_; rintro e wL ⟨rfl, rfl⟩)
        | (go_at_call 21; refine (sizeT_in (HT6.out.later HZI.out) hn9).mono ?_; rintro e wS ⟨rfl, rfl⟩)
        | (go_at_call 23; refine (refHits_zero (HL6.out.below HZI.out) (by omega) HPE HR2.out.short b (by omega)).mono ?_; rintro e wR ⟨vR, rfl, hrR, hbR⟩; rw [← HXE.out] at hrR; have HRR := hid hrR; have HRX := hid (HRI.out.below hbR); have HMR := hid (HMI.out.below hbR); have HZR := hid (below_more HZI.out hbR); clear hrR hbR)
        | (go_at_call 22; refine (sameHits_any HRX.out HRR.out (by omega) (by omega)).mono ?_; rintro e wK ⟨rfl, hbK⟩; have HMK := hid (HMR.out.below hbK); have HZK := hid (below_more HZR.out hbK); clear hbK; rw [decide_eq_true rfl]))
      go_ret
      exact ⟨by simp, below_more HB6.out HZA.out⟩

set_option linter.unusedVariables false in
set_option maxRecDepth 20000 in
set_option maxHeartbeats 4000000 in
theorem tells_out (L : List ByteArray) (a : Option Addr) (ca : Nat) (b : ByteArray) (a2 : Int) (w : World) (H : Hid (ListIn w (.slice a L.length ca) L)) (hd1 : fewB L = true) (HSZ : Hid (total L ≤ 1300)) (HF : Hid (Fine L)) (hl100 : L.length ≤ 100) (hd30 : decide ((30 : Int) < (L.length : Int)) = false) (hd30b : decide (30 < L.length) = false) (hb100 : b.size ≤ 100) (hdc : decide ((100 : Int) < (b.size : Int)) = false) (hdc2 : decide (100 < b.size) = false) (hj : a2 < 0 ∨ ((nodesN (L.map nums)).length : Int) ≤ a2) :
    Calls Tryz.prog 3 #[.slice a L.length ca, .string b, .int .i64 a2] w fun e w' => e = .returned (.bool true) ∧ Below w.heap.size w w' := by
  obtain ⟨A, hA⟩ : ∃ A, A = nodesN (L.map nums) := ⟨_, rfl⟩
  obtain ⟨P, hP⟩ : ∃ P, P = L.map nums := ⟨_, rfl⟩
  obtain ⟨n, hn⟩ : ∃ n, n = A.length := ⟨_, rfl⟩
  have hn9 : n ≤ 1000000 := by rw [hn, hA]; exact nodes_most HF.out
  have HN0 : Hid (0 < n) := by show 0 < n; rw [hn, hA]; exact nodes_some L
  have HBY : Hid (AllBytes A) := by show AllBytes A; rw [hA]; exact allBytes_nodes L
  have HSH : Hid (∀ x ∈ A, x.length ≤ 40) := fun x hx => by rw [hA] at hx; exact node_short HF.out x hx
  rw [← hA, ← hn] at hj
  have HPS : Hid (∀ x ∈ P, x.length ≤ 40) := fun x hx => by rw [hP] at hx; obtain ⟨s, hs, rfl⟩ := List.mem_map.1 hx; rw [nums_length]; exact (((fine_iff L).1 HF.out).2.1 s hs).2
  have HAE := hid hA
  have HPE := hid hP
  have HNE := hid hn
  clear hA hP hn
  rcases (show a2 < 0 ∨ (0 ≤ a2 ∧ (n : Int) ≤ a2) by omega) with h0 | ⟨h0, h1⟩
  all_goals
    obtain ⟨X, hX⟩ : ∃ X, X = asHits (hitsT P 0 [] (nums b)) := ⟨_, rfl⟩
    have hXl : X.length ≤ 50000 := by rw [hX]; exact few_hits HPS.out b (by omega)
    have HXE := hid hX
    clear hX
    first
    | have hd0 : decide ((0 : Int) ≤ a2) = false := decide_eq_false (by omega)
    | (have hd0 : decide ((0 : Int) ≤ a2) = true := decide_eq_true (by omega); have hd0' : decide (a2 < (n : Int)) = false := decide_eq_false (by omega))
    go_enter Tryz.func3, Tryz.ntmps3
    go_wp2_with (first
      | (go_at_call_of 13 (Value.pointer none); refine (goT_none _ _ _).mono ?_; rintro e wN1 ⟨rfl, qN1, hN1⟩; have HZN1 := hid (below_more HZK.out (drewN_below _ qN1 _)); have HMN1 := hid (HMK.out.below (drewN_below _ qN1 _)); rw [← hN1] at HZN1 HMN1; clear hN1)
      | (go_at_call_of 20 (Value.pointer none); refine (lenT_none _).mono ?_; rintro e wN2 ⟨rfl, rfl⟩)
      | (go_at_call_of 21 (Value.pointer none); refine (sizeT_none _).mono ?_; rintro e wN3 ⟨rfl, rfl⟩)
      | (go_at_call_of 10 (Value.pointer none); refine (rowT_none _ _).mono ?_; rintro e wN4 ⟨rfl, qN4, hN4⟩; have HZN4 := hid (below_more HZN1.out (drewN_below _ qN4 _)); have HMN4 := hid (HMN1.out.below (drewN_below _ qN4 _)); rw [← hN4] at HZN4 HMN4; clear hN4)
      | (go_at_call_of 15 (Value.pointer none); refine (sparseT_none _ _).mono ?_; rintro e wN5 ⟨rfl, qN5, hN5⟩; have HZN5 := hid (below_more HZN4.out (drewN_below _ qN5 _)); have HMN5 := hid (HMN4.out.below (drewN_below _ qN5 _)); rw [← hN5] at HZN5 HMN5; clear hN5)
      | (go_at_call_of 18 (Value.pointer none); refine (allT_none _ _).mono ?_; rintro e wN6 ⟨rfl, rfl⟩)
      | (go_at_call 24; refine (Mixed.apart HMN5.out (by decide) (by decide) (by decide) (by decide) (by have := HZN5.out.size; have := HBE.out; omega)).mono ?_; rintro e wA ⟨rfl, hbA⟩; rw [HBE.out] at hbA; have HZA := hid (HZN5.out.trans hbA); clear hbA)
      | (go_at_call_of 10 (Value.pointer (some ⟨p, 0, none⟩)); refine (rowT_out (HT6.out.later HZ8.out) a2 hj).mono ?_; rintro e w9 ⟨rfl, q9, hq9⟩; have HM9 := hid (HM8.out.below (drewN_below _ q9 _)); have HZ9 := hid (below_more HZ8.out (drewN_below _ q9 _)); rw [← hq9] at HM9 HZ9; clear hq9)
      | (go_at_call_of 15 (Value.pointer (some ⟨p, 0, none⟩)); refine (sparseT_out (HT6.out.later HZ9.out) a2 hj).mono ?_; rintro e w10 ⟨rfl, q10, hq10⟩; have HMJ := hid (HM9.out.below (drewN_below _ q10 _)); have HZJ := hid (below_more HZ9.out (drewN_below _ q10 _)); rw [← hq10] at HMJ HZJ; clear hq10)
      | (go_at_call 18; refine (allT_in (HTB6.out.later HZJ.out) HR2.out.father HR2.out.mem HR2.out.some HR2.out.short b (by omega)).mono ?_; rintro e wH ⟨vH, kH, rfl, hoH, hbH⟩; rw [← HXE.out] at hoH; have HOH := hid hoH; have HBH := hid hbH; have HZH := hid (below_more HZJ.out hbH); clear hoH hbH)
      | (go_at_call 19; refine (Mixed.keepH (S := fun _ => False) HMJ.out (by decide) (below_kept HBH.out _) (fun _ h => h.elim) HOH.out hXl (by have := HZJ.out.size; have := HBE.out; omega)).mono ?_; rintro e wI ⟨rfl, hmI, hrI, hbI, hqI⟩; have HMI := hid hmI; have HRI := hid hrI; rw [HBE.out] at hbI; have HZI := hid (HZH.out.trans hbI); clear hmI hrI hbI hqI)
      | (go_at_call 20; refine (lenT_in (HT6.out.later HZI.out)).mono ?_; rintro e wL ⟨rfl, rfl⟩)
      | (go_at_call 21; refine (sizeT_in (HT6.out.later HZI.out) hn9).mono ?_; rintro e wS ⟨rfl, rfl⟩)
      | (go_at_call 23; refine (refHits_zero (HL6.out.below HZI.out) (by omega) HPE HR2.out.short b (by omega)).mono ?_; rintro e wR ⟨vR, rfl, hrR, hbR⟩; rw [← HXE.out] at hrR; have HRR := hid hrR; have HRX := hid (HRI.out.below hbR); have HMR := hid (HMI.out.below hbR); have HZR := hid (below_more HZI.out hbR); clear hrR hbR)
      | (go_at_call 22; refine (sameHits_any HRX.out HRR.out (by omega) (by omega)).mono ?_; rintro e wK ⟨rfl, hbK⟩; have HMK := hid (HMR.out.below hbK); have HZK := hid (below_more HZR.out hbK); clear hbK; rw [decide_eq_true rfl])
      | (go_at_call 4; refine (few_any H.out).mono ?_; rintro e w1 ⟨rfl, rfl⟩; rw [hd1])
      | (go_at_call 5; refine (alive_any _).mono ?_; rintro e w2 ⟨rfl, hb2⟩; have H2 := hid (H.out.below hb2); have HB2 := hid hb2; clear hb2)
      | (go_at_call 6; refine (phrases_fine H2.out.1 HF.out).mono ?_; rintro e w3 ⟨rfl, rfl⟩)
      | (go_at_call 8; refine (makeL_fine H2.out.1 HF.out).mono ?_; rintro e w4 ⟨l, t, rfl, hx4, hb4⟩; have hr4 := ready_of hx4 HF.out; have HR := hid hr4; have HX := hid hx4; have HL4 := hid (H2.out.1.below hb4); have HB4 := hid (below_more HB2.out hb4); clear hx4 hb4 hr4)
      | (go_at_call 7; refine (newT_in (show LinksAt w4 l t A P (wordOf P) by rw [HAE.out, HPE.out]; exact HX.out) (by rw [HAE.out]; exact HR.out.father)).mono ?_; rintro e w5 ⟨p, rfl, ht5, hp5, hb5⟩; have HB5 := hid (below_more HB4.out hb5); have HL5 := hid (HL4.out.below hb5); obtain ⟨rp, ht55⟩ := ht5.2; have HT5 : Hid (TbAt w5 p l rp n (stepN A)) := (by have h := ht55; rw [← HNE.out] at h; exact h); have HTB := hid ht5; have HR2 : Hid (Ready A P) := (by show Ready A P; rw [HAE.out, HPE.out]; exact HR.out); clear ht5 ht55 hp5 hb5)
      | (go_at_call 9; refine (nodes_any HL5.out (by have := HSZ.out; omega) (by have := HSZ.out; omega)).mono ?_; rintro e w6 ⟨v6, rfl, ho6, hb6⟩; rw [← HAE.out, ← HNE.out] at ho6; obtain ⟨g6, c6, rfl⟩ := ownsRow_slice ho6; have HO6 := hid (ownsRow_reads ho6); have HT6 := hid (HT5.out.later hb6); have HTB6 := hid (HTB.out.later hb6); have HL6 := hid (HL5.out.below hb6); have HB6 := hid (below_more HB5.out hb6); obtain ⟨B, hB⟩ : ∃ B, B = w6.heap.size := ⟨_, rfl⟩; have HBE := hid hB; clear ho6 hb6 hB)
      | (go_at_call 13; have hmx := mixed_new w6; have hz7 : Below w6.heap.size w6 (w6.alloc (.cells #[.slice none 0 0, .slice none 0 0, .slice none 0 0, .slice none 0 0, .slice none 0 0, .slice none 0 0, .slice none 0 0, .slice none 0 0, .slice none 0 0, .slice none 0 0] 40)) := (Below.refl _ _).alloc (Nat.le_refl _) _; rw [← HBE.out] at hmx ⊢; generalize w6.alloc (.cells #[.slice none 0 0, .slice none 0 0, .slice none 0 0, .slice none 0 0, .slice none 0 0, .slice none 0 0, .slice none 0 0, .slice none 0 0, .slice none 0 0, .slice none 0 0] 40) = w7 at hmx hz7 ⊢; refine (goT_out (HT6.out.later hz7) a2 hj _).mono ?_; rintro e w8 ⟨rfl, q8, hq8⟩; have HM8 := hid (hmx.below (drewN_below _ q8 _)); have HZ8 := hid (below_more hz7 (drewN_below _ q8 _)); rw [← hq8] at HM8 HZ8; clear hmx hz7 hq8))
    go_ret
    exact ⟨by simp, below_more HB6.out HZA.out⟩

set_option maxRecDepth 20000 in
set_option maxHeartbeats 4000000 in
theorem tells_walk (v : Value) (L : List ByteArray) (b : ByteArray) (a2 : Int) (w : World) (h : ListIn w v L) :
    Calls Tryz.prog 3 #[v, .string b, .int .i64 a2] w fun e w' => e = .returned (.bool true) ∧ Below w.heap.size w w' := by
  have H := hid h
  obtain ⟨⟨a, ca, rfl, ha⟩, hq2, hq3⟩ := h
  rw [strs_length] at *
  clear ha hq2 hq3
  by_cases hf : FewL L
  · have hd1 : fewB L = true := decide_eq_true hf
    have hsz := hf.sizes
    have HSZ := hid hf.2
    by_cases hcond : L.length ≤ 30 ∧ b.size ≤ 100
    · have hd30 : decide ((30 : Int) < (L.length : Int)) = false := decide_eq_false (by omega)
      have hd30b : decide (30 < L.length) = false := decide_eq_false (by omega)
      have hdc : decide ((100 : Int) < (b.size : Int)) = false := decide_eq_false (by omega)
      have hdc2 : decide (100 < b.size) = false := decide_eq_false (by omega)
      rcases fine_or_bad L with hL | ⟨cd, a0, hL⟩
      · have HF := hid hL
        have hl100 := hL.1
        clear hL hsz hf
        rcases (show (∃ j : Nat, a2 = (j : Int) ∧ j < (nodesN (L.map nums)).length) ∨ (a2 < 0 ∨ ((nodesN (L.map nums)).length : Int) ≤ a2) by
            by_cases h1 : a2 < 0
            · exact .inr (.inl h1)
            · by_cases h2 : ((nodesN (L.map nums)).length : Int) ≤ a2
              · exact .inr (.inr h2)
              · exact .inl ⟨a2.toNat, by omega, by omega⟩) with ⟨j, rfl, hj⟩ | hj
        · exact tells_in L a ca b j w H hd1 HSZ HF hl100 hd30 hd30b hcond.2 hdc hdc2 hj
        · exact tells_out L a ca b a2 w H hd1 HSZ HF hl100 hd30 hd30b hcond.2 hdc hdc2 hj
      · go_enter Tryz.func3, Tryz.ntmps3
        have hc0 : ¬ cd = 0 := bad_code hL
        go_wp2_with (first
          | (go_at_call 4; refine (few_any H.out).mono ?_; rintro e w1 ⟨rfl, rfl⟩; rw [hd1])
          | (go_at_call 5; refine (alive_any _).mono ?_; rintro e w2 ⟨rfl, hb2⟩; have H2 := hid (H.out.below hb2))
          | (go_at_call 6; refine (phrases_bad H2.out.1 hsz.1 (fun s hs => by have := hsz.2 s hs; omega) hL).mono ?_; rintro e w3 ⟨rfl, rfl⟩))
        go_ret
        exact ⟨rfl, hb2⟩
    · rcases (show 30 < L.length ∨ (L.length ≤ 30 ∧ 100 < b.size) by omega) with h1 | ⟨h1, h2⟩
      all_goals
        go_enter Tryz.func3, Tryz.ntmps3
        go_wp2_with (first
          | (go_at_call 4; refine (few_any H.out).mono ?_; rintro e w1 ⟨rfl, rfl⟩; rw [hd1])
          | (go_at_call 5; refine (alive_any _).mono ?_; rintro e w2 ⟨rfl, hb2⟩))
        go_ret
        exact ⟨rfl, hb2⟩
  · have hd1 : fewB L = false := decide_eq_false hf
    go_enter Tryz.func3, Tryz.ntmps3
    go_wp2_with (first
      | (go_at_call 4; refine (few_any H.out).mono ?_; rintro e w1 ⟨rfl, rfl⟩; rw [hd1])
      | (go_at_call 5; refine (alive_any _).mono ?_; rintro e w2 ⟨rfl, hb2⟩))
    go_ret
    exact ⟨rfl, hb2⟩

set_option linter.unusedVariables false
theorem denseTells_own : ownKnob Tryz.prog.godebug = none := by kernel_rfl

theorem denseTells_laidOut : laidOutB Tryz.prog = true := by kernel_rfl

set_option maxRecDepth 100000 in
theorem denseTells_lifted (os : Os) (started : os.Started) (H : Type) (enc : TypeId × Value → H) :
    ReturnsInHanded {} Tryz.checked os 3 .any (Rows.denseTellsSpec.pre6 enc Tryz.prog Tryz.f3 Rows.denseTellsRow.domain false) (Rows.denseTellsSpec.post enc Tryz.prog Tryz.f3 false true false false) := by
  refine returnsInHanded_of_change_sized (C := Tryz.checked) denseTells_own started (by kernel_rfl) Tryz.func3
    (ChangeSpec.witness6 (enc := enc) (C := Tryz.checked) false ⟨#[], #[.slice none 0 0, .string ByteArray.empty, .int .i64 0], []⟩ 8 (by kernel_rfl) (by kernel_rfl) (by kernel_rfl) (by kernel_rfl)) ?_
  intro W base args ds gs before hval0 hW hcnd hsz0 _
  have hsz : (DataW.weightsEach Tryz.prog (Tryz.f3.params.toList ++ Rows.denseTellsSpec.plain.varTypes Tryz.prog) (ds ++ gs)).all (· ≤ reachBytes) = true := hsz0
  have hval : ∀ (j : Nat) t v, Tryz.f3.params[j]? = some t → args[j]? = some v → Value.okWide Tryz.prog W .any base t v := hval0
  have hW' := hW
  obtain ⟨p, q, hA0, hV, rfl, hfz, hnd⟩ := hW
  have hA : DataW.TrodAll enc Tryz.prog W 0 (fun _ => true) true Tryz.f3.params.toList args.toList ds p := hA0
  rw [Tryz.params3] at hA hval hsz
  obtain ⟨v0, vs0, d0, ds0, p0, q0, hargs, rfl, rfl, h0, r0⟩ := trodAll_cons hA
  obtain ⟨v1, vs1, d1, ds1, p1, q1, rfl, rfl, rfl, h1, r1⟩ := trodAll_cons r0
  obtain ⟨v2, vs2, d2, ds2, p2, q2, rfl, rfl, rfl, h2, r2⟩ := trodAll_cons r1
  obtain ⟨rfl, rfl, rfl⟩ := trodAll_nil r2
  obtain rfl : args = #[v0, v1, v2] := by cases args; simp_all
  obtain ⟨rfl, rfl⟩ := trodVars_none hV
  obtain ⟨a0, len0, cap0, rfl⟩ := okWide_slice Tryz.underlying22 (hval 0 22 v0 rfl rfl)
  have k0 := h0
  have lt0 : ∀ x ∈ p0, x.block < W.heap.size := by obtain ⟨m, hm⟩ := k0; exact DataW.trod_lt m _ _ _ hm
  obtain ⟨z0, w0⟩ := h0.elim (fun _ hf => open_list hf hsz 0 rfl rfl)
  obtain ⟨a1, rfl, rfl, rfl, w1⟩ := open_string Tryz.underlying9 (hval 1 9 v1 rfl rfl) h1
  obtain ⟨a2, rfl, rfl, rfl, w2⟩ := open_int Tryz.underlying3 (hval 2 3 v2 rfl rfl) h2
  clear hA0 hval0
  have s1 : a1.size ≤ 140737488351232 := by have h := sized_string hsz (j := 1) (t := 9) rfl rfl; rw [Array.length_toList] at h; exact h
  refine (tells_walk _ z0 a1 a2 W w0).mono fun e W' ⟨he, bel⟩ => ?_
  subst he
  exact ⟨_, rfl, _, _, _, [], _, [], hW', trodAll_mk1 (shut_bool Tryz.underlying4 _), (trodAll_cons_mk (Below.trod denseTells_laidOut (by kernel_rfl) (of_decide_eq_true (by kernel_rfl)) k0 bel lt0) (trodAll_cons_mk (shut_string Tryz.underlying9 w1) (trodAll_cons_mk (shut_int Tryz.underlying3 w2) trodAll_mk0))), rfl, bel.frame _, fun h => by cases h⟩

/-- THE STATEMENT. -/
theorem denseTells_holds : Rows.DenseTellsSaid :=
  OpenClaim.holds_of_wide 3 Tryz.f3 rfl rfl rfl rfl rfl rfl rfl ⟨rfl, rfl, rfl, rfl, rfl⟩ rfl rfl rfl rfl rfl (by kernel_rfl) Tryz.func3 (by kernel_rfl)
    (of_decide_eq_true (by kernel_rfl)) (by unfold Func.isWrapper; first | (rw [if_pos (by decide +kernel)]; kernel_rfl) | (rw [if_neg (by decide +kernel)]; exact ⟨rfl, rfl⟩))
    (fun os started H enc _ => denseTells_lifted os started H enc)
#print axioms denseTells_holds
end Go.Proofs.YtcbnlhgkihhakaaGreat
