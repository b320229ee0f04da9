/-
  HitsAny: of any hits those that lie within, and are of phrases that there are, are told, each once. For every list of texts, every number of places, every list of hits.
  No condition: whatever the input, in whatever memory; the arguments read as before.
-/
import Derived.Test.YtfeibhdnmfiflaaAlive11
import Derived.Test.YtfeibhdnmfiflaaHitSet
import Derived.Test.YtfeibhdnmfiflaaRefPhrases
import Derived.ChangeOld
import Derived.SizedLaws
namespace Go.Proofs.Ytfeibhdnmfiflaa
open Go.ChangeShapes Go.WideShapes Go.ChangeAt Go.RowKit

/-- A hit that lies within, of a phrase that there is. -/
def ValidH (L : List ByteArray) (n : Int) (h : Int × Int) : Prop := 0 ≤ h.2 ∧ h.2 < (L.length : Int) ∧ 0 ≤ h.1 ∧ h.1 ≤ n ∧ (lenL L h.2.toNat : Int) ≤ h.1

/-- The set that is made of the first hits. -/
def Made (L : List ByteArray) (n : Int) (X xs : List (Int × Int)) : Prop := xs.Nodup ∧ ∀ h, h ∈ xs ↔ h ∈ X ∧ ValidH L n h

theorem made_nil (L : List ByteArray) (n : Int) : Made L n [] [] := ⟨List.nodup_nil, fun h => by simp⟩
theorem Made.skip {L : List ByteArray} {n : Int} {X xs : List (Int × Int)} (h : Made L n X xs) {x : Int × Int} (hx : ¬ ValidH L n x) : Made L n (X ++ [x]) xs := by
  refine ⟨h.1, fun y => ?_⟩
  rw [h.2 y, List.mem_append]
  constructor
  · rintro ⟨h1, h2⟩; exact ⟨.inl h1, h2⟩
  · rintro ⟨h1 | h1, h2⟩
    · exact ⟨h1, h2⟩
    · simp at h1
      subst h1
      exact absurd h2 hx
theorem Made.add {L : List ByteArray} {n : Int} {X xs : List (Int × Int)} (h : Made L n X xs) {x : Int × Int} (hx : ValidH L n x) : Made L n (X ++ [x]) (addH xs x) := by
  refine ⟨addH_nodup h.1 x, fun y => ?_⟩
  rw [addH_mem, h.2 y, List.mem_append]
  constructor
  · rintro (⟨h1, h2⟩ | rfl)
    · exact ⟨.inl h1, h2⟩
    · exact ⟨.inr (by simp), hx⟩
  · rintro ⟨h1 | h1, h2⟩
    · exact .inl ⟨h1, h2⟩
    · simp at h1
      exact .inr h1

/-- How many the first lists have. -/
def cnt (C : Nat → List Nat) : Nat → Nat
  | 0 => 0
  | i + 1 => cnt C i + (C i).length

/-- The hits of the first lists. -/
def flatF (L : List ByteArray) (C : Nat → List Nat) : Nat → List (Int × Int)
  | 0 => []
  | i + 1 => flatF L C i ++ (C i).map (fun id => (((i + lenL L id : Nat) : Int), (id : Int)))

theorem flatF_length (L : List ByteArray) (C : Nat → List Nat) (m : Nat) : (flatF L C m).length = cnt C m := by
  induction m with
  | zero => rfl
  | succ m ih => rw [flatF, cnt, List.length_append, ih, List.length_map]

theorem flatF_mem (L : List ByteArray) (C : Nat → List Nat) (m : Nat) (h : Int × Int) : h ∈ flatF L C m ↔ ∃ k id, k < m ∧ id ∈ C k ∧ h = (((k + lenL L id : Nat) : Int), (id : Int)) := by
  induction m with
  | zero => simp [flatF]
  | succ m ih =>
    rw [flatF, List.mem_append, ih, List.mem_map]
    constructor
    · rintro (⟨k, id, h1, h2, h3⟩ | ⟨id, h1, h2⟩)
      · exact ⟨k, id, by omega, h2, h3⟩
      · exact ⟨m, id, by omega, h1, h2.symm⟩
    · rintro ⟨k, id, h1, h2, h3⟩
      by_cases e : k = m
      · subst e; exact .inr ⟨id, h2, h3.symm⟩
      · exact .inl ⟨k, id, by omega, h2, h3⟩

theorem flatF_nodup (L : List ByteArray) (C : Nat → List Nat) (m : Nat) (hC : ∀ k, k < m → (C k).Nodup) : (flatF L C m).Nodup := by
  induction m with
  | zero => exact List.nodup_nil
  | succ m ih =>
    rw [flatF, List.nodup_append]
    refine ⟨ih (fun k hk => hC k (by omega)), ?_, fun a ha b hb => ?_⟩
    · unfold List.Nodup
      rw [List.pairwise_map]
      refine (hC m (by omega)).imp (fun {x y} hxy e => hxy ?_)
      simp only [Prod.mk.injEq] at e
      omega
    · obtain ⟨k, id, h1, h2, rfl⟩ := (flatF_mem L C m a).1 ha
      obtain ⟨id2, h3, rfl⟩ := List.mem_map.1 hb
      simp only [ne_eq, Prod.mk.injEq]
      rintro ⟨e1, e2⟩
      have e3 : id = id2 := by omega
      subst e3
      omega

/-- There are as many in the lists as in the set. -/
theorem cnt_made {L : List ByteArray} {m : Nat} {X xs : List (Int × Int)} {C : Nat → List Nat} (h1 : ∀ s ∈ L, 0 < s.size ∧ s.size ≤ 40) (h : Made L (m : Int) X xs) (hC : ∀ k, k < m → AtOf L m X k (C k)) : cnt C m = xs.length := by
  have hm : ∀ x, x ∈ flatF L C m ↔ x ∈ xs := by
    intro x
    rw [flatF_mem, h.2 x]
    constructor
    · rintro ⟨k, id, g1, g2, rfl⟩
      obtain ⟨g3, g4, g5⟩ := ((hC k g1).1.2 id).1 g2
      refine ⟨g4, ?_, ?_, ?_, ?_, ?_⟩ <;> simp only [Int.toNat_natCast] <;> omega
    · rintro ⟨g1, g2, g3, g4, g5, g6⟩
      obtain ⟨E, K⟩ := x
      simp only at g1 g2 g3 g4 g5 g6
      obtain ⟨id, rfl⟩ : ∃ id : Nat, K = (id : Int) := ⟨K.toNat, by omega⟩
      rw [Int.toNat_natCast] at g6
      obtain ⟨k, rfl⟩ : ∃ k : Nat, E = ((k + lenL L id : Nat) : Int) := ⟨(E - (lenL L id : Int)).toNat, by omega⟩
      have hid : id < L.length := by omega
      have hpos : 0 < lenL L id := by rw [lenL_at hid]; exact (h1 _ (List.getElem_mem _)).1
      exact ⟨k, id, by omega, ((hC k (by omega)).1.2 id).2 ⟨hid, g1, by omega⟩, rfl⟩
  rw [← flatF_length L C m]
  have hn := flatF_nodup L C m (fun k hk => (hC k hk).1.1)
  exact Nat.le_antisymm (hn.length_le_of_subset (fun x hx => (hm x).1 hx)) (h.1.length_le_of_subset (fun x hx => (hm x).2 hx))

theorem hits_reads {w : World} {a : Option Addr} {len cap : Nat} {z : Nat → Int × Int} (h : IsHits w a len z) : ReadsH w (.slice a len cap) ((List.range len).map z) := by
  refine ⟨a, cap, by simp, ?_⟩
  rcases h with h | ⟨b, off, rfl, hb, hc⟩
  · exact .inl (by simp [h])
  · refine .inr ⟨b, off, rfl, hb, fun i hi => ?_⟩
    have h2 := hc i (by simpa using hi)
    simp only [List.getElem_map, List.getElem_range]
    exact ⟨h2.1, h2.2.1⟩

theorem take_hits (z : Nat → Int × Int) (len i : Nat) (hi : i < len) : ((List.range len).map z).take (i + 1) = ((List.range len).map z).take i ++ [z i] := by
  rw [List.take_succ_eq_append_getElem (by simpa using hi)]
  simp

theorem hits_wf {w : World} {a : Option Addr} {len : Nat} {z : Nat → Int × Int} (h : IsHits w a len z) : ∀ x ∈ (List.range len).map z, WfH x := by
  intro x hx
  obtain ⟨i, hi, rfl⟩ := List.mem_map.1 hx
  rcases h with h | ⟨b, off, _, _, hc⟩
  · rw [h] at hi; simp at hi
  · exact (hc i (List.mem_range.1 hi)).2.2

theorem cnt_few (C : Nat → List Nat) (m : Nat) (h : ∀ k, k < m → (C k).length ≤ 100) : cnt C m ≤ m * 100 := by
  induction m with
  | zero => exact Nat.le_refl _
  | succ m ih =>
    have h1 := ih (fun k hk => h k (by omega))
    have h2 := h m (by omega)
    rw [cnt]
    omega

theorem Try.elemInts : Try.prog.underlying 36 = some (.slice (Try.prog.elem 36)) := by kernel_rfl
theorem Try.sizeInts (w : World) : (sizeOf (Try.prog.elem 36)).run Try.prog w = .ok 1 w := by kernel_rfl

theorem slice_first (g q c j : Nat) (hj : j ≤ c) (W : World) : (Instr.slice 36 (.slice (some ⟨g, 0, none⟩) q c) none (some (.int .i64 (j : Int))) none).run Try.prog W = .ok (.slice (some ⟨g, 0, none⟩) j c) W := by
  rw [run_slice_h W _ (some ⟨g, 0, none⟩) q c Try.elemInts .i64 (j : Int) (by omega) (by omega), Try.sizeInts, Int.toNat_natCast]
  simp [Result.andThen, sliced, Addr.add]

theorem hnd_inj2 {L : List Nat} (h : L.Nodup) {i j : Nat} (hi : i < L.length) (hj : j < L.length) (e : L[i]'hi = L[j]'hj) : i = j := by
  rcases Nat.lt_trichotomy i j with h1 | h1 | h1
  · exact absurd e (List.pairwise_iff_getElem.1 h i j hi hj h1)
  · exact h1
  · exact absurd e.symm (List.pairwise_iff_getElem.1 h j i hj hi h1)

theorem own_room {w : World} {B : Nat} {e : TypeId} {g n cap : Nat} {xs : List Value} (h : w.ownsRow B e 1 (.slice (some ⟨g, 0, none⟩) n cap) n xs) : n ≤ cap := by
  rcases h.2 with ⟨h, _⟩ | ⟨g, c, cur, h, _, _, hnc, _⟩
  · simp at h
  · simp only [Value.slice.injEq] at h
    obtain ⟨_, _, rfl⟩ := h
    exact hnc

set_option maxRecDepth 20000 in
set_option maxHeartbeats 8000000 in
theorem any_walk (v : Value) (L : List ByteArray) (n : Int) (a2 : Option Addr) (len2 cap2 : Nat) (z2 : Nat → Int × Int) (w : World) (h : ListIn w v L) (h2 : IsHits w a2 len2 z2) :
    Calls Try.prog 3 #[v, .int .i64 n, .slice a2 len2 cap2] w fun e w' => e = .returned (.bool true) ∧ Below w.heap.size w w' := by
  have H := hid h
  obtain ⟨⟨a, ca, rfl, ha⟩, hq2, hq3⟩ := h
  rw [strs_length] at *
  clear ha hq2 hq3
  by_cases hf : FewL L
  · have hd1 : fewB L = true := decide_eq_true hf
    have hsz := hf.sizes
    have HSZ := hid hf.2
    by_cases hcond : len2 ≤ 100
    · have hdb : decide ((100 : Int) < (len2 : Int)) = false := decide_eq_false (by omega)
      have hdb2 : decide (100 < len2) = false := decide_eq_false (by omega)
      rcases fine_or_bad L with hL | ⟨cd, a0, hL⟩
      · have HF := hid hL
        have hl100 := hL.1
        clear hL hsz hf
        have HSM := hid ((fine_iff L).1 HF.out).2.1
        have HI := hid h2
        have HHI : Hid (∀ W, Below w.heap.size w W → IsHits W a2 len2 z2) := fun W hW => by
          rcases HI.out with h | ⟨b, off, h1, h2, h3⟩
          · exact .inl h
          · exact .inr ⟨b, off, h1, Nat.lt_of_lt_of_le h2 hW.size, fun i hi => ⟨(hW.cell (p := ⟨b, off + i * 2, none⟩) h2).trans (h3 i hi).1, (hW.cell (p := ⟨b, off + i * 2 + 1, none⟩) h2).trans (h3 i hi).2.1, (h3 i hi).2.2⟩⟩
        clear h2
        rcases (show (0 ≤ n ∧ n ≤ 1024) ∨ n < 0 ∨ 1024 < n by omega) with hn | hn | hn
        · obtain ⟨m, rfl⟩ : ∃ m : Nat, n = (m : Int) := ⟨n.toNat, by omega⟩
          have hmx : max (m : Int) 0 = (m : Int) := by omega
          have hdn : decide ((1024 : Int) < (m : Int)) = false := decide_eq_false (by omega)
          have hmm := @run_makeMap Try.prog
          go_enter Try.func3, Try.ntmps3
          go_wp2_with (first
            | (go_at_call 7; refine (few_any H.out).mono ?_; rintro e w1 ⟨rfl, rfl⟩; rw [hd1])
            | (go_at_call 8; refine (alive_any _).mono ?_; rintro e w2 ⟨rfl, hb2⟩; have H2 := hid (H.out.below hb2); have HB2 := hid hb2; clear hb2)
            | (go_at_call 9; refine (phrases_fine H2.out.1 HF.out).mono ?_; rintro e w3 ⟨rfl, rfl⟩)
            | (go_at_call 10; refine (make_fine H2.out.1 HF.out).mono ?_; rintro e w4 ⟨p, rfl, hd4, hb4⟩; have HD := hid (dict_v hd4); have HL4 := hid (H2.out.1.below hb4); have HB4 := hid (below_more HB2.out hb4); clear hd4 hb4)
            | (go_at_call 11; refine (starts_any HD.out (by omega) HSM.out m (by omega) (hits_reads (cap := cap2) (HHI.out _ HB4.out)) (by simp; omega)).mono ?_; rintro e w5 ⟨g1, V, C, rfl, hl5, hg5, ha5, hb5⟩; have HT := hid hl5; have HA := hid ha5; have HL5 := hid (HL4.out.below hb5); have HB5 := hid (below_more HB4.out hb5); clear hl5 hg5 ha5 hb5))

          have hbm : Below w5.heap.size w5 (w5.alloc (.map #[] 0)) := (Below.refl _ _).alloc (Nat.le_refl _) _
          have hsn := HitSet.new w5
          obtain ⟨b, hb⟩ : ∃ b, b = w5.heap.size := ⟨_, rfl⟩
          have HBB := hid hb
          rw [← hb] at hsn ⊢
          generalize w5.alloc (.map #[] 0) = wm at hbm hsn ⊢
          have HBM := hid hbm
          have HSN := hid hsn
          clear hb hbm hsn
          go_loopw [68] (fun vi wr => ∃ (i N : Nat) (xs : List (Int × Int)), vi = .int .i64 i ∧ i ≤ len2 ∧ N ≤ i ∧ Hid (HitSet wr b N xs) ∧ Hid (Made L ((m : Int)) (((List.range len2).map z2).take i) xs) ∧ Hid (Below w5.heap.size w5 wr)) (fun vi _ => len2 - (intOf vi).toNat)
          case atStart => exact ⟨0, 0, [], rfl, by omega, by omega, HSN.out, made_nil _ _, HBM.out⟩
          case round =>
            clear HSN HBM
            obtain ⟨i, N, xs, rfl, hi, hN, hS, hMd, hBw⟩ := hrel
            by_cases hin : i < len2
            · rcases HI.out with h0 | ⟨gz, oz, rfl, hgz, hcz⟩
              · omega
              obtain ⟨hz0, hz1, hzw⟩ := hcz i hin
              have HTK := hid (take_hits z2 len2 i hin)
              obtain ⟨E, K, hEK⟩ : ∃ E K, z2 i = (E, K) := ⟨_, _, rfl⟩
              rw [hEK] at hz0 hz1 hzw HTK
              dsimp only at hz0 hz1
              have HBt := hid (below_more HB5.out hBw.out)
              have cz0 := (HBt.out.cell (p := ⟨gz, oz + i * 2, none⟩) hgz).trans hz0
              have cz1 := (HBt.out.cell (p := ⟨gz, oz + i * 2 + 1, none⟩) hgz).trans hz1
              have hx : (decide ((0 : Int) ≤ (i : Int) ∧ (i : Int) < (len2 : Int))) = true := decide_eq_true ⟨by omega, by omega⟩
              have hwa : Below wr.heap.size wr (wr.alloc (.cells #[.int .i64 E, .int .i64 K] 35)) := (Below.refl _ _).alloc (Nat.le_refl _) _
              have HS1 := hid (hS.out.below hwa)
              have HB1 := hid (below_more hBw.out hwa)
              obtain ⟨c0, c1⟩ := hit_cells (heap_alloc_new wr (.cells #[.int .i64 E, .int .i64 K] 35))
              have HWF := hid hzw
              clear hEK hcz hz0 hz1 hwa hS hBw hzw
              by_cases h1 : 0 ≤ K
              · have d1 : decide ((0 : Int) ≤ K) = true := decide_eq_true h1
                by_cases h2 : K < (L.length : Int)
                · have d2 : decide (K < (L.length : Int)) = true := decide_eq_true h2
                  by_cases h3 : 0 ≤ E
                  · have d3 : decide ((0 : Int) ≤ E) = true := decide_eq_true h3
                    by_cases h4 : E ≤ (m : Int)
                    · have d4 : decide (E ≤ (m : Int)) = true := decide_eq_true h4
                      obtain ⟨id, rfl⟩ : ∃ id : Nat, K = (id : Int) := ⟨K.toNat, by omega⟩
                      have hidL : id < L.length := by omega
                      obtain ⟨a9, c9, hv9, h9⟩ := (HL5.out.below (HB1.out)) 
                      injection hv9 with q1 q2 q3
                      rcases h9 with h9 | ⟨gb, ob, rfl, hgb, hcb⟩
                      · rw [strs_length] at h9; omega
                      subst q1
                      have cs := hcb id (by rw [strs_length]; exact hidL)
                      rw [strs_at L id hidL] at cs
                      have hle := lenL_at hidL
                      obtain ⟨s, hs⟩ : ∃ s, s = L[id]'hidL := ⟨_, rfl⟩
                      rw [← hs] at cs hle
                      have hxi : (decide ((0 : Int) ≤ (id : Int) ∧ (id : Int) < (L.length : Int))) = true := decide_eq_true ⟨by omega, by omega⟩
                      clear hs hcb q2 q3
                      by_cases h5 : (s.size : Int) ≤ E
                      · have d5 : decide ((s.size : Int) ≤ E) = true := decide_eq_true h5
                        have HV : Hid (ValidH L ((m : Int)) (E, (id : Int))) := ⟨h1, h2, h3, h4, by simp only [Int.toNat_natCast]; omega⟩
                        go_wp2
                        go_quiet (fail)
                        have HS6 := hid (HS1.out.below (drewN_below _ nq _))
                        have HB6 := hid (HB1.out.trans (drewN_below _ nq _))
                        have HC6 : Hid (((wr.alloc (.cells #[.int .i64 E, .int .i64 (id : Int)] 35)).drewN nq).cell? ⟨wr.heap.size, 0, none⟩ = some (.int .i64 E) ∧ ((wr.alloc (.cells #[.int .i64 E, .int .i64 (id : Int)] 35)).drewN nq).cell? ⟨wr.heap.size, 1, none⟩ = some (.int .i64 (id : Int))) := ⟨keeps (drewN_below _ nq _) _ _ c0, keeps (drewN_below _ nq _) _ _ c1⟩
                        clear HS1 HB1 c0 c1
                        generalize (wr.alloc (.cells #[.int .i64 E, .int .i64 (id : Int)] 35)).drewN nq = w6 at HS6 HB6 HC6 ⊢
                        have c0 : w6.cell? ⟨wr.heap.size, 0, none⟩ = some (.int .i64 E) := by rw [HC6.out.1]
                        have c1 : w6.cell? ⟨wr.heap.size, 1, none⟩ = some (.int .i64 (id : Int)) := by rw [HC6.out.2]
                        obtain ⟨w7, hrun, hs7, hk7⟩ := HS6.out.add (E, (id : Int)) HWF.out (by omega)
                        have HS7 := hid hs7
                        have HB7 := hid (HB6.out.trans (hk7.below HB6.out.size (by rintro k rfl; rw [← HBB.out]; exact Nat.le_refl _)))
                        have hrun2 : (Instr.mapUpdate 33 (.map (some b)) (.agg #[.int .i64 E, .int .i64 (id : Int)]) (.bool true)).run Try.prog w6 = .ok () w7 := hrun
                        clear hs7 hk7 hrun HS6 HB6 HC6
                        go_wp2
                        go_roundw
                        case rel => exact ⟨i + 1, N + 1, addH xs (E, (id : Int)), by go_num, by omega, by omega, HS7.out, by show Made _ _ _ _; rw [HTK.out]; exact hMd.out.add HV.out, HB7.out⟩
                        case measure => simp [intOf]; omega
                      · have d5 : decide ((s.size : Int) ≤ E) = false := decide_eq_false h5
                        go_wp2
                        go_quiet (fail)
                        have HS6 := hid (HS1.out.below (drewN_below _ nq _))
                        have HB6 := hid (HB1.out.trans (drewN_below _ nq _))
                        clear HS1 HB1 c0 c1
                        generalize (wr.alloc (.cells #[.int .i64 E, .int .i64 (id : Int)] 35)).drewN nq = w6 at HS6 HB6 ⊢
                        go_wp2
                        go_roundw
                        case rel => exact ⟨i + 1, N, xs, by go_num, by omega, by omega, HS6.out, by show Made _ _ _ _; rw [HTK.out]; exact hMd.out.skip (fun hv => by have h1 := hv.1; have h2 := hv.2.1; have h3 := hv.2.2.1; have h4 := hv.2.2.2.1; have h5 := hv.2.2.2.2; simp only [Int.toNat_natCast] at h1 h2 h3 h4 h5; omega), HB6.out⟩
                        case measure => simp [intOf]; omega
                    · have d4 : decide (E ≤ (m : Int)) = false := decide_eq_false h4
                      go_wp2
                      go_quiet (fail)
                      have HS6 := hid (HS1.out.below (drewN_below _ nq _))
                      have HB6 := hid (HB1.out.trans (drewN_below _ nq _))
                      clear HS1 HB1 c0 c1
                      generalize (wr.alloc (.cells #[.int .i64 E, .int .i64 K] 35)).drewN nq = w6 at HS6 HB6 ⊢
                      go_wp2
                      go_roundw
                      case rel => exact ⟨i + 1, N, xs, by go_num, by omega, by omega, HS6.out, by show Made _ _ _ _; rw [HTK.out]; exact hMd.out.skip (fun hv => by have h1 := hv.1; have h2 := hv.2.1; have h3 := hv.2.2.1; have h4 := hv.2.2.2.1; have h5 := hv.2.2.2.2; dsimp only at h1 h2 h3 h4 h5; omega), HB6.out⟩
                      case measure => simp [intOf]; omega
                  · have d3 : decide ((0 : Int) ≤ E) = false := decide_eq_false h3
                    go_wp2
                    go_quiet (fail)
                    have HS6 := hid (HS1.out.below (drewN_below _ nq _))
                    have HB6 := hid (HB1.out.trans (drewN_below _ nq _))
                    clear HS1 HB1 c0 c1
                    generalize (wr.alloc (.cells #[.int .i64 E, .int .i64 K] 35)).drewN nq = w6 at HS6 HB6 ⊢
                    go_wp2
                    go_roundw
                    case rel => exact ⟨i + 1, N, xs, by go_num, by omega, by omega, HS6.out, by show Made _ _ _ _; rw [HTK.out]; exact hMd.out.skip (fun hv => by have h1 := hv.1; have h2 := hv.2.1; have h3 := hv.2.2.1; have h4 := hv.2.2.2.1; have h5 := hv.2.2.2.2; dsimp only at h1 h2 h3 h4 h5; omega), HB6.out⟩
                    case measure => simp [intOf]; omega
                · have d2 : decide (K < (L.length : Int)) = false := decide_eq_false h2
                  go_wp2
                  go_quiet (fail)
                  have HS6 := hid (HS1.out.below (drewN_below _ nq _))
                  have HB6 := hid (HB1.out.trans (drewN_below _ nq _))
                  clear HS1 HB1 c0 c1
                  generalize (wr.alloc (.cells #[.int .i64 E, .int .i64 K] 35)).drewN nq = w6 at HS6 HB6 ⊢
                  go_wp2
                  go_roundw
                  case rel => exact ⟨i + 1, N, xs, by go_num, by omega, by omega, HS6.out, by show Made _ _ _ _; rw [HTK.out]; exact hMd.out.skip (fun hv => by have h1 := hv.1; have h2 := hv.2.1; have h3 := hv.2.2.1; have h4 := hv.2.2.2.1; have h5 := hv.2.2.2.2; dsimp only at h1 h2 h3 h4 h5; omega), HB6.out⟩
                  case measure => simp [intOf]; omega
              · have d1 : decide ((0 : Int) ≤ K) = false := decide_eq_false h1
                go_wp2
                go_quiet (fail)
                have HS6 := hid (HS1.out.below (drewN_below _ nq _))
                have HB6 := hid (HB1.out.trans (drewN_below _ nq _))
                clear HS1 HB1 c0 c1
                generalize (wr.alloc (.cells #[.int .i64 E, .int .i64 K] 35)).drewN nq = w6 at HS6 HB6 ⊢
                go_wp2
                go_roundw
                case rel => exact ⟨i + 1, N, xs, by go_num, by omega, by omega, HS6.out, by show Made _ _ _ _; rw [HTK.out]; exact hMd.out.skip (fun hv => by have h1 := hv.1; have h2 := hv.2.1; have h3 := hv.2.2.1; have h4 := hv.2.2.2.1; have h5 := hv.2.2.2.2; dsimp only at h1 h2 h3 h4 h5; omega), HB6.out⟩
                case measure => simp [intOf]; omega
            · have hall : ((List.range len2).map z2).take i = (List.range len2).map z2 := List.take_of_length_le (by simp; omega)
              rw [hall] at hMd
              clear hall
              go_wp2
              obtain ⟨wq, rfl⟩ : ∃ wq, wq = wr := ⟨_, rfl⟩
              have HSq := hid hS.out
              have HTq := hid (HT.out.below hBw.out)
              have HLq := hid (HL5.out.below hBw.out)
              have HBq := hid (below_more HB5.out hBw.out)
              have HCN := hid (cnt_made HSM.out hMd.out HA.out)
              have HMq := hid hMd.out
              have HXW := hid (hits_wf HI.out)
              have HFW := hid (cnt_few C m (fun k hk => Nat.le_trans (HA.out k hk).1.few hl100))
              clear hS hMd hBw
              go_loopw [14, 109] (fun vk vi wr2 => ∃ i k9 : Nat, vk = .int .i64 (k9 : Int) ∧ vi = .int .i64 i ∧ i ≤ m ∧ Hid (k9 = cnt C i) ∧ k9 ≤ i * 100 ∧ Hid (Below wq.heap.size wq wr2)) (fun _ vi _ => m - (intOf vi).toNat)
              case atStart => exact ⟨0, 0, rfl, rfl, by omega, rfl, by omega, Below.refl _ _⟩
              case round =>
                obtain ⟨i, k9, rfl, rfl, hi, hk9, hk100, hbw⟩ := hrel
                by_cases hin : i < m
                · have hxi : (decide ((0 : Int) ≤ (i : Int) ∧ (i : Int) < (m : Int))) = true := decide_eq_true ⟨by omega, by omega⟩
                  have hown := HTq.out.each i hin
                  have hrow := HTq.out.row.cell hin
                  obtain ⟨q, hq⟩ : ∃ q, q = (C i).length := ⟨_, rfl⟩
                  have hq100 : q ≤ 100 := by rw [hq]; exact Nat.le_trans (HA.out i hin).1.few hl100
                  obtain ⟨av, cv, hV⟩ := ownsRow_slice hown
                  rw [hV, ← hq] at hrow
                  rw [hV, ← hq] at hown
                  have HOW := hid hown
                  have HQ := hid hq
                  have HRW : Hid (∀ W, Below wq.heap.size wq W → W.cell? ⟨g1, i, none⟩ = some (.slice av q cv)) := fun W hW => keeps hW _ _ hrow
                  have c1 := HRW.out _ hbw.out
                  clear hown hrow hV hq
                  go_wp2
                  go_loopw [14, 117] (fun vk vj wr3 => ∃ j k8 : Nat, vk = .int .i64 (k8 : Int) ∧ vj = .int .i64 j ∧ j ≤ q ∧ Hid (k8 = cnt C i + j) ∧ k8 ≤ i * 100 + j ∧ Hid (Below wq.heap.size wq wr3)) (fun _ vj _ => q - (intOf vj).toNat)
                  case atStart => exact ⟨0, k9, rfl, rfl, by omega, hk9.out, by omega, hbw.out⟩
                  case round =>
                    clear hbw c1
                    obtain ⟨j, k8, rfl, rfl, hj, hk8, hk8b, hbw⟩ := hrel
                    by_cases hjq : j < q
                    · obtain ⟨ga, ka, e1, _, _⟩ := HOW.out.form (by omega)
                      injection e1 with e1 e2 e3
                      subst e1
                      have hroom := own_room HOW.out
                      have hjC : j < (C i).length := by rw [← HQ.out]; exact hjq
                      have HCE : Hid (∀ W, Below wq.heap.size wq W → ∀ r (hr : r < (C i).length), W.cell? ⟨ga, r, none⟩ = some (.int .i64 (((C i)[r]'hr : Nat) : Int))) := fun W hW r hr => by
                        have h1 := HOW.out.cellAt r (by rw [HQ.out]; omega)
                        rw [numsI_at _ r hr] at h1
                        exact keeps hW _ _ h1
                      have hAt := HA.out i hin
                      obtain ⟨id, hid0⟩ : ∃ id, id = (C i)[j]'hjC := ⟨_, rfl⟩
                      obtain ⟨hidL, hidX, hidm⟩ := (hAt.1.2 id).1 (by rw [hid0]; exact List.getElem_mem _)
                      have d1 := HCE.out _ hbw.out j hjC
                      rw [← hid0] at d1
                      have c1 := HRW.out _ hbw.out
                      obtain ⟨a9, c9, hv9, h9⟩ := HLq.out
                      injection hv9 with q1 q2 q3
                      rcases h9 with h9 | ⟨gb, ob, rfl, hgb, hcb⟩
                      · rw [strs_length] at h9; omega
                      subst q1
                      have HST : Hid (∀ W, Below wq.heap.size wq W → ∀ r (hr : r < L.length), W.cell? ⟨gb, ob + r, none⟩ = some (.string (L[r]'hr))) := fun W hW r hr => by
                        have h1 := hcb r (by rw [strs_length]; exact hr)
                        rw [strs_at L r hr] at h1
                        exact keeps hW _ _ h1
                      have cs := HST.out _ hbw.out id hidL
                      have hle := lenL_at hidL
                      obtain ⟨s, hs⟩ : ∃ s, s = L[id]'hidL := ⟨_, rfl⟩
                      rw [← hs] at cs hle
                      obtain ⟨e, he⟩ : ∃ e, e = i + lenL L id := ⟨_, rfl⟩
                      have hsum : (i : Int) + (s.size : Int) = (e : Int) := by omega
                      rw [← he] at hidX
                      have hxs : (((e : Int), (id : Int)) : Int × Int) ∈ _ := (HMq.out.2 _).2 ⟨hidX, by simp only; omega, by simp only; omega, by simp only; omega, by simp only; omega, by simp only [Int.toNat_natCast]; omega⟩
                      have hlk : ∀ nq, (Instr.lookup 33 (.map (some b)) (.agg #[.int .i64 (e : Int), .int .i64 (id : Int)]) false).run Try.prog (wr.drewN nq) = .ok (.bool true) (wr.drewN nq) := fun nq => by
                        have h1 := (HSq.out.below (hbw.out.trans (drewN_below wr nq _))).look ((e : Int), (id : Int)) (HXW.out _ hidX)
                        rw [decide_eq_true hxs] at h1
                        exact h1
                      have hsl := slice_first ga q cv j (by omega)
                      have hwe : IntKind.i64.wrap (e : Int) = (e : Int) := by rw [IntKind.wrap_i64]; omega
                      have hxid : (decide ((0 : Int) ≤ (id : Int) ∧ (id : Int) < (L.length : Int))) = true := decide_eq_true ⟨by omega, by omega⟩
                      have hxj : (decide ((0 : Int) ≤ (j : Int) ∧ (j : Int) < (q : Int))) = true := decide_eq_true ⟨by omega, by omega⟩
                      have hd1 : decide ((id : Int) < 0) = false := decide_eq_false (by omega)
                      have hd2 : decide ((L.length : Int) ≤ (id : Int)) = false := decide_eq_false (by omega)
                      have hd3 : decide (L.length ≤ id) = false := decide_eq_false (by omega)
                      have HND : Hid (∀ r (hr : r < j), (((((C i)[r]'(Nat.lt_trans hr hjC) : Nat) : Int)) == (id : Int)) = false) := fun r hr => beq_false_of_ne (fun e5 => by
                        have e6 : (C i)[r]'(Nat.lt_trans hr hjC) = (C i)[j]'hjC := by rw [← hid0]; omega
                        have := hnd_inj2 hAt.1.1 (Nat.lt_trans hr hjC) hjC e6
                        omega)
                      have HPW : Hid (∀ (j0 : Nat) (h0 : j = j0 + 1), ∃ (id2 : Nat) (hid2 : id2 < L.length), id2 = (C i)[j0]'(by omega) ∧ s.size ≤ (L[id2]'hid2).size) := fun j0 h0 => by
                        have hj0 : j0 < (C i).length := by omega
                        have hidL2 := ((hAt.1.2 ((C i)[j0]'hj0)).1 (List.getElem_mem _)).1
                        refine ⟨_, hidL2, rfl, ?_⟩
                        have h1 := List.pairwise_iff_getElem.1 hAt.2 j0 j hj0 hjC (by omega)
                        rw [← hid0, hle, lenL_at hidL2] at h1
                        exact h1
                      clear hAt hid0 hidX hidm hxs hs he hle e2 e3 q2 q3 hcb
                      have HR9 : Hid (∀ nq : Nat, ∀ Q : Prop, True) := fun _ _ => trivial
                      by_cases hj0 : j = 0
                      · subst hj0
                        go_wp2
                        go_quiet (fail)
                        have hbq := hid (hbw.out.trans (drewN_below wr nq _))
                        clear hbw d1 c1 cs hlk
                        generalize wr.drewN nq = w8 at hbq ⊢
                        have c1 := HRW.out _ hbq.out
                        go_wp2
                        go_loopw [175] (fun vr wr4 => vr = .int .i64 0 ∧ Hid (Below wq.heap.size wq wr4)) (fun _ _ => 0)
                        case atStart => exact ⟨rfl, hbq.out⟩
                        case round =>
                          clear c1 hbq
                          obtain ⟨rfl, hbq⟩ := hrel
                          go_wp2
                          go_roundw
                          case rel => exact ⟨1, k8 + 1, by go_num, by first | rfl | go_num, by omega, by show _ = _; rw [hk8.out], by omega, hbq.out⟩
                          case measure => simp [intOf]; omega
                      · obtain ⟨j0, hj1⟩ : ∃ j0, j = j0 + 1 := ⟨j - 1, by omega⟩
                        obtain ⟨id2, hid2, hide, hsz⟩ := HPW.out j0 hj1
                        have d2 := HCE.out _ hbw.out j0 (by rw [← HQ.out]; omega)
                        rw [← hide] at d2
                        have cs2 := HST.out _ hbw.out id2 hid2
                        obtain ⟨s2, hs2⟩ : ∃ s2, s2 = L[id2]'hid2 := ⟨_, rfl⟩
                        rw [← hs2] at cs2 hsz
                        have hxid2 : (decide ((0 : Int) ≤ (id2 : Int) ∧ (id2 : Int) < (L.length : Int))) = true := decide_eq_true ⟨by omega, by omega⟩
                        have hxj0 : (decide ((0 : Int) ≤ (j0 : Int) ∧ (j0 : Int) < (q : Int))) = true := decide_eq_true ⟨by omega, by omega⟩
                        have hdj : decide ((0 : Int) < (j : Int)) = true := decide_eq_true (by omega)
                        have hdj2 : decide (0 < j) = true := decide_eq_true (by omega)
                        have hsub : (j : Int) - 1 = (j0 : Int) := by omega
                        have hwr : IntKind.i64.wrap ((j : Int) - 1) = (j0 : Int) := by rw [hsub, IntKind.wrap_i64]; omega
                        have hwr0 : IntKind.i64.wrap (j0 : Int) = (j0 : Int) := by rw [IntKind.wrap_i64]; omega
                        have hds : decide ((s2.size : Int) < (s.size : Int)) = false := decide_eq_false (by omega)
                        have hds2 : decide (s2.size < s.size) = false := decide_eq_false (by omega)
                        clear hj1 hide hs2 HPW
                        go_wp2
                        go_quiet (fail)
                        have hbq := hid (hbw.out.trans (drewN_below wr nq _))
                        clear hbw d1 c1 cs hlk
                        generalize wr.drewN nq = w8 at hbq ⊢
                        have c1 := HRW.out _ hbq.out
                        go_wp2
                        go_loopw [175] (fun vr wr4 => ∃ r : Nat, vr = .int .i64 r ∧ r ≤ j ∧ Hid (Below wq.heap.size wq wr4)) (fun vr _ => j - (intOf vr).toNat)
                        case atStart => exact ⟨0, rfl, by omega, hbq.out⟩
                        case round =>
                          clear c1 hbq
                          obtain ⟨r, rfl, hr, hbq⟩ := hrel
                          by_cases hrj : r < j
                          · have d3 := HCE.out _ hbq.out r (by rw [← HQ.out]; omega)
                            have hne := HND.out r hrj
                            have hxr : (decide ((0 : Int) ≤ (r : Int) ∧ (r : Int) < (j : Int))) = true := decide_eq_true ⟨by omega, by omega⟩
                            generalize ((C i)[r]'(by rw [← HQ.out]; omega) : Nat) = y at d3 hne
                            go_wp2
                            go_roundw
                            case rel => exact ⟨r + 1, by go_num, by omega, hbq.out⟩
                            case measure => simp [intOf]; omega
                          · go_wp2
                            go_roundw
                            case rel => exact ⟨j + 1, k8 + 1, by go_num, by first | rfl | go_num, by omega, by show _ = _; rw [hk8.out]; rfl, by omega, hbq.out⟩
                            case measure => simp [intOf]; omega
                    · obtain rfl : j = q := by omega
                      have HK := hid hk8.out
                      go_wp2
                      go_roundw
                      case rel => exact ⟨i + 1, k8, rfl, by go_num, by omega, by show _ = cnt C i + (C i).length; rw [HK.out, HQ.out], by omega, hbw.out⟩
                      case measure => simp [intOf]; omega
                · obtain rfl : i = m := by omega
                  have hle := fun ty => (HSq.out.below hbw.out).len ty
                  have hkx : k9 = xs.length := by rw [hk9.out, HCN.out]
                  have hke : ((k9 : Int) == (xs.length : Int)) = true := by rw [hkx]; simp
                  clear hkx
                  go_wp2
                  go_ret
                  exact ⟨by simp, below_more HBq.out hbw.out⟩
        · have hmx : max n 0 = 0 := by omega
          have hdn : decide ((1024 : Int) < n) = false := decide_eq_false (by omega)
          have hmm := @run_makeMap Try.prog
          go_enter Try.func3, Try.ntmps3
          go_wp2_with (first
            | (go_at_call 7; refine (few_any H.out).mono ?_; rintro e w1 ⟨rfl, rfl⟩; rw [hd1])
            | (go_at_call 8; refine (alive_any _).mono ?_; rintro e w2 ⟨rfl, hb2⟩; have H2 := hid (H.out.below hb2); have HB2 := hid hb2; clear hb2)
            | (go_at_call 9; refine (phrases_fine H2.out.1 HF.out).mono ?_; rintro e w3 ⟨rfl, rfl⟩)
            | (go_at_call 10; refine (make_fine H2.out.1 HF.out).mono ?_; rintro e w4 ⟨p, rfl, hd4, hb4⟩; have HD := hid (dict_v hd4); have HL4 := hid (H2.out.1.below hb4); have HB4 := hid (below_more HB2.out hb4); clear hd4 hb4)
            | (go_at_call 11; refine (starts_off _ _ _ n (by omega)).mono ?_; rintro e w5 ⟨rfl, rfl⟩; have HL5 := hid HL4.out; have HB5 := hid HB4.out))

          have hbm : Below w5.heap.size w5 (w5.alloc (.map #[] 0)) := (Below.refl _ _).alloc (Nat.le_refl _) _
          have hsn := HitSet.new w5
          obtain ⟨b, hb⟩ : ∃ b, b = w5.heap.size := ⟨_, rfl⟩
          have HBB := hid hb
          rw [← hb] at hsn ⊢
          generalize w5.alloc (.map #[] 0) = wm at hbm hsn ⊢
          have HBM := hid hbm
          have HSN := hid hsn
          clear hb hbm hsn
          go_loopw [68] (fun vi wr => ∃ (i N : Nat) (xs : List (Int × Int)), vi = .int .i64 i ∧ i ≤ len2 ∧ N ≤ i ∧ Hid (HitSet wr b N xs) ∧ Hid (Made L (n) (((List.range len2).map z2).take i) xs) ∧ Hid (Below w5.heap.size w5 wr)) (fun vi _ => len2 - (intOf vi).toNat)
          case atStart => exact ⟨0, 0, [], rfl, by omega, by omega, HSN.out, made_nil _ _, HBM.out⟩
          case round =>
            clear HSN HBM
            obtain ⟨i, N, xs, rfl, hi, hN, hS, hMd, hBw⟩ := hrel
            by_cases hin : i < len2
            · rcases HI.out with h0 | ⟨gz, oz, rfl, hgz, hcz⟩
              · omega
              obtain ⟨hz0, hz1, hzw⟩ := hcz i hin
              have HTK := hid (take_hits z2 len2 i hin)
              obtain ⟨E, K, hEK⟩ : ∃ E K, z2 i = (E, K) := ⟨_, _, rfl⟩
              rw [hEK] at hz0 hz1 hzw HTK
              dsimp only at hz0 hz1
              have HBt := hid (below_more HB5.out hBw.out)
              have cz0 := (HBt.out.cell (p := ⟨gz, oz + i * 2, none⟩) hgz).trans hz0
              have cz1 := (HBt.out.cell (p := ⟨gz, oz + i * 2 + 1, none⟩) hgz).trans hz1
              have hx : (decide ((0 : Int) ≤ (i : Int) ∧ (i : Int) < (len2 : Int))) = true := decide_eq_true ⟨by omega, by omega⟩
              have hwa : Below wr.heap.size wr (wr.alloc (.cells #[.int .i64 E, .int .i64 K] 35)) := (Below.refl _ _).alloc (Nat.le_refl _) _
              have HS1 := hid (hS.out.below hwa)
              have HB1 := hid (below_more hBw.out hwa)
              obtain ⟨c0, c1⟩ := hit_cells (heap_alloc_new wr (.cells #[.int .i64 E, .int .i64 K] 35))
              have HWF := hid hzw
              clear hEK hcz hz0 hz1 hwa hS hBw hzw
              by_cases h1 : 0 ≤ K
              · have d1 : decide ((0 : Int) ≤ K) = true := decide_eq_true h1
                by_cases h2 : K < (L.length : Int)
                · have d2 : decide (K < (L.length : Int)) = true := decide_eq_true h2
                  by_cases h3 : 0 ≤ E
                  · have d3 : decide ((0 : Int) ≤ E) = true := decide_eq_true h3
                    by_cases h4 : E ≤ n
                    · exfalso; omega
                    · have d4 : decide (E ≤ n) = false := decide_eq_false h4
                      go_wp2
                      go_quiet (fail)
                      have HS6 := hid (HS1.out.below (drewN_below _ nq _))
                      have HB6 := hid (HB1.out.trans (drewN_below _ nq _))
                      clear HS1 HB1 c0 c1
                      generalize (wr.alloc (.cells #[.int .i64 E, .int .i64 K] 35)).drewN nq = w6 at HS6 HB6 ⊢
                      go_wp2
                      go_roundw
                      case rel => exact ⟨i + 1, N, xs, by go_num, by omega, by omega, HS6.out, by show Made _ _ _ _; rw [HTK.out]; exact hMd.out.skip (fun hv => by have h1 := hv.1; have h2 := hv.2.1; have h3 := hv.2.2.1; have h4 := hv.2.2.2.1; have h5 := hv.2.2.2.2; dsimp only at h1 h2 h3 h4 h5; omega), HB6.out⟩
                      case measure => simp [intOf]; omega
                  · have d3 : decide ((0 : Int) ≤ E) = false := decide_eq_false h3
                    go_wp2
                    go_quiet (fail)
                    have HS6 := hid (HS1.out.below (drewN_below _ nq _))
                    have HB6 := hid (HB1.out.trans (drewN_below _ nq _))
                    clear HS1 HB1 c0 c1
                    generalize (wr.alloc (.cells #[.int .i64 E, .int .i64 K] 35)).drewN nq = w6 at HS6 HB6 ⊢
                    go_wp2
                    go_roundw
                    case rel => exact ⟨i + 1, N, xs, by go_num, by omega, by omega, HS6.out, by show Made _ _ _ _; rw [HTK.out]; exact hMd.out.skip (fun hv => by have h1 := hv.1; have h2 := hv.2.1; have h3 := hv.2.2.1; have h4 := hv.2.2.2.1; have h5 := hv.2.2.2.2; dsimp only at h1 h2 h3 h4 h5; omega), HB6.out⟩
                    case measure => simp [intOf]; omega
                · have d2 : decide (K < (L.length : Int)) = false := decide_eq_false h2
                  go_wp2
                  go_quiet (fail)
                  have HS6 := hid (HS1.out.below (drewN_below _ nq _))
                  have HB6 := hid (HB1.out.trans (drewN_below _ nq _))
                  clear HS1 HB1 c0 c1
                  generalize (wr.alloc (.cells #[.int .i64 E, .int .i64 K] 35)).drewN nq = w6 at HS6 HB6 ⊢
                  go_wp2
                  go_roundw
                  case rel => exact ⟨i + 1, N, xs, by go_num, by omega, by omega, HS6.out, by show Made _ _ _ _; rw [HTK.out]; exact hMd.out.skip (fun hv => by have h1 := hv.1; have h2 := hv.2.1; have h3 := hv.2.2.1; have h4 := hv.2.2.2.1; have h5 := hv.2.2.2.2; dsimp only at h1 h2 h3 h4 h5; omega), HB6.out⟩
                  case measure => simp [intOf]; omega
              · have d1 : decide ((0 : Int) ≤ K) = false := decide_eq_false h1
                go_wp2
                go_quiet (fail)
                have HS6 := hid (HS1.out.below (drewN_below _ nq _))
                have HB6 := hid (HB1.out.trans (drewN_below _ nq _))
                clear HS1 HB1 c0 c1
                generalize (wr.alloc (.cells #[.int .i64 E, .int .i64 K] 35)).drewN nq = w6 at HS6 HB6 ⊢
                go_wp2
                go_roundw
                case rel => exact ⟨i + 1, N, xs, by go_num, by omega, by omega, HS6.out, by show Made _ _ _ _; rw [HTK.out]; exact hMd.out.skip (fun hv => by have h1 := hv.1; have h2 := hv.2.1; have h3 := hv.2.2.1; have h4 := hv.2.2.2.1; have h5 := hv.2.2.2.2; dsimp only at h1 h2 h3 h4 h5; omega), HB6.out⟩
                case measure => simp [intOf]; omega
            · have hall : ((List.range len2).map z2).take i = (List.range len2).map z2 := List.take_of_length_le (by simp; omega)
              rw [hall] at hMd
              clear hall
              have hx0 : xs = [] := List.eq_nil_iff_forall_not_mem.2 (fun x hx => by have h1 := ((hMd.out.2 x).1 hx).2; have h2 := h1.2.2.1; have h3 := h1.2.2.2.1; omega)
              subst hx0
              have hle := fun ty => hS.out.len ty
              have HBq := hid (below_more HB5.out hBw.out)
              clear hS hMd hBw
              go_wp2
              go_loopw [14, 109] (fun vk vi wr2 => vk = .int .i64 0 ∧ vi = .int .i64 0 ∧ wr2 = wr) (fun _ _ _ => 0)
              case atStart => exact ⟨rfl, rfl, rfl⟩
              case round =>
                obtain ⟨rfl, rfl, rfl⟩ := hrel
                go_wp2
                go_ret
                exact ⟨by simp, HBq.out⟩
        · have hmx : max n 0 = n := by omega
          have hdn : decide ((1024 : Int) < n) = true := decide_eq_true (by omega)
          have hnz : ((0 : Int) == n) = false := beq_false_of_ne (by omega)
          have hnz2 : ((0 : Int) != n) = true := by rw [bne, hnz]; rfl
          have hmm := @run_makeMap Try.prog
          go_enter Try.func3, Try.ntmps3
          go_wp2_with (first
            | (go_at_call 7; refine (few_any H.out).mono ?_; rintro e w1 ⟨rfl, rfl⟩; rw [hd1])
            | (go_at_call 8; refine (alive_any _).mono ?_; rintro e w2 ⟨rfl, hb2⟩; have H2 := hid (H.out.below hb2); have HB2 := hid hb2; clear hb2)
            | (go_at_call 9; refine (phrases_fine H2.out.1 HF.out).mono ?_; rintro e w3 ⟨rfl, rfl⟩)
            | (go_at_call 10; refine (make_fine H2.out.1 HF.out).mono ?_; rintro e w4 ⟨p, rfl, hd4, hb4⟩; have HD := hid (dict_v hd4); have HL4 := hid (H2.out.1.below hb4); have HB4 := hid (below_more HB2.out hb4); clear hd4 hb4)
            | (go_at_call 11; refine (starts_off _ _ _ n (by omega)).mono ?_; rintro e w5 ⟨rfl, rfl⟩; have HL5 := hid HL4.out; have HB5 := hid HB4.out))

          have hbm : Below w5.heap.size w5 (w5.alloc (.map #[] 0)) := (Below.refl _ _).alloc (Nat.le_refl _) _
          have hsn := HitSet.new w5
          obtain ⟨b, hb⟩ : ∃ b, b = w5.heap.size := ⟨_, rfl⟩
          have HBB := hid hb
          rw [← hb] at hsn ⊢
          generalize w5.alloc (.map #[] 0) = wm at hbm hsn ⊢
          have HBM := hid hbm
          have HSN := hid hsn
          clear hb hbm hsn
          go_loopw [68] (fun vi wr => ∃ (i N : Nat) (xs : List (Int × Int)), vi = .int .i64 i ∧ i ≤ len2 ∧ N ≤ i ∧ Hid (HitSet wr b N xs) ∧ Hid (Made L (n) (((List.range len2).map z2).take i) xs) ∧ Hid (Below w5.heap.size w5 wr)) (fun vi _ => len2 - (intOf vi).toNat)
          case atStart => exact ⟨0, 0, [], rfl, by omega, by omega, HSN.out, made_nil _ _, HBM.out⟩
          case round =>
            clear HSN HBM
            obtain ⟨i, N, xs, rfl, hi, hN, hS, hMd, hBw⟩ := hrel
            by_cases hin : i < len2
            · rcases HI.out with h0 | ⟨gz, oz, rfl, hgz, hcz⟩
              · omega
              obtain ⟨hz0, hz1, hzw⟩ := hcz i hin
              have HTK := hid (take_hits z2 len2 i hin)
              obtain ⟨E, K, hEK⟩ : ∃ E K, z2 i = (E, K) := ⟨_, _, rfl⟩
              rw [hEK] at hz0 hz1 hzw HTK
              dsimp only at hz0 hz1
              have HBt := hid (below_more HB5.out hBw.out)
              have cz0 := (HBt.out.cell (p := ⟨gz, oz + i * 2, none⟩) hgz).trans hz0
              have cz1 := (HBt.out.cell (p := ⟨gz, oz + i * 2 + 1, none⟩) hgz).trans hz1
              have hx : (decide ((0 : Int) ≤ (i : Int) ∧ (i : Int) < (len2 : Int))) = true := decide_eq_true ⟨by omega, by omega⟩
              have hwa : Below wr.heap.size wr (wr.alloc (.cells #[.int .i64 E, .int .i64 K] 35)) := (Below.refl _ _).alloc (Nat.le_refl _) _
              have HS1 := hid (hS.out.below hwa)
              have HB1 := hid (below_more hBw.out hwa)
              obtain ⟨c0, c1⟩ := hit_cells (heap_alloc_new wr (.cells #[.int .i64 E, .int .i64 K] 35))
              have HWF := hid hzw
              clear hEK hcz hz0 hz1 hwa hS hBw hzw
              by_cases h1 : 0 ≤ K
              · have d1 : decide ((0 : Int) ≤ K) = true := decide_eq_true h1
                by_cases h2 : K < (L.length : Int)
                · have d2 : decide (K < (L.length : Int)) = true := decide_eq_true h2
                  by_cases h3 : 0 ≤ E
                  · have d3 : decide ((0 : Int) ≤ E) = true := decide_eq_true h3
                    by_cases h4 : E ≤ n
                    · have d4 : decide (E ≤ n) = true := decide_eq_true h4
                      obtain ⟨id, rfl⟩ : ∃ id : Nat, K = (id : Int) := ⟨K.toNat, by omega⟩
                      have hidL : id < L.length := by omega
                      obtain ⟨a9, c9, hv9, h9⟩ := (HL5.out.below (HB1.out)) 
                      injection hv9 with q1 q2 q3
                      rcases h9 with h9 | ⟨gb, ob, rfl, hgb, hcb⟩
                      · rw [strs_length] at h9; omega
                      subst q1
                      have cs := hcb id (by rw [strs_length]; exact hidL)
                      rw [strs_at L id hidL] at cs
                      have hle := lenL_at hidL
                      obtain ⟨s, hs⟩ : ∃ s, s = L[id]'hidL := ⟨_, rfl⟩
                      rw [← hs] at cs hle
                      have hxi : (decide ((0 : Int) ≤ (id : Int) ∧ (id : Int) < (L.length : Int))) = true := decide_eq_true ⟨by omega, by omega⟩
                      clear hs hcb q2 q3
                      by_cases h5 : (s.size : Int) ≤ E
                      · have d5 : decide ((s.size : Int) ≤ E) = true := decide_eq_true h5
                        have HV : Hid (ValidH L (n) (E, (id : Int))) := ⟨h1, h2, h3, h4, by simp only [Int.toNat_natCast]; omega⟩
                        go_wp2
                        go_quiet (fail)
                        have HS6 := hid (HS1.out.below (drewN_below _ nq _))
                        have HB6 := hid (HB1.out.trans (drewN_below _ nq _))
                        have HC6 : Hid (((wr.alloc (.cells #[.int .i64 E, .int .i64 (id : Int)] 35)).drewN nq).cell? ⟨wr.heap.size, 0, none⟩ = some (.int .i64 E) ∧ ((wr.alloc (.cells #[.int .i64 E, .int .i64 (id : Int)] 35)).drewN nq).cell? ⟨wr.heap.size, 1, none⟩ = some (.int .i64 (id : Int))) := ⟨keeps (drewN_below _ nq _) _ _ c0, keeps (drewN_below _ nq _) _ _ c1⟩
                        clear HS1 HB1 c0 c1
                        generalize (wr.alloc (.cells #[.int .i64 E, .int .i64 (id : Int)] 35)).drewN nq = w6 at HS6 HB6 HC6 ⊢
                        have c0 : w6.cell? ⟨wr.heap.size, 0, none⟩ = some (.int .i64 E) := by rw [HC6.out.1]
                        have c1 : w6.cell? ⟨wr.heap.size, 1, none⟩ = some (.int .i64 (id : Int)) := by rw [HC6.out.2]
                        obtain ⟨w7, hrun, hs7, hk7⟩ := HS6.out.add (E, (id : Int)) HWF.out (by omega)
                        have HS7 := hid hs7
                        have HB7 := hid (HB6.out.trans (hk7.below HB6.out.size (by rintro k rfl; rw [← HBB.out]; exact Nat.le_refl _)))
                        have hrun2 : (Instr.mapUpdate 33 (.map (some b)) (.agg #[.int .i64 E, .int .i64 (id : Int)]) (.bool true)).run Try.prog w6 = .ok () w7 := hrun
                        clear hs7 hk7 hrun HS6 HB6 HC6
                        go_wp2
                        go_roundw
                        case rel => exact ⟨i + 1, N + 1, addH xs (E, (id : Int)), by go_num, by omega, by omega, HS7.out, by show Made _ _ _ _; rw [HTK.out]; exact hMd.out.add HV.out, HB7.out⟩
                        case measure => simp [intOf]; omega
                      · have d5 : decide ((s.size : Int) ≤ E) = false := decide_eq_false h5
                        go_wp2
                        go_quiet (fail)
                        have HS6 := hid (HS1.out.below (drewN_below _ nq _))
                        have HB6 := hid (HB1.out.trans (drewN_below _ nq _))
                        clear HS1 HB1 c0 c1
                        generalize (wr.alloc (.cells #[.int .i64 E, .int .i64 (id : Int)] 35)).drewN nq = w6 at HS6 HB6 ⊢
                        go_wp2
                        go_roundw
                        case rel => exact ⟨i + 1, N, xs, by go_num, by omega, by omega, HS6.out, by show Made _ _ _ _; rw [HTK.out]; exact hMd.out.skip (fun hv => by have h1 := hv.1; have h2 := hv.2.1; have h3 := hv.2.2.1; have h4 := hv.2.2.2.1; have h5 := hv.2.2.2.2; simp only [Int.toNat_natCast] at h1 h2 h3 h4 h5; omega), HB6.out⟩
                        case measure => simp [intOf]; omega
                    · have d4 : decide (E ≤ n) = false := decide_eq_false h4
                      go_wp2
                      go_quiet (fail)
                      have HS6 := hid (HS1.out.below (drewN_below _ nq _))
                      have HB6 := hid (HB1.out.trans (drewN_below _ nq _))
                      clear HS1 HB1 c0 c1
                      generalize (wr.alloc (.cells #[.int .i64 E, .int .i64 K] 35)).drewN nq = w6 at HS6 HB6 ⊢
                      go_wp2
                      go_roundw
                      case rel => exact ⟨i + 1, N, xs, by go_num, by omega, by omega, HS6.out, by show Made _ _ _ _; rw [HTK.out]; exact hMd.out.skip (fun hv => by have h1 := hv.1; have h2 := hv.2.1; have h3 := hv.2.2.1; have h4 := hv.2.2.2.1; have h5 := hv.2.2.2.2; dsimp only at h1 h2 h3 h4 h5; omega), HB6.out⟩
                      case measure => simp [intOf]; omega
                  · have d3 : decide ((0 : Int) ≤ E) = false := decide_eq_false h3
                    go_wp2
                    go_quiet (fail)
                    have HS6 := hid (HS1.out.below (drewN_below _ nq _))
                    have HB6 := hid (HB1.out.trans (drewN_below _ nq _))
                    clear HS1 HB1 c0 c1
                    generalize (wr.alloc (.cells #[.int .i64 E, .int .i64 K] 35)).drewN nq = w6 at HS6 HB6 ⊢
                    go_wp2
                    go_roundw
                    case rel => exact ⟨i + 1, N, xs, by go_num, by omega, by omega, HS6.out, by show Made _ _ _ _; rw [HTK.out]; exact hMd.out.skip (fun hv => by have h1 := hv.1; have h2 := hv.2.1; have h3 := hv.2.2.1; have h4 := hv.2.2.2.1; have h5 := hv.2.2.2.2; dsimp only at h1 h2 h3 h4 h5; omega), HB6.out⟩
                    case measure => simp [intOf]; omega
                · have d2 : decide (K < (L.length : Int)) = false := decide_eq_false h2
                  go_wp2
                  go_quiet (fail)
                  have HS6 := hid (HS1.out.below (drewN_below _ nq _))
                  have HB6 := hid (HB1.out.trans (drewN_below _ nq _))
                  clear HS1 HB1 c0 c1
                  generalize (wr.alloc (.cells #[.int .i64 E, .int .i64 K] 35)).drewN nq = w6 at HS6 HB6 ⊢
                  go_wp2
                  go_roundw
                  case rel => exact ⟨i + 1, N, xs, by go_num, by omega, by omega, HS6.out, by show Made _ _ _ _; rw [HTK.out]; exact hMd.out.skip (fun hv => by have h1 := hv.1; have h2 := hv.2.1; have h3 := hv.2.2.1; have h4 := hv.2.2.2.1; have h5 := hv.2.2.2.2; dsimp only at h1 h2 h3 h4 h5; omega), HB6.out⟩
                  case measure => simp [intOf]; omega
              · have d1 : decide ((0 : Int) ≤ K) = false := decide_eq_false h1
                go_wp2
                go_quiet (fail)
                have HS6 := hid (HS1.out.below (drewN_below _ nq _))
                have HB6 := hid (HB1.out.trans (drewN_below _ nq _))
                clear HS1 HB1 c0 c1
                generalize (wr.alloc (.cells #[.int .i64 E, .int .i64 K] 35)).drewN nq = w6 at HS6 HB6 ⊢
                go_wp2
                go_roundw
                case rel => exact ⟨i + 1, N, xs, by go_num, by omega, by omega, HS6.out, by show Made _ _ _ _; rw [HTK.out]; exact hMd.out.skip (fun hv => by have h1 := hv.1; have h2 := hv.2.1; have h3 := hv.2.2.1; have h4 := hv.2.2.2.1; have h5 := hv.2.2.2.2; dsimp only at h1 h2 h3 h4 h5; omega), HB6.out⟩
                case measure => simp [intOf]; omega
            · have hall : ((List.range len2).map z2).take i = (List.range len2).map z2 := List.take_of_length_le (by simp; omega)
              rw [hall] at hMd
              clear hall
              by_cases hx0 : xs.length = 0
              · have hxe : ((0 : Int) == (xs.length : Int)) = true := by rw [hx0]; rfl
                have hxe2 : ((0 : Int) != (xs.length : Int)) = false := by rw [bne, hxe]; rfl
                have hle := fun ty => hS.out.len ty
                have HBq := hid (below_more HB5.out hBw.out)
                clear hS hMd hBw
                go_wp2
                go_loopw [14, 109] (fun vk vi wr2 => vk = .int .i64 0 ∧ vi = .int .i64 0 ∧ wr2 = wr) (fun _ _ _ => 0)
                case atStart => exact ⟨rfl, rfl, rfl⟩
                case round =>
                  obtain ⟨rfl, rfl, rfl⟩ := hrel
                  go_wp2
                  go_ret
                  exact ⟨by simp, HBq.out⟩
              · have hxe : ((0 : Int) == (xs.length : Int)) = false := beq_false_of_ne (by omega)
                have hxe2 : ((0 : Int) != (xs.length : Int)) = true := by rw [bne, hxe]; rfl
                have hle := fun ty => hS.out.len ty
                have HBq := hid (below_more HB5.out hBw.out)
                clear hS hMd hBw
                go_wp2
                go_loopw [14, 109] (fun vk vi wr2 => vk = .int .i64 0 ∧ vi = .int .i64 0 ∧ wr2 = wr) (fun _ _ _ => 0)
                case atStart => exact ⟨rfl, rfl, rfl⟩
                case round =>
                  obtain ⟨rfl, rfl, rfl⟩ := hrel
                  go_wp2
                  go_ret
                  exact ⟨by simp, HBq.out⟩
      · go_enter Try.func3, Try.ntmps3
        have hc0 : ¬ cd = 0 := bad_code hL
        go_wp2_with (first
          | (go_at_call 7; refine (few_any H.out).mono ?_; rintro e w1 ⟨rfl, rfl⟩; rw [hd1])
          | (go_at_call 8; refine (alive_any _).mono ?_; rintro e w2 ⟨rfl, hb2⟩; have H2 := hid (H.out.below hb2))
          | (go_at_call 9; refine (phrases_bad H2.out.1 hsz.1 (fun s hs => by have := hsz.2 s hs; omega) hL).mono ?_; rintro e w3 ⟨rfl, rfl⟩))
        go_ret
        exact ⟨rfl, hb2⟩
    · have hdb : decide ((100 : Int) < (len2 : Int)) = true := decide_eq_true (by omega)
      have hdb2 : decide (100 < len2) = true := decide_eq_true (by omega)
      go_enter Try.func3, Try.ntmps3
      go_wp2_with (first
        | (go_at_call 7; refine (few_any H.out).mono ?_; rintro e w1 ⟨rfl, rfl⟩; rw [hd1])
        | (go_at_call 8; refine (alive_any _).mono ?_; rintro e w2 ⟨rfl, hb2⟩))
      go_ret
      exact ⟨rfl, hb2⟩
  · have hd1 : fewB L = false := decide_eq_false hf
    go_enter Try.func3, Try.ntmps3
    go_wp2_with (first
      | (go_at_call 7; refine (few_any H.out).mono ?_; rintro e w1 ⟨rfl, rfl⟩; rw [hd1])
      | (go_at_call 8; refine (alive_any _).mono ?_; rintro e w2 ⟨rfl, hb2⟩))
    go_ret
    exact ⟨rfl, hb2⟩

set_option linter.unusedVariables false
theorem hitsAny_own : ownKnob Try.prog.godebug = none := by kernel_rfl

theorem hitsAny_laidOut : laidOutB Try.prog = true := by kernel_rfl

set_option maxRecDepth 100000 in
theorem hitsAny_lifted (os : Os) (started : os.Started) (H : Type) (enc : TypeId × Value → H) :
    ReturnsInHanded {} Try.checked os 3 .any (Rows.hitsAnySpec.pre6 enc Try.prog Try.f3 Rows.hitsAnyRow.domain false) (Rows.hitsAnySpec.post enc Try.prog Try.f3 false true false false) := by
  refine returnsInHanded_of_change_sized (C := Try.checked) hitsAny_own started (by kernel_rfl) Try.func3
    (ChangeSpec.witness6 (enc := enc) (C := Try.checked) false ⟨#[], #[.slice none 0 0, .int .i64 0, .slice none 0 0], []⟩ 8 (by kernel_rfl) (by kernel_rfl) (by kernel_rfl) (by kernel_rfl)) ?_
  intro W base args ds gs before hval0 hW hcnd hsz0 _
  have hsz : (DataW.weightsEach Try.prog (Try.f3.params.toList ++ Rows.hitsAnySpec.plain.varTypes Try.prog) (ds ++ gs)).all (· ≤ reachBytes) = true := hsz0
  have hval : ∀ (j : Nat) t v, Try.f3.params[j]? = some t → args[j]? = some v → Value.okWide Try.prog W .any base t v := hval0
  have hW' := hW
  obtain ⟨p, q, hA0, hV, rfl, hfz, hnd⟩ := hW
  have hA : DataW.TrodAll enc Try.prog W 0 (fun _ => true) true Try.f3.params.toList args.toList ds p := hA0
  rw [Try.params3] at hA hval hsz
  obtain ⟨v0, vs0, d0, ds0, p0, q0, hargs, rfl, rfl, h0, r0⟩ := trodAll_cons hA
  obtain ⟨v1, vs1, d1, ds1, p1, q1, rfl, rfl, rfl, h1, r1⟩ := trodAll_cons r0
  obtain ⟨v2, vs2, d2, ds2, p2, q2, rfl, rfl, rfl, h2, r2⟩ := trodAll_cons r1
  obtain ⟨rfl, rfl, rfl⟩ := trodAll_nil r2
  obtain rfl : args = #[v0, v1, v2] := by cases args; simp_all
  obtain ⟨rfl, rfl⟩ := trodVars_none hV
  obtain ⟨a0, len0, cap0, rfl⟩ := okWide_slice Try.underlying22 (hval 0 22 v0 rfl rfl)
  have k0 := h0
  have lt0 : ∀ x ∈ p0, x.block < W.heap.size := by obtain ⟨m, hm⟩ := k0; exact DataW.trod_lt m _ _ _ hm
  obtain ⟨z0, w0⟩ := h0.elim (fun _ hf => open_list hf hsz 0 rfl rfl)
  obtain ⟨a1, rfl, rfl, rfl, w1⟩ := open_int Try.underlying3 (hval 1 3 v1 rfl rfl) h1
  obtain ⟨a2, len2, cap2, rfl⟩ := okWide_slice Try.underlying23 (hval 2 23 v2 rfl rfl)
  have k2 := h2
  have lt2 : ∀ x ∈ p2, x.block < W.heap.size := by obtain ⟨m, hm⟩ := k2; exact DataW.trod_lt m _ _ _ hm
  obtain ⟨z2, w2⟩ := h2.elim (fun _ hf => open_hits hf)
  clear hA0 hval0
  refine (any_walk _ z0 a1 a2 len2 cap2 z2 W w0 w2).mono fun e W' ⟨he, bel⟩ => ?_
  subst he
  exact ⟨_, rfl, _, _, _, [], _, [], hW', trodAll_mk1 (shut_bool Try.underlying4 _), (trodAll_cons_mk (Below.trod hitsAny_laidOut (by kernel_rfl) (of_decide_eq_true (by kernel_rfl)) k0 bel lt0) (trodAll_cons_mk (shut_int Try.underlying3 w1) (trodAll_cons_mk (Below.trod hitsAny_laidOut (by kernel_rfl) (of_decide_eq_true (by kernel_rfl)) k2 bel lt2) trodAll_mk0))), rfl, bel.frame _, fun h => by cases h⟩

/-- THE STATEMENT. -/
theorem hitsAny_holds : Rows.HitsAnySaid :=
  OpenClaim.holds_of_wide 3 Try.f3 rfl rfl rfl rfl rfl rfl rfl ⟨rfl, rfl, rfl, rfl, rfl⟩ rfl rfl rfl rfl rfl (by kernel_rfl) Try.func3 (by kernel_rfl)
    (of_decide_eq_true (by kernel_rfl)) (by unfold Func.isWrapper; first | (rw [if_pos (by decide +kernel)]; kernel_rfl) | (rw [if_neg (by decide +kernel)]; exact ⟨rfl, rfl⟩))
    (fun os started H enc _ => hitsAny_lifted os started H enc)
#print axioms hitsAny_holds
end Go.Proofs.Ytfeibhdnmfiflaa
