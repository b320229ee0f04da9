/-
  Contract of package scan: the phrases that end where a scanner is (appendHits).
-/
import Derived.Test.YtfeibhdnmfiflaaScan1
import Derived.Test.YtfeibhdnmfiflaaHitRows
namespace Go.Proofs.Ytfeibhdnmfiflaa
open Go.ChangeShapes Go.WideShapes Go.ChangeAt Go.RowKit

set_option maxRecDepth 20000 in
set_option maxHeartbeats 4000000 in
theorem appendHits_any {w0 w : World} {p l t n j base : Nat} {A P : List (List Nat)} (hl : LinksAt w0 l t A P (wordOf P)) (hb : Below w0.heap.size w0 w) (hlo : w0.heap.size ≤ p) (hpb : p < base) (hbase : base ≤ w.heap.size) (hc : w.heap[p]? = some (.cells #[.pointer (some ⟨l, 0, none⟩), .int .i64 (j : Int), .int .i64 (n : Int)] 89 (0, 0))) (hj : j < A.length) (hP : ∀ s ∈ P, s ∈ A) (h0 : [] ∉ P) (h40 : ∀ x ∈ P, x.length ≤ 40) (v : Value) (K0 : Nat) (X : List (Int × Int)) (hv : w.ownsRow base 35 2 v K0 (hcells X)) (hX : K0 ≤ 900000) :
    Calls Try.prog 44 #[.pointer (some ⟨p, 0, none⟩), v] w fun e w' => ∃ v' k, e = .returned v' ∧ w'.ownsRow base 35 2 v' k (hcells (X ++ hitsN P n (endsT P (txt A j)))) ∧ Below base w w' := by
  obtain ⟨c0, c1, c2, f1, f2⟩ := scan_cells hc
  obtain ⟨i0, hi0, hz0, hz1, hz2⟩ := info_parts Try.infoHit
  obtain ⟨B, ht⟩ := (hl.later hb).trie
  have HL := hid (hl.later hb)
  have HT := hid ht
  have HP := hid hP
  have H0 := hid h0
  have HN := hid ht.nodes
  have HF := hid (endsT_few P 40 h40 (txt A j))
  have HLK : Hid (∀ W : World, Below base w W → LinksAt W l t A P (wordOf P)) := fun W hW => hl.later (hb.trans (hW.mono (Nat.le_trans hlo (Nat.le_of_lt hpb))))
  have HCK : Hid (∀ W : World, Below base w W → W.heap[p]? = some (.cells #[.pointer (some ⟨l, 0, none⟩), .int .i64 (j : Int), .int .i64 (n : Int)] 89 (0, 0))) := fun W hW => (hW.block p hpb).trans hc
  have HV := hid hv
  have HX := hid hX
  have hX0 : hcells X = hcells (X ++ hitsN P n []) := by rw [hitsN]; simp
  have HX0 := hid hX0
  clear hl hb hP h0 h40 ht hv hc hlo hX0
  obtain ⟨m0, k, HS, HW, HO, HM⟩ : ∃ (m0 : Nat) (k : Int), Hid (endsT P (txt A j) = restN A P m0 ∧ m0 < A.length ∧ (m0 ≠ 0 → txt A m0 ∈ P)) ∧ Hid (Calls Try.prog 59 #[.pointer (some ⟨t, 0, none⟩), .int .i64 (j : Int)] w fun e w' => e = .returned (.int .i64 k) ∧ w' = w) ∧ Hid (k = -1 → Calls Try.prog 60 #[.pointer (some ⟨l, 0, none⟩), .int .i64 (j : Int)] w fun e w' => e = .returned (.int .i64 (m0 : Int)) ∧ ∃ q, w' = w.drewN q) ∧ Hid (k ≠ -1 → j = m0) := by
    have hw := word_txt HT.out j hj
    by_cases hm : txt A j ∈ P
    · rw [wordOf, if_pos hm] at hw
      exact ⟨j, _, ⟨endsT_phrase HN.out H0.out _ hm, hj, fun _ => hm⟩, hw, fun h => absurd h (by omega), fun _ => rfl⟩
    · rw [wordOf, if_neg hm] at hw
      exact ⟨RU A P j, -1, ⟨endsT_none HN.out HP.out H0.out _ hm, RU_in HN.out HP.out _, fun h => (RU_less HP.out _ h).2.1⟩, hw, fun _ => out_in HL.out j hj, fun h => absurd rfl h⟩
  obtain ⟨hs1, hm0, hs2⟩ := HS.out
  have HS1 := hid hs1
  have HS2 := hid hs2
  clear HS hs1 hs2
  by_cases hk1 : k = -1
  all_goals
    first
    | have hk2 : (k == -1) = true := by rw [hk1]; rfl
    | have hk2 : (k == -1) = false := beq_false_of_ne hk1
    go_enter Try.func44, Try.ntmps44
    go_wp2_with (first
      | (go_at_call 57; refine (trieL_in HL.out).mono ?_; rintro e w5 ⟨rfl, rfl⟩)
      | (go_at_call 59; refine (HW.out).mono ?_; rintro e w7 ⟨rfl, hq7⟩; have HB7 : Hid (Below base w5 w7) := (by rw [hq7]; exact Below.refl _ _); have HQ := hid hq7; rw [hq7]; clear hq7)
      | (go_at_call 60; refine (HO.out hk1).mono ?_; rintro e w8 ⟨rfl, q8, hq8⟩; have HB8 : Hid (Below base w5 w8) := (by rw [hq8]; exact drewN_below _ _ _); have HR8 : Hid (Below w5.heap.size w5 w8) := (by rw [hq8]; exact drewN_below _ _ _); clear hq8))
    go_loopw [1, 6] (fun u vm wr => ∃ (m K : Nat) (ys : List (List Nat)), vm = .int .i64 m ∧ m < A.length ∧ Hid (endsT P (txt A j) = ys ++ restN A P m) ∧ Hid (m ≠ 0 → txt A m ∈ P) ∧ Hid (K = K0 + ys.length) ∧ Hid (wr.ownsRow base 35 2 u K (hcells (X ++ hitsN P n ys))) ∧ Hid (Below base w5 wr)) (fun _ vm _ => (txt A (intOf vm).toNat).length)
    case atStart =>
      first
      | exact ⟨m0, K0, [], rfl, hm0, HS1.out, HS2.out, rfl, by show World.ownsRow _ _ _ _ _ _ _; rw [← HX0.out]; exact ownsRow_below HV.out HR8.out, HB8.out⟩
      | exact ⟨m0, K0, [], by rw [HM.out hk1], hm0, HS1.out, HS2.out, rfl, by show World.ownsRow _ _ _ _ _ _ _; rw [← HX0.out]; exact HV.out, Below.refl _ _⟩
    case round =>
      obtain ⟨m, K, ys, rfl, hmA, hE, hmP, hK, hown, hbl⟩ := hrel
      by_cases h0 : m = 0
      · subst h0
        have hE2 := hE.out
        rw [show restN A P 0 = [] from rfl, List.append_nil] at hE2
        have HE2 := hid hE2
        clear hE2 hE
        go_wp2
        go_ret
        exact ⟨_, K, rfl, by rw [HE2.out]; exact hown.out, hbl.out⟩
      · have hyP := hmP.out h0
        have hE2 := hE.out
        rw [restN_phrase HN.out HP.out H0.out m hyP] at hE2
        have hyl : ys.length + 1 ≤ 40 := by have h := HF.out; rw [hE2] at h; simp at h; omega
        rw [List.append_cons] at hE2
        have HE2 := hid hE2
        have hK9 : K ≤ 900040 := by have := hK.out; have := HX.out; omega
        obtain ⟨k2, hk2'⟩ : ∃ k2, k2 = P.idxOf (txt A m) := ⟨_, rfl⟩
        have HW2 : Hid (∀ W : World, (∃ B, TrieAt W B t A (wordOf P)) → Calls Try.prog 59 #[.pointer (some ⟨t, 0, none⟩), .int .i64 (m : Int)] W fun e w' => e = .returned (.int .i64 (k2 : Int)) ∧ w' = W) := fun W ⟨B, hW⟩ => by
          have := word_txt hW m hmA
          rw [wordOf, if_pos hyP, ← hk2'] at this
          exact this
        have HK2 := hid hk2'
        have HY := hid hyP
        have hne : txt A m ≠ [] := fun e => h0 (txt_nil HN.out hmA e)
        have hsh : (txt A (RU A P m)).length < (txt A m).length := by
          by_cases hz : RU A P m = 0
          · rw [hz, txt_zero HN.out]
            exact List.length_pos_iff.2 hne
          · exact (RU_less HP.out m hz).2.2
        have HRU : Hid (RU A P m < A.length ∧ (RU A P m ≠ 0 → txt A (RU A P m) ∈ P)) := ⟨RU_in HN.out HP.out m, fun h => (RU_less HP.out m h).2.1⟩
        have HO2 : Hid (∀ W : World, LinksAt W l t A P (wordOf P) → Calls Try.prog 60 #[.pointer (some ⟨l, 0, none⟩), .int .i64 (m : Int)] W fun e w' => e = .returned (.int .i64 (RU A P m : Int)) ∧ ∃ q, w' = W.drewN q) := fun W hW => out_in hW m hmA
        generalize RU A P m = m2 at *
        have HSH := hid hsh
        have hbd : Below base w5 wr.drew := hbl.out.drew
        have hownd : wr.drew.ownsRow base 35 2 u1 K (hcells (X ++ hitsN P n ys)) := hown.out
        have HLd : Hid (LinksAt wr.drew l t A P (wordOf P)) := HLK.out _ hbd
        obtain ⟨e0, e1, e2, e3, e4⟩ := scan_cells (HCK.out _ hbd)
        have hg0 : ((m : Int) == 0) = false := beq_false_of_ne (by omega)
        have hg1 : ((m : Int) != 0) = true := by rw [bne, hg0]; rfl
        clear hE hE2 hmP hyP hne hsh hk2' hg0
        go_wp2
        go_region_law (first
          | (have _h := later; refine step_append_keeps _ (by rfl) (.tmp 28) (.tmp 37) 23 (by rfl) base 35 i0 (.agg #[.int .i64 0, .int .i64 0]) 2 16 Try.underlying23 hi0 hz0 hz1 hz2 (by rfl) (by decide) u1 K (hcells (X ++ hitsN P n ys)) (by simp [Act.eval]) (hown2.alloc _) ⟨w2.heap.size, 0, none⟩ 1 1 [.int .i64 (n : Int), .int .i64 (k2 : Int)] (by simp [Act.eval]) (by rfl) (World.news_of_block (heap_alloc_new w2 _)) (by intro u hu; simp at hu; rcases hu with rfl | rfl <;> rfl) (by decide) (by unfold maxLen; omega) (by omega) (by simp; omega) ?_; intro g cap' w3 hown3 hgrow hat hlt3 hold; have HB3 : Hid (Below base w5 w3) := ((hbd2.alloc (by omega) _).grown hgrow (by simp; omega) (fun k hk => (hown2.lt k hk).1)); obtain ⟨d0, d1, d2, d3, d4⟩ := scan_cells (HCK.out w3 HB3.out))
          | (go_simp; go_at_call 59; refine (HW2.out _ HLd.out.trie).mono ?_; rintro e w2 ⟨rfl, hw2⟩; have later : True := trivial; have hown2 : w2.ownsRow base 35 2 u1 K (hcells (X ++ hitsN P n ys)) := (by rw [hw2]; exact hownd); have hbd2 : Below base w5 w2 := (by rw [hw2]; exact hbd); have hsz2 : base ≤ w2.heap.size := Nat.le_trans hbase hbd2.size; have e22 : w2.cell? ⟨p, 2, none⟩ = some (.int .i64 (n : Int)) := (by rw [hw2]; exact e2); clear hw2))
        all_goals have H3 := hid hown3
        all_goals clear hown3 hgrow hat hold hlt3 hown2 hbd2 hsz2 e22 hownd hbd e0 e1 e2 e3 e4 later _h
        all_goals
          go_wp2_with (go_at_call 60; refine (HO2.out _ (HLK.out _ HB3.out)).mono ?_; rintro e w4 ⟨rfl, q4, hq4⟩; have HB4 : Hid (Below base w5 w4) := (by rw [hq4]; exact HB3.out.trans (drewN_below _ _ _)); have HR4 : Hid (Below w3.heap.size w3 w4) := (by rw [hq4]; exact drewN_below _ _ _); clear hq4)
          go_roundw
          case rel =>
            refine ⟨m2, K + 1, ys ++ [txt A m], rfl, HRU.out.1, HE2.out, HRU.out.2, by show _ = _; rw [hK.out, List.length_append]; rfl, ?_, HB4.out⟩
            have h4 := ownsRow_below H3.out HR4.out
            show World.ownsRow _ _ _ _ _ _ _
            rw [← hitsN_snoc, ← List.append_assoc, ← hcells_append, ← HK2.out]
            exact h4
          case measure => have := HSH.out; simp [intOf]; omega
end Go.Proofs.Ytfeibhdnmfiflaa
