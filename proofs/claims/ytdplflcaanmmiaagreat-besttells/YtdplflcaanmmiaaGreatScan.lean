/-
  Contracts of package scan: where a byte leads (Step); a scanner, what New, Node, At, Reset answer. Contract of package scan: the phrases that end where a scanner is (appendHits). Contracts of package scan: Feed, All.
-/
import Derived.Test.YtdplflcaanmmiaaGreatLinksG
import Derived.Test.YtdplflcaanmmiaaGreatNodeCalls
import Derived.Test.YtdplflcaanmmiaaGreatStepMath
import Derived.Test.YtdplflcaanmmiaaGreatHitRows
namespace Go.Proofs.YtdplflcaanmmiaaGreat
open Go.ChangeShapes Go.WideShapes Go.ChangeAt Go.RowKit

/-- A scanner at block p, of links at l that stand since w0; it was fed z, n bytes in all. -/
structure ScAt (w0 w : World) (p l t : Nat) (A P : List (List Nat)) (wd : List Nat → Int) (z : List Nat) (n : Nat) : Prop where
  links : LinksAt w0 l t A P wd
  below : Below w0.heap.size w0 w
  lo : w0.heap.size ≤ p
  cells : w.heap[p]? = some (.cells #[.pointer (some ⟨l, 0, none⟩), .int .i64 ((A.idxOf (longT A z) : Nat) : Int), .int .i64 (n : Int)] 152 (0, 0))

theorem ScAt.lt {w0 w : World} {p l t n : Nat} {A P : List (List Nat)} {wd : List Nat → Int} {z : List Nat} (h : ScAt w0 w p l t A P wd z n) : p < w.heap.size := (Array.getElem?_eq_some_iff.1 h.cells).1

theorem ScAt.other {w0 w w' : World} {p l t q n : Nat} {A P : List (List Nat)} {wd : List Nat → Int} {z : List Nat} (h : ScAt w0 w p l t A P wd z n) (hk : Kept (· = q) w w') (hq : p ≠ q) (hlo : w0.heap.size ≤ q) : ScAt w0 w' p l t A P wd z n :=
  { h with
    below := below_then h.below hk hlo
    cells := (hk.block p h.lt hq).trans h.cells }

theorem ScAt.later {w0 w w' : World} {p l t n : Nat} {A P : List (List Nat)} {wd : List Nat → Int} {z : List Nat} (h : ScAt w0 w p l t A P wd z n) (hb : Below w.heap.size w w') : ScAt w0 w' p l t A P wd z n :=
  { h with
    below := below_more h.below hb
    cells := (hb.block p h.lt).trans h.cells }

theorem ScAt.now {w0 w : World} {p l t n : Nat} {A P : List (List Nat)} {wd : List Nat → Int} {z : List Nat} (h : ScAt w0 w p l t A P wd z n) : LinksAt w l t A P wd := h.links.later h.below

theorem scan_cells {w : World} {p : Nat} {a b c : Value} (h : w.heap[p]? = some (.cells #[a, b, c] 152 (0, 0))) : w.cell? ⟨p, 0, none⟩ = some a ∧ w.cell? ⟨p, 1, none⟩ = some b ∧ w.cell? ⟨p, 2, none⟩ = some c ∧ w.frozen? ⟨p, 1, none⟩ = false ∧ w.frozen? ⟨p, 2, none⟩ = false := by
  simp [World.cell?, World.frozen?, h]

theorem scan_put {w : World} {p : Nat} {a b c : Value} (h : w.heap[p]? = some (.cells #[a, b, c] 152 (0, 0))) (b' c' : Value) : ((w.setCell ⟨p, 1, none⟩ b').setCell ⟨p, 2, none⟩ c').heap[p]? = some (.cells #[a, b', c'] 152 (0, 0)) := by
  simp only [World.setCell, Array.getElem?_modify, h]
  simp

set_option maxRecDepth 20000 in
set_option maxHeartbeats 2000000 in
theorem step_in {w : World} {l t : Nat} {A P : List (List Nat)} {wd : List Nat → Int} (h : LinksAt w l t A P wd) (hp : ∀ s c, s ++ [c] ∈ A → s ∈ A) (j0 : Nat) (hj : j0 < A.length) (c : Nat) (hc : c < 256) :
    Calls Tryz.prog 101 #[.pointer (some ⟨l, 0, none⟩), .int .i64 (j0 : Int), .int .u8 (c : Int)] w fun e w' => e = .returned (.int .i64 ((A.idxOf (longT A (txt A j0 ++ [c])) : Nat) : Int)) ∧ ∃ q, w' = w.drewN q := by
  obtain ⟨B, ht⟩ := h.trie
  have HT := hid ht
  have H := hid h
  have HP := hid hp
  have hd : decide ((A.length : Int) ≤ (j0 : Int)) = false := decide_eq_false (by omega)
  have hd2 : decide (A.length ≤ j0) = false := decide_eq_false (by omega)
  have hd3 : decide ((j0 : Int) < 0) = false := decide_eq_false (by omega)
  have HN := hid ht.nodes
  clear h hp ht
  go_enter Tryz.func101, Tryz.ntmps101
  go_wp2_with (first
    | (go_at_call 115; refine (trieL_in H.out).mono ?_; rintro e w1 ⟨rfl, rfl⟩)
    | (go_at_call 94; refine (len_trie HT.out).mono ?_; rintro e w2 ⟨rfl, rfl⟩))
  go_loopw [1] (fun vj wr => ∃ j q : Nat, vj = .int .i64 j ∧ j < A.length ∧ Hid (longT A (txt A j0 ++ [c]) = longT A (txt A j ++ [c])) ∧ wr = w2.drewN q) (fun vj _ => (txt A (intOf vj).toNat).length)
  case atStart => exact ⟨j0, 0, rfl, hj, rfl, rfl⟩
  case round =>
    obtain ⟨j, q, rfl, hjA, hE, rfl⟩ := hrel
    have HTq := hid (HT.out.drewN q)
    by_cases hm : txt A j ++ [c] ∈ A
    · have HR : Hid (longT A (txt A j0 ++ [c]) = txt A j ++ [c]) := by show _ = _; rw [hE.out, longT_at A _ hm]
      have hnx := next_in HTq.out j hjA c hc (by rw [← txt_at hjA]; exact hm)
      rw [← txt_at hjA, ← HR.out] at hnx
      have HX := hid hnx
      clear hnx hE hm
      go_wp2_with (go_at_call 108; refine (HX.out).mono ?_; rintro e w3 ⟨rfl, q3, rfl⟩)
      go_ret
      exact ⟨rfl, _, rfl⟩
    · have hnx := next_not HTq.out j hjA c hc (by rw [← txt_at hjA]; exact hm)
      have HX := hid hnx
      clear hnx
      by_cases h0 : j = 0
      · subst h0
        have HR : Hid (A.idxOf (longT A (txt A j0 ++ [c])) = 0) := by
          show _ = _
          rw [hE.out]
          rw [txt_zero HN.out, List.nil_append] at hm ⊢
          rw [longT_stop A c hm, idx_nil HN.out]
        clear hE hm
        go_wp2_with (go_at_call 108; refine (HX.out).mono ?_; rintro e w3 ⟨rfl, q3, rfl⟩)
        go_ret
        rw [HR.out]
        exact ⟨rfl, _, rfl⟩
      · have hne : txt A j ≠ [] := fun e => h0 (txt_nil HN.out hjA e)
        have HR : Hid (longT A (txt A j0 ++ [c]) = longT A (txt A (RF A j) ++ [c])) := by
          show _ = _
          rw [hE.out, RF_txt HN.out]
          exact longT_over A (nodes_mem0 HN.out) HP.out _ c hne hm
        have hsh : (txt A (RF A j)).length < (txt A j).length := by rw [RF_txt HN.out]; exact failT_short A _ hne
        have HFL : Hid (∀ k, Calls Tryz.prog 116 #[.pointer (some ⟨l, 0, none⟩), .int .i64 (j : Int)] (w2.drewN k) fun e w' => e = .returned (.int .i64 (RF A j : Int)) ∧ ∃ q, w' = (w2.drewN k).drewN q) := fun k => fail_in (H.out.later (drewN_below _ _ _)) j hjA
        have hfl := RF_lt HN.out j
        generalize RF A j = f at HR hsh HFL hfl
        have HSH := hid hsh
        clear hE hm hne hsh
        go_wp2_with (first
          | (go_at_call 108; refine (HX.out).mono ?_; rintro e w3 ⟨rfl, q3, rfl⟩)
          | (go_at_call 116; refine (HFL.out _).mono ?_; rintro e w4 ⟨rfl, q4, rfl⟩))
        go_roundw
        case rel =>
          exact ⟨f, _, rfl, hfl, HR.out, by first | rfl | (rw [World.drewN_drewN])⟩
        case measure => have := HSH.out; simp [intOf]; omega

set_option maxRecDepth 20000 in
set_option maxHeartbeats 2000000 in
theorem step_out {w : World} {l t : Nat} {A P : List (List Nat)} {wd : List Nat → Int} (h : LinksAt w l t A P wd) (i : Int) (hi : i < 0 ∨ (A.length : Int) ≤ i) (c : Int) :
    Calls Tryz.prog 101 #[.pointer (some ⟨l, 0, none⟩), .int .i64 i, .int .u8 c] w fun e w' => e = .returned (.int .i64 0) ∧ ∃ q, w' = w.drewN q := by
  obtain ⟨B, ht⟩ := h.trie
  have HT := hid ht
  have H := hid h
  clear h ht
  by_cases h0 : i < 0
  · go_enter Tryz.func101, Tryz.ntmps101
    go_wp2_with (first
      | (go_at_call 115; refine (trieL_in H.out).mono ?_; rintro e w1 ⟨rfl, rfl⟩)
      | (go_at_call 94; refine (len_trie HT.out).mono ?_; rintro e w2 ⟨rfl, rfl⟩))
    all_goals go_ret
    all_goals exact ⟨rfl, 0, rfl⟩
  · have hd : decide ((A.length : Int) ≤ i) = true := decide_eq_true (by omega)
    go_enter Tryz.func101, Tryz.ntmps101
    go_wp2_with (first
      | (go_at_call 115; refine (trieL_in H.out).mono ?_; rintro e w1 ⟨rfl, rfl⟩)
      | (go_at_call 94; refine (len_trie HT.out).mono ?_; rintro e w2 ⟨rfl, rfl⟩))
    all_goals go_ret
    all_goals exact ⟨rfl, 0, rfl⟩

theorem step_none (w : World) (i c : Int) : Calls Tryz.prog 101 #[.pointer none, .int .i64 i, .int .u8 c] w fun e w' => e = .returned (.int .i64 0) ∧ ∃ q, w' = w.drewN q := by
  by_cases h0 : i < 0
  · go_enter Tryz.func101, Tryz.ntmps101
    go_wp2_with (first
      | (go_at_call 115; refine (trieL_none _).mono ?_; rintro e w1 ⟨rfl, rfl⟩)
      | (go_at_call 94; refine (len_none _).mono ?_; rintro e w2 ⟨rfl, rfl⟩))
    all_goals go_ret
    all_goals exact ⟨rfl, 0, rfl⟩
  · have hd : decide ((0 : Int) ≤ i) = true := decide_eq_true (by omega)
    go_enter Tryz.func101, Tryz.ntmps101
    go_wp2_with (first
      | (go_at_call 115; refine (trieL_none _).mono ?_; rintro e w1 ⟨rfl, rfl⟩)
      | (go_at_call 94; refine (len_none _).mono ?_; rintro e w2 ⟨rfl, rfl⟩))
    all_goals go_ret
    all_goals exact ⟨rfl, 0, rfl⟩

theorem newS_in {w0 w : World} {l t : Nat} {A P : List (List Nat)} {wd : List Nat → Int} (h : LinksAt w0 l t A P wd) (hN : Nodes A) (hb : Below w0.heap.size w0 w) :
    Calls Tryz.prog 91 #[.pointer (some ⟨l, 0, none⟩)] w fun e w' => ∃ p, e = .returned (.pointer (some ⟨p, 0, none⟩)) ∧ ScAt w0 w' p l t A P wd [] 0 ∧ w.heap.size ≤ p ∧ Below w.heap.size w w' := by
  go_enter Tryz.func91, Tryz.ntmps91
  go_wp2
  go_ret
  refine ⟨_, rfl, ⟨h, hb.alloc hb.size _, hb.size, ?_⟩, Nat.le_refl _, (Below.refl _ _).alloc (Nat.le_refl _) _⟩
  rw [show longT A [] = [] from rfl, idx_nil hN]
  exact heap_alloc_new w _

theorem newS_none (w : World) : Calls Tryz.prog 91 #[.pointer none] w fun e w' => e = .returned (.pointer none) ∧ w' = w := by
  go_enter Tryz.func91, Tryz.ntmps91
  go_wp2
  go_ret
  exact ⟨rfl, rfl⟩

end Go.Proofs.YtdplflcaanmmiaaGreat

namespace Go.Proofs.YtdplflcaanmmiaaGreat
open Go.ChangeShapes Go.WideShapes Go.ChangeAt Go.RowKit

set_option maxRecDepth 20000 in
set_option maxHeartbeats 4000000 in
theorem appendHits_any {w0 w : World} {p l t n j base : Nat} {A P : List (List Nat)} (hl : LinksAt w0 l t A P (wordOf P)) (hb : Below w0.heap.size w0 w) (hlo : w0.heap.size ≤ p) (hpb : p < base) (hbase : base ≤ w.heap.size) (hc : w.heap[p]? = some (.cells #[.pointer (some ⟨l, 0, none⟩), .int .i64 (j : Int), .int .i64 (n : Int)] 152 (0, 0))) (hj : j < A.length) (hP : ∀ s ∈ P, s ∈ A) (h0 : [] ∉ P) (h40 : ∀ x ∈ P, x.length ≤ 40) (v : Value) (K0 : Nat) (X : List (Int × Int)) (hv : w.ownsRow base 110 2 v K0 (hcells X)) (hX : K0 ≤ 900000) :
    Calls Tryz.prog 102 #[.pointer (some ⟨p, 0, none⟩), v] w fun e w' => ∃ v' k, e = .returned v' ∧ w'.ownsRow base 110 2 v' k (hcells (X ++ hitsN P n (endsT P (txt A j)))) ∧ Below base w w' := by
  obtain ⟨c0, c1, c2, f1, f2⟩ := scan_cells hc
  obtain ⟨i0, hi0, hz0, hz1, hz2⟩ := info_parts Tryz.infoHit
  obtain ⟨B, ht⟩ := (hl.later hb).trie
  have HL := hid (hl.later hb)
  have HT := hid ht
  have HP := hid hP
  have H0 := hid h0
  have HN := hid ht.nodes
  have HF := hid (endsT_few P 40 h40 (txt A j))
  have HLK : Hid (∀ W : World, Below base w W → LinksAt W l t A P (wordOf P)) := fun W hW => hl.later (hb.trans (hW.mono (Nat.le_trans hlo (Nat.le_of_lt hpb))))
  have HCK : Hid (∀ W : World, Below base w W → W.heap[p]? = some (.cells #[.pointer (some ⟨l, 0, none⟩), .int .i64 (j : Int), .int .i64 (n : Int)] 152 (0, 0))) := fun W hW => (hW.block p hpb).trans hc
  have HV := hid hv
  have HX := hid hX
  have hX0 : hcells X = hcells (X ++ hitsN P n []) := by rw [hitsN]; simp
  have HX0 := hid hX0
  clear hl hb hP h0 h40 ht hv hc hlo hX0
  obtain ⟨m0, k, HS, HW, HO, HM⟩ : ∃ (m0 : Nat) (k : Int), Hid (endsT P (txt A j) = restN A P m0 ∧ m0 < A.length ∧ (m0 ≠ 0 → txt A m0 ∈ P)) ∧ Hid (Calls Tryz.prog 117 #[.pointer (some ⟨t, 0, none⟩), .int .i64 (j : Int)] w fun e w' => e = .returned (.int .i64 k) ∧ w' = w) ∧ Hid (k = -1 → Calls Tryz.prog 118 #[.pointer (some ⟨l, 0, none⟩), .int .i64 (j : Int)] w fun e w' => e = .returned (.int .i64 (m0 : Int)) ∧ ∃ q, w' = w.drewN q) ∧ Hid (k ≠ -1 → j = m0) := by
    have hw := word_txt HT.out j hj
    by_cases hm : txt A j ∈ P
    · rw [wordOf, if_pos hm] at hw
      exact ⟨j, _, ⟨endsT_phrase HN.out H0.out _ hm, hj, fun _ => hm⟩, hw, fun h => absurd h (by omega), fun _ => rfl⟩
    · rw [wordOf, if_neg hm] at hw
      exact ⟨RU A P j, -1, ⟨endsT_none HN.out HP.out H0.out _ hm, RU_in HN.out HP.out _, fun h => (RU_less HP.out _ h).2.1⟩, hw, fun _ => out_in HL.out j hj, fun h => absurd rfl h⟩
  obtain ⟨hs1, hm0, hs2⟩ := HS.out
  have HS1 := hid hs1
  have HS2 := hid hs2
  clear HS hs1 hs2
  by_cases hk1 : k = -1
  all_goals
    first
    | have hk2 : (k == -1) = true := by rw [hk1]; rfl
    | have hk2 : (k == -1) = false := beq_false_of_ne hk1
    go_enter Tryz.func102, Tryz.ntmps102
    go_wp2_with (first
      | (go_at_call 115; refine (trieL_in HL.out).mono ?_; rintro e w5 ⟨rfl, rfl⟩)
      | (go_at_call 117; refine (HW.out).mono ?_; rintro e w7 ⟨rfl, hq7⟩; have HB7 : Hid (Below base w5 w7) := (by rw [hq7]; exact Below.refl _ _); have HQ := hid hq7; rw [hq7]; clear hq7)
      | (go_at_call 118; refine (HO.out hk1).mono ?_; rintro e w8 ⟨rfl, q8, hq8⟩; have HB8 : Hid (Below base w5 w8) := (by rw [hq8]; exact drewN_below _ _ _); have HR8 : Hid (Below w5.heap.size w5 w8) := (by rw [hq8]; exact drewN_below _ _ _); clear hq8))
    go_loopw [1, 6] (fun u vm wr => ∃ (m K : Nat) (ys : List (List Nat)), vm = .int .i64 m ∧ m < A.length ∧ Hid (endsT P (txt A j) = ys ++ restN A P m) ∧ Hid (m ≠ 0 → txt A m ∈ P) ∧ Hid (K = K0 + ys.length) ∧ Hid (wr.ownsRow base 110 2 u K (hcells (X ++ hitsN P n ys))) ∧ Hid (Below base w5 wr)) (fun _ vm _ => (txt A (intOf vm).toNat).length)
    case atStart =>
      first
      | exact ⟨m0, K0, [], rfl, hm0, HS1.out, HS2.out, rfl, by show World.ownsRow _ _ _ _ _ _ _; rw [← HX0.out]; exact ownsRow_below HV.out HR8.out, HB8.out⟩
      | exact ⟨m0, K0, [], by rw [HM.out hk1], hm0, HS1.out, HS2.out, rfl, by show World.ownsRow _ _ _ _ _ _ _; rw [← HX0.out]; exact HV.out, Below.refl _ _⟩
    case round =>
      obtain ⟨m, K, ys, rfl, hmA, hE, hmP, hK, hown, hbl⟩ := hrel
      by_cases h0 : m = 0
      · subst h0
        have hE2 := hE.out
        rw [show restN A P 0 = [] from rfl, List.append_nil] at hE2
        have HE2 := hid hE2
        clear hE2 hE
        go_wp2
        go_ret
        exact ⟨_, K, rfl, by rw [HE2.out]; exact hown.out, hbl.out⟩
      · have hyP := hmP.out h0
        have hE2 := hE.out
        rw [restN_phrase HN.out HP.out H0.out m hyP] at hE2
        have hyl : ys.length + 1 ≤ 40 := by have h := HF.out; rw [hE2] at h; simp at h; omega
        rw [List.append_cons] at hE2
        have HE2 := hid hE2
        have hK9 : K ≤ 900040 := by have := hK.out; have := HX.out; omega
        obtain ⟨k2, hk2'⟩ : ∃ k2, k2 = P.idxOf (txt A m) := ⟨_, rfl⟩
        have HW2 : Hid (∀ W : World, (∃ B, TrieAt W B t A (wordOf P)) → Calls Tryz.prog 117 #[.pointer (some ⟨t, 0, none⟩), .int .i64 (m : Int)] W fun e w' => e = .returned (.int .i64 (k2 : Int)) ∧ w' = W) := fun W ⟨B, hW⟩ => by
          have := word_txt hW m hmA
          rw [wordOf, if_pos hyP, ← hk2'] at this
          exact this
        have HK2 := hid hk2'
        have HY := hid hyP
        have hne : txt A m ≠ [] := fun e => h0 (txt_nil HN.out hmA e)
        have hsh : (txt A (RU A P m)).length < (txt A m).length := by
          by_cases hz : RU A P m = 0
          · rw [hz, txt_zero HN.out]
            exact List.length_pos_iff.2 hne
          · exact (RU_less HP.out m hz).2.2
        have HRU : Hid (RU A P m < A.length ∧ (RU A P m ≠ 0 → txt A (RU A P m) ∈ P)) := ⟨RU_in HN.out HP.out m, fun h => (RU_less HP.out m h).2.1⟩
        have HO2 : Hid (∀ W : World, LinksAt W l t A P (wordOf P) → Calls Tryz.prog 118 #[.pointer (some ⟨l, 0, none⟩), .int .i64 (m : Int)] W fun e w' => e = .returned (.int .i64 (RU A P m : Int)) ∧ ∃ q, w' = W.drewN q) := fun W hW => out_in hW m hmA
        generalize RU A P m = m2 at *
        have HSH := hid hsh
        have hbd : Below base w5 wr.drew := hbl.out.drew
        have hownd : wr.drew.ownsRow base 110 2 u1 K (hcells (X ++ hitsN P n ys)) := hown.out
        have HLd : Hid (LinksAt wr.drew l t A P (wordOf P)) := HLK.out _ hbd
        obtain ⟨e0, e1, e2, e3, e4⟩ := scan_cells (HCK.out _ hbd)
        have hg0 : ((m : Int) == 0) = false := beq_false_of_ne (by omega)
        have hg1 : ((m : Int) != 0) = true := by rw [bne, hg0]; rfl
        clear hE hE2 hmP hyP hne hsh hk2' hg0
        go_wp2
        go_region_law (first
          | (have _h := later; refine step_append_keeps _ (by rfl) (.tmp 28) (.tmp 37) 102 (by rfl) base 110 i0 (.agg #[.int .i64 0, .int .i64 0]) 2 16 Tryz.underlying102 hi0 hz0 hz1 hz2 (by rfl) (by decide) u1 K (hcells (X ++ hitsN P n ys)) (by simp [Act.eval]) (hown2.alloc _) ⟨w2.heap.size, 0, none⟩ 1 1 [.int .i64 (n : Int), .int .i64 (k2 : Int)] (by simp [Act.eval]) (by rfl) (World.news_of_block (heap_alloc_new w2 _)) (by intro u hu; simp at hu; rcases hu with rfl | rfl <;> rfl) (by decide) (by unfold maxLen; omega) (by omega) (by simp; omega) ?_; intro g cap' w3 hown3 hgrow hat hlt3 hold; have HB3 : Hid (Below base w5 w3) := ((hbd2.alloc (by omega) _).grown hgrow (by simp; omega) (fun k hk => (hown2.lt k hk).1)); obtain ⟨d0, d1, d2, d3, d4⟩ := scan_cells (HCK.out w3 HB3.out))
          | (go_simp; go_at_call 117; refine (HW2.out _ HLd.out.trie).mono ?_; rintro e w2 ⟨rfl, hw2⟩; have later : True := trivial; have hown2 : w2.ownsRow base 110 2 u1 K (hcells (X ++ hitsN P n ys)) := (by rw [hw2]; exact hownd); have hbd2 : Below base w5 w2 := (by rw [hw2]; exact hbd); have hsz2 : base ≤ w2.heap.size := Nat.le_trans hbase hbd2.size; have e22 : w2.cell? ⟨p, 2, none⟩ = some (.int .i64 (n : Int)) := (by rw [hw2]; exact e2); clear hw2))
        all_goals have H3 := hid hown3
        all_goals clear hown3 hgrow hat hold hlt3 hown2 hbd2 hsz2 e22 hownd hbd e0 e1 e2 e3 e4 later _h
        all_goals
          go_wp2_with (go_at_call 118; refine (HO2.out _ (HLK.out _ HB3.out)).mono ?_; rintro e w4 ⟨rfl, q4, hq4⟩; have HB4 : Hid (Below base w5 w4) := (by rw [hq4]; exact HB3.out.trans (drewN_below _ _ _)); have HR4 : Hid (Below w3.heap.size w3 w4) := (by rw [hq4]; exact drewN_below _ _ _); clear hq4)
          go_roundw
          case rel =>
            refine ⟨m2, K + 1, ys ++ [txt A m], rfl, HRU.out.1, HE2.out, HRU.out.2, by show _ = _; rw [hK.out, List.length_append]; rfl, ?_, HB4.out⟩
            have h4 := ownsRow_below H3.out HR4.out
            show World.ownsRow _ _ _ _ _ _ _
            rw [← hitsN_snoc, ← List.append_assoc, ← hcells_append, ← HK2.out]
            exact h4
          case measure => have := HSH.out; simp [intOf]; omega
end Go.Proofs.YtdplflcaanmmiaaGreat

namespace Go.Proofs.YtdplflcaanmmiaaGreat
open Go.ChangeShapes Go.WideShapes Go.ChangeAt Go.RowKit

theorem byte_index (b : ByteArray) (i : Nat) (h : i < b.size) (W : World) : (Instr.index 9 (.string b) (.int .i64 (i : Int))).run Tryz.prog W = .ok (.int .u8 ((b[i]'h).toNat : Int)) W := by
  rw [run_index_string W 9 b .i64 _ Tryz.underlying9, dif_pos ⟨by omega, by omega⟩]
  rfl

theorem kept_below {S : Nat → Prop} {w x y : World} (h : Kept S w x) (k : Below w.heap.size x y) : Kept S w y :=
  ⟨k.os.trans h.os, k.tape.trans h.tape, k.output.trans h.output, Nat.le_trans h.size k.size, fun i hi hn => (k.block i hi).trans (h.block i hi hn)⟩

theorem asHits_ends (A P : List (List Nat)) (h0 : [] ∈ A) (hP : ∀ s ∈ P, s ∈ A) (n : Nat) (z : List Nat) (b : ByteArray) (i : Nat) (h : i < b.size) : asHits (hitsT P n z ((nums b).take i)) ++ hitsN P (n + i + 1) (endsT P (txt A (A.idxOf (longT A (z ++ (nums b).take (i + 1)))))) = asHits (hitsT P n z ((nums b).take (i + 1))) := by
  rw [take_nums b i h, hitsT_snoc A P h0 hP, List.length_take, nums_length, show min i b.size = i by omega, List.append_assoc]

set_option maxRecDepth 20000 in
set_option maxHeartbeats 4000000 in
theorem feed_in {w0 w : World} {p l t n : Nat} {A P : List (List Nat)} {z : List Nat} (h : ScAt w0 w p l t A P (wordOf P) z n) (hp : ∀ s c, s ++ [c] ∈ A → s ∈ A) (hP : ∀ s ∈ P, s ∈ A) (h0 : [] ∉ P) (h40 : ∀ x ∈ P, x.length ≤ 40) (b : ByteArray) (hb : b.size ≤ 10000) (hn : n ≤ 1000000) :
    Calls Tryz.prog 92 #[.pointer (some ⟨p, 0, none⟩), .string b] w fun e w' => ∃ v' k, e = .returned v' ∧ w'.ownsRow w.heap.size 110 2 v' k (hcells (asHits (hitsT P n z (nums b)))) ∧ ScAt w0 w' p l t A P (wordOf P) (z ++ nums b) (n + b.size) ∧ Kept (· = p) w w' := by
  obtain ⟨B, ht⟩ := h.now.trie
  have HN := hid ht.nodes
  have HA0 := hid (nodes_mem0 ht.nodes)
  have hlt := h.lt
  have hlo := h.lo
  have H := hid h
  have HP1 := hid hp
  have HP := hid hP
  have H0 := hid h0
  have H40 := hid h40
  clear h hp hP h0 h40 ht
  go_enter Tryz.func92, Tryz.ntmps92
  go_wp2
  go_loopw [5, 11] (fun u vi wr => ∃ i K : Nat, vi = .int .i64 i ∧ i ≤ b.size ∧ Hid (wr.ownsRow w.heap.size 110 2 u K (hcells (asHits (hitsT P n z ((nums b).take i))))) ∧ Hid (ScAt w0 wr p l t A P (wordOf P) (z ++ (nums b).take i) (n + i)) ∧ Hid (Kept (· = p) w wr)) (fun _ vi _ => b.size - (intOf vi).toNat)
  case atStart => exact ⟨0, 0, rfl, by omega, World.ownsRow_nil _ _ _ _, by show ScAt _ _ _ _ _ _ _ _ _ _; simpa using H.out, Kept.refl _ _⟩
  case round =>
    obtain ⟨i, K, rfl, hi, hown, hs, hk⟩ := hrel
    by_cases hlt2 : i < b.size
    · have hix := byte_index b i hlt2
      obtain ⟨c, hcc⟩ : ∃ c, c = (b[i]'hlt2).toNat := ⟨_, rfl⟩
      have hc : c < 256 := by rw [hcc]; exact UInt8.toNat_lt _
      have htk := take_nums b i hlt2
      rw [← hcc] at hix htk
      have HTK := hid htk
      have hlong : longT A (txt A (A.idxOf (longT A (z ++ (nums b).take i))) ++ [c]) = longT A (z ++ (nums b).take (i + 1)) := by
        rw [longT_byte A HA0.out HP1.out, htk, List.append_assoc]
      have HAS := hid (asHits_ends A P HA0.out HP.out n z b i hlt2)
      have hj := idx_lt (longT_mem A HA0.out (z ++ (nums b).take i))
      have hst := fun (W : World) (hW : Below wr.heap.size wr W) => step_in (hs.out.later hW).now HP1.out (A.idxOf (longT A (z ++ (nums b).take i))) hj c hc
      rw [hlong] at hst
      have hcs := hs.out.cells
      have hj2 := idx_lt (longT_mem A HA0.out (z ++ (nums b).take (i + 1)))
      have HJ := hid hj2
      have hK9 : K ≤ 900000 := by
        have h1 := hown.out.1
        have h2 := hitsT_few P 40 H40.out ((nums b).take i) n z
        rw [hcells_length, asHits_length] at h1
        rw [List.length_take, nums_length] at h2
        have h3 : min i b.size * 40 ≤ 10000 * 40 := Nat.mul_le_mul_right _ (by omega)
        omega
      obtain ⟨j, hjj⟩ : ∃ j, j = A.idxOf (longT A (z ++ (nums b).take i)) := ⟨_, rfl⟩
      obtain ⟨j2, hjj2⟩ : ∃ j2, j2 = A.idxOf (longT A (z ++ (nums b).take (i + 1))) := ⟨_, rfl⟩
      obtain ⟨N, hN⟩ : ∃ N, N = n + i := ⟨_, rfl⟩
      have hN2 : N ≤ 2000000 := by omega
      rw [← hN] at hcs HAS
      rw [← hjj] at hst hcs hj
      rw [← hjj2] at hst HJ HAS
      have HJ2 := hid hjj2
      have HNN := hid hN
      clear hjj hjj2 hlong htk hcc hj2 hN
      have hcd : wr.drew.heap[p]? = some (.cells #[.pointer (some ⟨l, 0, none⟩), .int .i64 (j : Int), .int .i64 (N : Int)] 152 (0, 0)) := hcs
      obtain ⟨e0, e1, e2, e3, e4⟩ := scan_cells hcd
      have HST := hid (hst wr.drew (Below.drew (Below.refl _ _)))
      clear hst
      go_wp2
      go_region_law (go_simp; go_at_call 101; refine (HST.out).mono ?_; rintro e w2 ⟨rfl, q2, hq2⟩; have HR2 : Hid (Below wr.heap.size wr w2) := (by rw [hq2]; exact (Below.drew (Below.refl _ _)).trans (drewN_below _ _ _)); have hc2 := (HR2.out.block p (Array.getElem?_eq_some_iff.1 hcs).1).trans hcs; obtain ⟨g0, g1, g2, g3, g4⟩ := scan_cells hc2; clear hq2)
      all_goals
        have hput := scan_put hc2 (.int .i64 (j2 : Int)) (.int .i64 ((N : Int) + 1))
        have HK2 : Hid (Kept (· = p) w ((w2.setCell ⟨p, 1, none⟩ (.int .i64 (j2 : Int))).setCell ⟨p, 2, none⟩ (.int .i64 ((N : Int) + 1)))) := ((hk.out.trans (below_kept HR2.out _)).setCell p 1 _ rfl).setCell p 2 _ rfl
        have HO2 : Hid (((w2.setCell ⟨p, 1, none⟩ (.int .i64 (j2 : Int))).setCell ⟨p, 2, none⟩ (.int .i64 ((N : Int) + 1))).ownsRow w.heap.size 110 2 u5 K (hcells (asHits (hitsT P n z ((nums b).take i))))) := ownsRow_setCell_below (ownsRow_setCell_below (ownsRow_below hown.out HR2.out) (by exact hlt) _) (by exact hlt) _
        have HPUT := hid hput
        clear hput hcs hcd e0 e1 e2 e3 e4 hc2
        go_wp2_with (go_at_call 102; refine (appendHits_any (base := w.heap.size) (n := N + 1) (j := j2) hs.out.links (below_then H.out.below HK2.out hlo) hlo hlt HK2.out.size HPUT.out HJ.out HP.out H0.out H40.out _ K _ HO2.out hK9).mono ?_; rintro e w4 ⟨v4, k4, rfl, hown4, hb4⟩)
        have HO4 := hid hown4
        have HB4 := hid hb4
        clear hown4 hb4 g0 g1 g2 g3 g4
        have HK4 := hid (kept_below HK2.out HB4.out)
        have HC4 := hid ((HB4.out.block p hlt).trans HPUT.out)
        generalize (w2.setCell ⟨p, 1, none⟩ (.int .i64 (j2 : Int))).setCell ⟨p, 2, none⟩ (.int .i64 ((N : Int) + 1)) = W5 at *
        go_roundw
        case rel =>
          refine ⟨i + 1, k4, by go_num, by omega, by show World.ownsRow _ _ _ _ _ _ _; rw [← HAS.out]; exact HO4.out, ?_, HK4.out⟩
          refine { links := hs.out.links, below := below_then H.out.below HK4.out hlo, lo := hlo, cells := ?_ }
          rw [← HJ2.out, ← Nat.add_assoc, ← HNN.out]
          exact HC4.out
        case measure => simp [intOf]; omega
    · obtain rfl : i = b.size := by omega
      have ho := hown.out
      have hs2 := hs.out
      rw [take_all] at ho hs2
      have HO := hid ho
      have HS2 := hid hs2
      clear ho hs2 hown hs
      go_wp2
      go_ret
      exact ⟨_, K, rfl, HO.out, HS2.out, hk.out⟩

theorem feed_none (w : World) (b : ByteArray) : Calls Tryz.prog 92 #[.pointer none, .string b] w fun e w' => e = .returned (.slice none 0 0) ∧ w' = w := by
  go_enter Tryz.func92, Tryz.ntmps92
  go_wp2
  go_ret
  exact ⟨rfl, rfl⟩

set_option maxRecDepth 20000 in
set_option maxHeartbeats 1000000 in
theorem allS_in {w0 w : World} {l t : Nat} {A P : List (List Nat)} (h : LinksAt w0 l t A P (wordOf P)) (hbw : Below w0.heap.size w0 w) (hp : ∀ s c, s ++ [c] ∈ A → s ∈ A) (hP : ∀ s ∈ P, s ∈ A) (h0 : [] ∉ P) (h40 : ∀ x ∈ P, x.length ≤ 40) (b : ByteArray) (hb : b.size ≤ 10000) :
    Calls Tryz.prog 81 #[.pointer (some ⟨l, 0, none⟩), .string b] w fun e w' => ∃ v' k, e = .returned v' ∧ w'.ownsRow w.heap.size 110 2 v' k (hcells (asHits (hitsT P 0 [] (nums b)))) ∧ Below w.heap.size w w' := by
  obtain ⟨B, ht⟩ := (h.later hbw).trie
  have HN := hid ht.nodes
  have H := hid h
  have HB := hid hbw
  have HP1 := hid hp
  have HP := hid hP
  have H0 := hid h0
  have H40 := hid h40
  clear h hp hP h0 h40 ht hbw
  go_enter Tryz.func81, Tryz.ntmps81
  go_wp2_with (first
    | (go_at_call 91; refine (newS_in H.out HN.out HB.out).mono ?_; rintro e w1 ⟨p, rfl, hs1, hp1, hb1⟩; have HS1 := hid hs1; have HP1' := hid hp1; have HB1 := hid hb1; clear hs1 hp1 hb1)
    | (go_at_call 92; refine (feed_in HS1.out HP1.out HP.out H0.out H40.out b hb (by omega)).mono ?_; rintro e w2 ⟨v2, k2, rfl, ho2, hs2, hk2⟩; have HO2 := hid ho2; have HK2 := hid hk2; clear ho2 hk2 hs2))
  go_ret
  exact ⟨_, k2, rfl, ownsRow_lower HO2.out HB1.out.size, below_then HB1.out HK2.out HP1'.out⟩

theorem allS_none (w : World) (b : ByteArray) : Calls Tryz.prog 81 #[.pointer none, .string b] w fun e w' => e = .returned (.slice none 0 0) ∧ w' = w := by
  go_enter Tryz.func81, Tryz.ntmps81
  go_wp2_with (first
    | (go_at_call 91; refine (newS_none _).mono ?_; rintro e w1 ⟨rfl, rfl⟩)
    | (go_at_call 92; refine (feed_none _ b).mono ?_; rintro e w2 ⟨rfl, rfl⟩))
  go_ret
  exact ⟨rfl, rfl⟩
end Go.Proofs.YtdplflcaanmmiaaGreat
