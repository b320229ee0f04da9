/-
  Contract of package hits: Lengths.
-/
import Derived.Test.YtfeibhdnmfiflaaHitStarts
import Derived.Test.YtfeibhdnmfiflaaScanFeed
import Derived.Test.YtfeibhdnmfiflaaLinks
import Derived.Test.YtfeibhdnmfiflaaHitBegin
namespace Go.Proofs.Ytfeibhdnmfiflaa
open Go.ChangeShapes Go.WideShapes Go.ChangeAt Go.RowKit

/-- A tree of these phrases, or none; links of them, or none. -/
def TrieV (w : World) (t : Value) (L : List ByteArray) : Prop := (t = .pointer none ∧ L = []) ∨ ∃ B p, t = .pointer (some ⟨p, 0, none⟩) ∧ TrieOf w B p L
def LinksV (w : World) (l : Value) (L : List ByteArray) : Prop := (l = .pointer none ∧ L = []) ∨ ∃ p t, l = .pointer (some ⟨p, 0, none⟩) ∧ LinksOf w p t L

theorem trieV_new {w : World} {d : Value} {L : List ByteArray} (h : DictV w d L) (hL : Fine L) :
    Calls Try.prog 23 #[d] w fun e w' => ∃ t, e = .returned t ∧ TrieV w' t L ∧ Below w.heap.size w w' := by
  rcases h with ⟨rfl, rfl⟩ | ⟨B, p, rfl, h⟩
  · refine (new_none w).mono ?_
    rintro e w' ⟨rfl, rfl⟩
    exact ⟨_, rfl, .inl ⟨rfl, rfl⟩, Below.refl _ _⟩
  · refine (trie_new h hL).mono ?_
    rintro e w' ⟨t, rfl, ht, hb⟩
    exact ⟨_, rfl, .inr ⟨_, t, rfl, ht⟩, hb⟩

theorem linksV_new {w : World} {t : Value} {L : List ByteArray} (h : TrieV w t L) :
    Calls Try.prog 22 #[t] w fun e w' => ∃ l, e = .returned l ∧ LinksV w' l L ∧ Below w.heap.size w w' := by
  rcases h with ⟨rfl, rfl⟩ | ⟨B, p, rfl, h⟩
  · refine (newL_none w).mono ?_
    rintro e w' ⟨rfl, rfl⟩
    exact ⟨_, rfl, .inl ⟨rfl, rfl⟩, Below.refl _ _⟩
  · refine (links_new (P := L.map nums) h (nodes_father h.nodes) (fun s hs => nodesN_self _ _ hs) (wordOf_none _)).mono ?_
    rintro e w3 ⟨l, go, gf, gu, O, F, U, rfl, h1, h2, h3, h4⟩
    exact ⟨_, rfl, .inr ⟨l, p, rfl, ⟨_, _, go, gf, gu, O, F, U, h, h1, h2, h3, h4⟩⟩, h1.below⟩

theorem endsT_no (z : List Nat) : endsT [] z = [] := by
  induction z with
  | nil => rfl
  | cons c t ih => rw [endsT, if_neg (by simp), ih]

theorem hitsT_no (b : List Nat) : ∀ (n : Nat) (z : List Nat), hitsT [] n z b = [] := by
  induction b with
  | nil => intro _ _; rfl
  | cons c b ih =>
    intro n z
    rw [hitsT, endsT_no, ih]
    rfl

theorem phrases_some {L : List ByteArray} (h : Fine L) : [] ∉ L.map nums := by
  intro hm
  obtain ⟨s, hs, e⟩ := List.mem_map.1 hm
  have h1 := ((fine_iff L).1 h).2.1 s hs
  have h2 : s.size = 0 := by
    have h3 := congrArg List.length e
    rwa [nums_length] at h3
  omega

theorem allV {w : World} {l : Value} {L : List ByteArray} (h : LinksV w l L) (hL : Fine L) (b : ByteArray) (hb : b.size ≤ 10000) :
    Calls Try.prog 14 #[l, .string b] w fun e w' => ∃ v' k, e = .returned v' ∧ w'.ownsRow w.heap.size 35 2 v' k (hcells (asHits (hitsT (L.map nums) 0 [] (nums b)))) ∧ Below w.heap.size w w' := by
  rcases h with ⟨rfl, rfl⟩ | ⟨p, t, rfl, h⟩
  · refine (allS_none w b).mono ?_
    rintro e w' ⟨rfl, rfl⟩
    refine ⟨_, 0, rfl, ?_, Below.refl _ _⟩
    rw [List.map_nil, hitsT_no]
    exact World.ownsRow_nil _ _ _ _
  · obtain ⟨B, ht⟩ := LinksAt.trie h
    refine allS_in (A := nodesN (L.map nums)) h (Below.refl _ _) (nodes_father ht.nodes) (fun s hs => nodesN_self _ _ hs) (phrases_some hL) (fun x hx => ?_) b hb
    obtain ⟨s, hs, rfl⟩ := List.mem_map.1 hx
    rw [nums_length]
    exact (((fine_iff L).1 hL).2.1 s hs).2

theorem take_snoc_map (f : Nat → Nat) (l : List Nat) (j : Nat) (h : j < l.length) : (l.take (j + 1)).map f = (l.take j).map f ++ [f (l[j]'h)] := by
  rw [List.take_succ_eq_append_getElem h, List.map_append]
  rfl

/-- What Lengths has laid so far. -/
def LenUpto (L : List ByteArray) (CS : Nat → List Nat) (n i j : Nat) (C : Nat → List Nat) : Prop := ∀ k, k < n → C k = if k < i then (CS k).map (lenL L) else if k = i then ((CS i).take j).map (lenL L) else []

theorem LenUpto.push {L : List ByteArray} {CS C : Nat → List Nat} {n i j : Nat} (h : LenUpto L CS n i j C) (hj : j < (CS i).length) : LenUpto L CS n i (j + 1) (put2 C i (C i ++ [lenL L ((CS i)[j]'hj)])) := by
  intro k hk
  by_cases e : k = i
  · subst e
    rw [put2_at, h k hk, if_neg (by omega), if_pos rfl, if_neg (by omega), if_pos rfl, take_snoc_map _ _ _ hj]
  · rw [put2_else _ _ _ e, h k hk]
    by_cases e2 : k < i
    · rw [if_pos e2, if_pos e2]
    · rw [if_neg e2, if_neg e2, if_neg e, if_neg e]

theorem LenUpto.next {L : List ByteArray} {CS C : Nat → List Nat} {n i j : Nat} (h : LenUpto L CS n i j C) (hj : (CS i).length ≤ j) : LenUpto L CS n (i + 1) 0 C := by
  intro k hk
  rw [h k hk]
  by_cases e2 : k < i
  · rw [if_pos e2, if_pos (by omega)]
  · rw [if_neg e2]
    by_cases e : k = i
    · subst e
      rw [if_pos rfl, if_pos (by omega), List.take_of_length_le hj]
    · rw [if_neg e, if_neg (by omega)]
      by_cases e3 : k = i + 1
      · rw [if_pos e3]; simp
      · rw [if_neg e3]

set_option maxRecDepth 20000 in
set_option maxHeartbeats 4000000 in
theorem lengths_any {w : World} {d : Value} {L : List ByteArray} (h : DictV w d L) (hL : Fine L) (b : ByteArray) (hb : b.size ≤ 1000) :
    Calls Try.prog 12 #[d, .string b] w fun e w' => ∃ (g : Nat) (V : Nat → Value) (C CS : Nat → List Nat), e = .returned (.slice (some ⟨g, 0, none⟩) b.size b.size) ∧ Lots w' w.heap.size g b.size V C ∧ w.heap.size ≤ g ∧ (∀ k, k < b.size → AtOf L b.size (asHits (hitsT (L.map nums) 0 [] (nums b))) k (CS k) ∧ C k = (CS k).map (lenL L)) ∧ Below w.heap.size w w' := by
  obtain ⟨i1, hi1, hy0, hy1, hy2⟩ := info_parts Try.infoI
  obtain ⟨ad, rfl⟩ := h.pointer
  have hFi := (fine_iff L).1 hL
  have hl100 : L.length ≤ 100 := hFi.1
  have HSM := hid hFi.2.1
  have HD := hid h
  have HF := hid hL
  obtain ⟨X, hX⟩ : ∃ X, X = asHits (hitsT (L.map nums) 0 [] (nums b)) := ⟨_, rfl⟩
  have HX := hid hX
  have HXL : Hid (X.length ≤ 1000000) := by
    show _ ≤ _
    have h1 := hitsT_few (L.map nums) 40 (fun x hx => by
      obtain ⟨s, hs, rfl⟩ := List.mem_map.1 hx
      rw [nums_length]
      exact (hFi.2.1 s hs).2) (nums b) 0 []
    rw [hX, asHits_length]
    rw [nums_length] at h1
    omega
  rw [← hX]
  clear h hL hFi hX
  obtain ⟨n, hn⟩ : ∃ n, n = b.size := ⟨_, rfl⟩
  have hn1 : n ≤ 1000 := by omega
  have HN := hid hn
  have hd1 : decide ((1024 : Int) < (n : Int)) = false := decide_eq_false (by omega)
  have hmk := run_make_row' (P := Try.prog) 31 36 (.slice none 0 0) 24 Try.underlying31 Try.infoInts2 rfl .i64 .i64 n (by omega) (by omega)
  rw [← hn] at hb ⊢
  have hbn : (b.size : Int) = (n : Int) := by omega
  clear hn
  go_enter Try.func12, Try.ntmps12
  go_wp2_with (first
    | (go_at_call 23; refine (trieV_new HD.out HF.out).mono ?_; rintro e w1 ⟨t1, rfl, ht1, hb1⟩; have HT1 := hid ht1; have HB1 := hid hb1; clear ht1 hb1)
    | (go_at_call 22; refine (linksV_new HT1.out).mono ?_; rintro e w2 ⟨l2, rfl, hl2, hb2⟩; have HL2 := hid hl2; have HB2 := hid (below_more HB1.out hb2); clear hl2 hb2)
    | (go_at_call 14; refine (allV HL2.out HF.out b (by omega)).mono ?_; rintro e w3 ⟨v3, k3, rfl, ho3, hb3⟩; rw [← HX.out] at ho3; have HR3 := hid (ownsRow_readsH ho3); have HB3 := hid (below_more HB2.out hb3); clear ho3 hb3; have HR4 := fun o : Obj => hid (HR3.out.below ((Below.refl w3.heap.size w3).alloc (Nat.le_refl _) o)); have HB4 := fun o : Obj => hid (HB3.out.alloc HB3.out.size o); have HLN := fun B : Nat => hid (lots_new w3 B n); have HGN : Hid (∀ o, w3.heap.size < (w3.alloc o).heap.size) := (fun o => by simp))
    | (go_at_call 11; refine (starts_any (HD.out.below (HB4 _).out) (by omega) HSM.out n (by omega) (HR4 _).out HXL.out).mono ?_; rintro e w6 ⟨g6, VS, CS, rfl, hl6, hg6, hat6, hb6⟩; have HS6 := hid hl6; have HG6 := hid (Nat.lt_of_lt_of_le (HGN.out _) hg6); have HA6 := hid hat6; have HLN6 := fun B : Nat => hid ((HLN B).out.below hb6); have HB6 := hid (below_more (HB4 _).out hb6); have HGW := hid (Nat.lt_of_lt_of_le (HGN.out _) hb6.size); clear hl6 hg6 hat6 hb6 HR4 HB4 HLN))
  obtain ⟨BS, hBS⟩ : ∃ BS, BS = (w3.alloc (.cells (madeCells #[.slice none 0 0] n) 36)).heap.size := ⟨_, rfl⟩
  rw [← hBS] at HS6
  have HGB : Hid (w3.heap.size < BS) := by show _ < _; rw [hBS]; exact HGN.out _
  clear hBS HGN HR3
  have HWG := hid HB3.out.size
  obtain ⟨G, hG⟩ : ∃ G, G = w3.heap.size := ⟨_, rfl⟩
  rw [← hG] at HWG HGB HLN6 HGW HG6 ⊢
  clear hG HL2 HB2 HT1 HB1 HB3
  go_loopw [28] (fun vi wr => ∃ (i : Nat) (V : Nat → Value) (C : Nat → List Nat), vi = .int .i64 i ∧ i ≤ n ∧ Hid (Lots wr w6.heap.size G n V C) ∧ Hid (LenUpto L CS n i 0 C) ∧ Hid (Kept (· = G) w6 wr)) (fun vi _ => n - (intOf vi).toNat)
  case atStart => exact ⟨0, _, _, rfl, by omega, (HLN6 _).out, fun k _ => by simp, Kept.refl _ _⟩
  case round =>
    obtain ⟨i, V0, C0, rfl, hi, hLt, hAt, hK⟩ := hrel
    by_cases hin : i < n
    · obtain ⟨av, cv, hV⟩ := ownsRow_slice (HS6.out.each i hin)
      have hSk := HS6.out.kept hK.out HGB.out (by have := HG6.out; omega)
      have c1 := hSk.row.cell hin
      rw [hV] at c1
      have hxa : (decide ((0 : Int) ≤ (i : Int) ∧ (i : Int) < (n : Int))) = true := decide_eq_true ⟨by omega, by omega⟩
      obtain ⟨m, hm⟩ : ∃ m, m = (CS i).length := ⟨_, rfl⟩
      rw [← hm] at hV c1
      have hm1 : m ≤ 1000 := by have h1 := (HA6.out i hin).1.few; omega
      have HV := hid hV
      have HM := hid hm
      clear hV hm hSk
      go_wp2
      go_loopw [35] (fun vj wr2 => ∃ (j : Nat) (V : Nat → Value) (C : Nat → List Nat), vj = .int .i64 j ∧ j ≤ m ∧ Hid (Lots wr2 w6.heap.size G n V C) ∧ Hid (LenUpto L CS n i j C) ∧ Hid (Kept (· = G) w6 wr2)) (fun vj _ => m - (intOf vj).toNat)
      case atStart => exact ⟨0, V0, C0, rfl, by omega, hLt.out, hAt.out, hK.out⟩
      case round =>
        clear hLt hAt hK c1
        obtain ⟨j, V, C, rfl, hj, hLt, hAt, hK⟩ := hrel
        by_cases hjm : j < m
        · have hjC : j < (CS i).length := by rw [← HM.out]; exact hjm
          have hown := (HS6.out.kept hK.out HGB.out (by have := HG6.out; omega)).each i hin
          rw [HV.out, ← HM.out] at hown
          obtain ⟨gi, capi, hvi, _, _⟩ := hown.form (by omega)
          injection hvi with e1 e2 e3
          subst e1
          have ci := hown.cellAt j (by omega)
          rw [numsI_at _ j hjC] at ci
          obtain ⟨id, hid0⟩ : ∃ id, id = (CS i)[j]'hjC := ⟨_, rfl⟩
          rw [← hid0] at ci
          have hidL : id < L.length := (((HA6.out i hin).1.2 id).1 (by rw [hid0]; exact List.getElem_mem _)).1
          have HPU := hid (hAt.out.push hjC)
          rw [← hid0] at HPU
          obtain ⟨x, hx⟩ : ∃ x, x = lenL L id := ⟨_, rfl⟩
          rw [← hx] at HPU
          have HX2 := hid hx
          have hxj : (decide ((0 : Int) ≤ (j : Int) ∧ (j : Int) < (m : Int))) = true := decide_eq_true ⟨by omega, by omega⟩
          have hCi : (C i).length ≤ 1000 := by
            rw [hAt.out i hin, if_neg (by omega), if_pos rfl, List.length_map, List.length_take]
            omega
          obtain ⟨au, cu, hU⟩ := ownsRow_slice (hLt.out.each i hin)
          have c2 := hLt.out.row.cell hin
          rw [hU] at c2
          clear hown hid0 hx hAt hjC e2 e3
          have HBK := hid (HB6.out.trans (hK.out.below HB6.out.size (by rintro k rfl; exact HWG.out)))
          have HDd : Hid (DictV wr.drew (.pointer ad) L) := HD.out.below HBK.out.drew
          have HE7 : Hid ((V i).ownBlock = (Value.slice au (C i).length cu).ownBlock) := congrArg Value.ownBlock hU
          have HL2 := fun o : Obj => hid (hLt.out.below (((Below.refl wr.heap.size wr).drew).alloc (Nat.le_refl wr.drew.heap.size) o))
          have HO2 : ∀ o : Obj, Hid ((wr.drew.alloc o).ownsRow w6.heap.size 3 1 (.slice au (C i).length cu) (C i).length (numsI (C i))) := fun o => by
            have h1 := (HL2 o).out.each i hin
            rw [hU] at h1
            exact h1
          have HF7 : ∀ (o : Obj) (w7 : World), (wr.drew.alloc o).grownBy w7 (Value.slice au (C i).length cu).ownBlock → w7.frozen? ⟨G, i, none⟩ = false ∧ w7.cell? ⟨G, i, none⟩ = some (V i) := fun o w7 hg => by
            have hL := (HL2 o).out
            have hr := hL.row.of_block (hg.block _ hL.lt (fun e => hL.ne (hL.each i hin) (HE7.out.trans e.symm)))
            exact ⟨hr.frozen i, hr.cell hin⟩
          have c2d : wr.drew.cell? ⟨G, i, none⟩ = some (.slice au (C i).length cu) := c2
          have hsz6 : w6.heap.size ≤ wr.drew.heap.size := hK.out.size
          clear hU
          go_wp2
          go_region_law (first
            | (have _h := later; refine step_append_keeps _ (by rfl) (.tmp 44) (.tmp 48) 36 (by rfl) w6.heap.size 3 i1 (.int .i64 0) 1 8 Try.underlying36 hi1 hy0 hy1 hy2 (by rfl) (by decide) (.slice au (C i).length cu) (C i).length (numsI (C i)) (by simp [Act.eval]) (hown2 _) ⟨w2.heap.size, 0, none⟩ 1 1 [.int .i64 (x : Int)] (by simp [Act.eval]) (by rfl) (World.news_of_block (heap_alloc_new w2 _)) (by intro u hu; simp at hu; subst hu; rfl) (by decide) (by unfold maxLen; omega) (by omega) (by simp; omega) ?_; intro g7 cap7 w7 hown7 hgrow7 hat7 hlt7 hold7; obtain ⟨f7, c7⟩ := hF2 _ _ hgrow7)
            | (go_simp; go_at_call 24; refine (lengthH_ok HDd.out (by omega) id hidL).mono ?_; rw [← HX2.out]; rintro e w2 ⟨rfl, hw2⟩; have later : True := trivial; have hown2 : ∀ o : Obj, (w2.alloc o).ownsRow w6.heap.size 3 1 (.slice au (C i).length cu) (C i).length (numsI (C i)) := (by rw [hw2]; exact fun o => (HO2 o).out); have hF2 : ∀ (o : Obj) (w7 : World), (w2.alloc o).grownBy w7 (Value.slice au (C i).length cu).ownBlock → w7.frozen? ⟨G, i, none⟩ = false ∧ w7.cell? ⟨G, i, none⟩ = some (V i) := (by rw [hw2]; exact HF7); have c22 : w2.cell? ⟨G, i, none⟩ = some (.slice au (C i).length cu) := (by rw [hw2]; exact c2d); have c23 := fun o : Obj => keeps ((Below.refl w2.heap.size w2).alloc (Nat.le_refl _) o) _ _ c22; have hsz2 : w6.heap.size ≤ w2.heap.size := (by rw [hw2]; exact hsz6); have HW2 := hid hw2; clear hw2))
          all_goals
            have hw2 := HW2.out
            subst hw2
            have hgr : (wr.drew.alloc (.cells #[.int .i64 (x : Int)] 3)).grownBy w7 (V i).ownBlock := by rw [HE7.out]; exact hgrow7
            have hp7 := hid ((HL2 _).out.push hin rfl hown7 hgr (by rw [HE7.out]; exact hat7))
            have hg7 := hgr
            have hk7 : Hid (Kept (· = G) w6 (w7.setCell ⟨G, i, none⟩ (.slice (some ⟨g7, 0, none⟩) ((C i).length + 1) cap7))) := by
              have h1 : Kept (· = G) w6 (wr.drew.alloc (.cells #[.int .i64 (x : Int)] 3)) := (hK.out.trans (Kept.drewN _ wr 1)).alloc _
              refine Kept.setCell ⟨hgr.os.trans h1.os, hgr.tape.trans h1.tape, hgr.output.trans h1.output, Nat.le_trans h1.size hgr.size, fun k hk hn => ?_⟩ G i _ rfl
              refine (hgr.block k (Nat.lt_of_lt_of_le hk h1.size) (fun e => ?_)).trans (h1.block k hk hn)
              have := ((hLt.out.each i hin).lt k e.symm).1
              omega
            clear hown7 hgrow7 hat7 hlt7 hold7 f7 c7 hgr hg7 c2 c2d c22 c23 HF7 hF2 hown2 HO2 HL2 hsz2 hsz6
            generalize w7.setCell ⟨G, i, none⟩ (.slice (some ⟨g7, 0, none⟩) ((C i).length + 1) cap7) = w8 at hp7 hk7 ⊢
            go_wp2
            go_roundw
            case rel => exact ⟨j + 1, _, _, by go_num, by omega, hp7.out, HPU.out, hk7.out⟩
            case measure => simp [intOf]; omega
        · have HN2 := hid (hAt.out.next (by rw [← HM.out]; omega))
          clear hAt
          go_wp2
          go_roundw
          case rel => exact ⟨i + 1, V, C, by go_num, by omega, hLt.out, HN2.out, hK.out⟩
          case measure => simp [intOf]; omega
    · obtain rfl : i = n := by omega
      go_wp2
      go_ret
      refine ⟨G, V0, C0, CS, rfl, hLt.out.lower HB6.out.size, HWG.out, fun k hk => ⟨HA6.out k hk, ?_⟩, HB6.out.trans (hK.out.below HB6.out.size (by rintro k rfl; exact HWG.out))⟩
      rw [hAt.out k hk, if_pos hk]
end Go.Proofs.Ytfeibhdnmfiflaa
