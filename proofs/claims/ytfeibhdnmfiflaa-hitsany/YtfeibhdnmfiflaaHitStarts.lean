/-
  Contract of package hits: Starts.
-/
import Derived.Test.YtfeibhdnmfiflaaHitSort
import Derived.Test.YtfeibhdnmfiflaaHitLots
import Derived.Test.YtfeibhdnmfiflaaHitRows
namespace Go.Proofs.Ytfeibhdnmfiflaa
open Go.ChangeShapes Go.WideShapes Go.ChangeAt Go.RowKit

theorem Try.infoInts2 : (Try.prog.info? 36).map (fun i => (i.zero, i.size, i.bytes)) = some (some (.slice none 0 0), 1, 24) := by kernel_rfl

/-- Of a hit: it begins at a place, or does not lie within, or is no phrase's. -/
theorem hit_kind (L : List ByteArray) (n : Nat) (E K : Int) : (∃ at0 id : Nat, K = (id : Int) ∧ id < L.length ∧ E = ((at0 + lenL L id : Nat) : Int) ∧ at0 + lenL L id ≤ n) ∨ ((K < 0 ∨ (L.length : Int) ≤ K) ∨ ∃ id : Nat, K = (id : Int) ∧ id < L.length ∧ (E < (lenL L id : Int) ∨ (n : Int) < E)) := by
  by_cases h1 : K < 0 ∨ (L.length : Int) ≤ K
  · exact .inr (.inl h1)
  · obtain ⟨id, hid⟩ : ∃ id : Nat, K = (id : Int) := ⟨K.toNat, by omega⟩
    by_cases h2 : E < (lenL L id : Int) ∨ (n : Int) < E
    · exact .inr (.inr ⟨id, hid, by omega, h2⟩)
    · exact .inl ⟨(E - (lenL L id : Int)).toNat, id, hid, by omega, by omega, by omega⟩

set_option maxRecDepth 20000 in
set_option maxHeartbeats 2000000 in
theorem start_bad {w : World} {d : Value} {L : List ByteArray} (h : DictV w d L) (hl : L.length ≤ 1000000) (n : Nat) (E K : Int) (hk : (K < 0 ∨ (L.length : Int) ≤ K) ∨ ∃ id : Nat, K = (id : Int) ∧ id < L.length ∧ (E < (lenL L id : Int) ∨ (n : Int) < E)) :
    Calls Try.prog 19 #[d, .int .i64 (n : Int), .agg #[.int .i64 E, .int .i64 K]] w fun e w' => e = .returned (.tuple #[.int .i64 0, .bool false]) ∧ Below w.heap.size w w' := by
  rcases hk with hk | ⟨id, rfl, h1, h2⟩
  · exact start_out h hl n K E hk
  · exact start_off h hl n id E h1 h2

theorem AtRaw.bad {L : List ByteArray} {n k : Nat} {X : List (Int × Int)} {ids : List Nat} (h : AtRaw L n X k ids) (E K : Int) (hk : (K < 0 ∨ (L.length : Int) ≤ K) ∨ ∃ id : Nat, K = (id : Int) ∧ id < L.length ∧ (E < (lenL L id : Int) ∨ (n : Int) < E)) : AtRaw L n (X ++ [(E, K)]) k ids := by
  refine h.skip E K (fun at0 id e1 e2 e3 => ?_)
  rcases hk with hk | ⟨id2, h1, h2, h3⟩
  · omega
  · have : id = id2 := by omega
    subst this
    omega

theorem containsI_yes {w : World} {v : Value} {L : List Nat} (hv : Reads w v (numsI L)) (hl : L.length ≤ 1000000) (k : Nat) (h : k ∈ L) :
    Calls Try.prog 20 #[v, .int .i64 (k : Int)] w fun e w' => e = .returned (.bool true) ∧ w' = w := by
  have h2 := containsI_any hv hl k
  rwa [decide_eq_true h] at h2
theorem containsI_no {w : World} {v : Value} {L : List Nat} (hv : Reads w v (numsI L)) (hl : L.length ≤ 1000000) (k : Nat) (h : k ∉ L) :
    Calls Try.prog 20 #[v, .int .i64 (k : Int)] w fun e w' => e = .returned (.bool false) ∧ w' = w := by
  have h2 := containsI_any hv hl k
  rwa [decide_eq_false h] at h2

set_option maxRecDepth 20000 in
set_option maxHeartbeats 4000000 in
theorem starts_any {w : World} {d : Value} {L : List ByteArray} (h : DictV w d L) (hl : L.length ≤ 1000) (h40 : ∀ s ∈ L, 0 < s.size ∧ s.size ≤ 40) (n : Nat) (hn : n ≤ 1024) {v : Value} {X : List (Int × Int)} (hv : ReadsH w v X) (hX : X.length ≤ 1000000) :
    Calls Try.prog 11 #[d, .int .i64 (n : Int), v] w fun e w' => ∃ g V C, e = .returned (.slice (some ⟨g, 0, none⟩) n n) ∧ Lots w' w.heap.size g n V C ∧ w.heap.size ≤ g ∧ (∀ k, k < n → AtOf L n X k (C k)) ∧ Below w.heap.size w w' := by
  obtain ⟨i1, hi1, hy0, hy1, hy2⟩ := info_parts Try.infoI
  obtain ⟨a, ca, rfl, ha⟩ := hv
  have hmk := run_make_row' (P := Try.prog) 31 36 (.slice none 0 0) 24 Try.underlying31 Try.infoInts2 rfl .i64 .i64 n (by omega) (by omega)
  have HD := hid h
  have HA := hid ha
  have H40 := hid h40
  obtain ⟨N, hN⟩ : ∃ N, N = X.length := ⟨_, rfl⟩
  have HN := hid hN
  rw [← hN] at hX ⊢
  have hd0 : decide ((n : Int) < 0) = false := decide_eq_false (by omega)
  have hd1 : decide ((1024 : Int) < (n : Int)) = false := decide_eq_false (by omega)
  clear h ha h40 hN
  go_enter Try.func11, Try.ntmps11
  go_wp2
  have hb0 : Below w.heap.size w (w.alloc (.cells (madeCells #[.slice none 0 0] n) 36)) := (Below.refl _ _).alloc (Nat.le_refl _) _
  have HL0 := hid (lots_new w w.heap.size n)
  have HB0 := hid hb0
  clear hb0
  generalize w.alloc (.cells (madeCells #[.slice none 0 0] n) 36) = w1 at HL0 HB0 ⊢
  go_loopw [24] (fun vi wr => ∃ (i : Nat) (V : Nat → Value) (C : Nat → List Nat), vi = .int .i64 i ∧ i ≤ N ∧ Hid (Lots wr w.heap.size w.heap.size n V C) ∧ Hid (∀ k, k < n → AtRaw L n (X.take i) k (C k)) ∧ Hid (Below w.heap.size w wr)) (fun vi _ => N - (intOf vi).toNat)
  case atStart => exact ⟨0, _, _, rfl, by omega, HL0.out, fun k _ => atRaw_nil L n k, HB0.out⟩
  case round =>
    clear HL0 HB0
    obtain ⟨i, V, C, rfl, hi, hLt, hAt, hB⟩ := hrel
    by_cases hlt : i < N
    · rcases HA.out with h0 | ⟨gb, o, rfl, hgb, hcell⟩
      · have := HN.out; omega
      have hiX : i < X.length := by rw [← HN.out]; exact hlt
      obtain ⟨hc0, hc1⟩ := hcell i hiX
      have hcb0 := (hB.out.cell (p := ⟨gb, o + i * 2, none⟩) hgb).trans hc0
      have hcb1 := (hB.out.cell (p := ⟨gb, o + i * 2 + 1, none⟩) hgb).trans hc1
      clear hcell hc0 hc1
      obtain ⟨E, K, hEK⟩ : ∃ E K, X[i]'hiX = (E, K) := ⟨_, _, rfl⟩
      rw [hEK] at hcb0 hcb1
      dsimp only at hcb0 hcb1
      have HTK : Hid (X.take (i + 1) = X.take i ++ [(E, K)]) := by show _ = _; rw [List.take_succ_eq_append_getElem hiX, hEK]
      have hx' : (decide ((0 : Int) ≤ (i : Int) ∧ (i : Int) < (N : Int))) = true := decide_eq_true ⟨by omega, by omega⟩
      clear hEK
      have hw1 : Below wr.heap.size wr (wr.alloc (.cells #[.int .i64 E, .int .i64 K] 35)) := (Below.refl _ _).alloc (Nat.le_refl _) _
      have HB1 := hid (below_more hB.out hw1)
      have HL1 := hid (hLt.out.below hw1)
      have HDW : Hid (DictV (wr.alloc (.cells #[.int .i64 E, .int .i64 K] 35)) d L) := HD.out.below HB1.out
      have HBX : Hid ((wr.alloc (.cells #[.int .i64 E, .int .i64 K] 35)).heap[wr.heap.size]? = some (.cells #[.int .i64 E, .int .i64 K] 35 (0, 0))) := heap_alloc_new wr _
      have HSZ : Hid (wr.heap.size < (wr.alloc (.cells #[.int .i64 E, .int .i64 K] 35)).heap.size) := by show _ < _; simp
      clear hw1 hLt hB
      rcases hit_kind L n E K with ⟨at0, id, rfl, hid1, rfl, hEn⟩ | hbad
      · have hpos : 0 < lenL L id := by rw [lenL_at hid1]; exact (H40.out _ (List.getElem_mem _)).1
        have han : at0 < n := by omega
        obtain ⟨E, hE⟩ : ∃ E, E = at0 + lenL L id := ⟨_, rfl⟩
        rw [← hE] at hEn HTK HB1 HL1 HDW HBX HSZ hcb0
        have HE := hid hE
        have HID := hid hid1
        have hxa : (decide ((0 : Int) ≤ (at0 : Int) ∧ (at0 : Int) < (n : Int))) = true := decide_eq_true ⟨by omega, by omega⟩
        clear hpos hE
        by_cases hm : id ∈ C at0
        · have HM := hid hm
          clear hm
          go_wp2_with (go_at_call 19; refine (start_ok HDW.out (by omega) n id E at0 hn HID.out HE.out hEn).mono ?_; rintro e w5 ⟨rfl, hb5⟩; have HL5 := hid (HL1.out.below hb5); have HB5 := hid (below_more HB1.out hb5); have HX5 := hid ((hb5.block _ HSZ.out).trans HBX.out); clear hb5)
          have c1 := (hit_cells HX5.out).2
          have c2 := HL5.out.row.cell han
          have HR5 := hid (ownsRow_reads (HL5.out.each at0 han))
          have HC5 := hid (Nat.le_trans (hAt.out at0 han).few hl)
          go_quiet ((go_at_call 20; exact Calls.quiet_of_same (containsI_yes (HR5.out.below (drewN_below _ _ _)) (by have := HC5.out; omega) id HM.out)))
          have HL6 := hid (HL5.out.below (drewN_below w5 nq _))
          have HB6 := hid (below_more HB5.out (drewN_below w5 nq _))
          clear c1 c2 HX5 HR5 HL5 HB5
          generalize w5.drewN nq = w6 at HL6 HB6 ⊢
          go_wp2
          go_roundw
          case rel =>
            refine ⟨i + 1, V, C, by go_num, by omega, HL6.out, fun k hk => ?_, HB6.out⟩
            rw [HTK.out, HE.out]
            by_cases e : k = at0
            · subst e; exact (hAt.out _ hk).again HM.out
            · exact (hAt.out k hk).other e
          case measure => simp [intOf]; omega
        · have HM := hid hm
          clear hm
          go_wp2_with (go_at_call 19; refine (start_ok HDW.out (by omega) n id E at0 hn HID.out HE.out hEn).mono ?_; rintro e w5 ⟨rfl, hb5⟩; have HL5 := hid (HL1.out.below hb5); have HB5 := hid (below_more HB1.out hb5); have HX5 := hid ((hb5.block _ HSZ.out).trans HBX.out); clear hb5)
          have c1 := (hit_cells HX5.out).2
          have c2 := HL5.out.row.cell han
          have HR5 := hid (ownsRow_reads (HL5.out.each at0 han))
          have HC5 := hid (Nat.le_trans (hAt.out at0 han).few hl)
          go_quiet ((go_at_call 20; exact Calls.quiet_of_same (containsI_no (HR5.out.below (drewN_below _ _ _)) (by have := HC5.out; omega) id HM.out)))
          have HL6 := hid (HL5.out.below (drewN_below w5 nq _))
          have HB6 := hid (below_more HB5.out (drewN_below w5 nq _))
          have HX6 := hid (((drewN_below w5 nq w5.heap.size).block _ (Array.getElem?_eq_some_iff.1 HX5.out).1).trans HX5.out)
          clear c1 c2 HX5 HR5 HL5 HB5
          generalize w5.drewN nq = w6 at HL6 HB6 HX6 ⊢
          go_wp2
          have c1 := (hit_cells HX6.out).2
          have hbx := fun o : Obj => ((Below.refl w6.heap.size w6).alloc (Nat.le_refl _) o).drew
          obtain ⟨av, cv, hV⟩ := ownsRow_slice (HL6.out.each at0 han)
          have c2 := HL6.out.row.cell han
          rw [hV] at c2
          have f2 := HL6.out.row.frozen at0
          have hown6 := fun o => (HL6.out.below (hbx o)).each at0 han
          rw [hV] at hown6
          have HE7 : Hid ((V at0).ownBlock = (Value.slice av (C at0).length cv).ownBlock) := congrArg Value.ownBlock hV
          have HF7 : ∀ (o : Obj) (w7 : World), (w6.alloc o).drew.grownBy w7 (Value.slice av (C at0).length cv).ownBlock → w7.frozen? ⟨w.heap.size, at0, none⟩ = false ∧ w7.cell? ⟨w.heap.size, at0, none⟩ = some (V at0) := fun o w7 hg => by
            have hL := HL6.out.below (hbx o)
            have hr := hL.row.of_block (hg.block _ hL.lt (fun e => hL.ne (hL.each at0 han) (HE7.out.trans e.symm)))
            exact ⟨hr.frozen at0, hr.cell han⟩
          have hA := fun o : Obj => keeps ((Below.refl w6.heap.size w6).alloc (Nat.le_refl _) o) _ _ c2
          clear hV
          have hcl := HC5.out
          have hsz6 := HB6.out.size
          go_region_law (refine step_append_keeps _ (by rfl) (.tmp 51) (.tmp 54) 36 (by rfl) w.heap.size 3 i1 (.int .i64 0) 1 8 Try.underlying36 hi1 hy0 hy1 hy2 (by rfl) (by decide) (.slice av (C at0).length cv) (C at0).length (numsI (C at0)) (by simp [Act.eval]) (hown6 _) ⟨w6.heap.size, 0, none⟩ 1 1 [.int .i64 (id : Int)] (by simp [Act.eval]) (by rfl) (World.news_of_block (w := (w6.alloc _).drew) (heap_alloc_new w6 _)) (by intro u hu; simp at hu; subst hu; rfl) (by decide) (by unfold maxLen; omega) (by omega) (by simp; omega) ?_; intro g7 cap7 w7 hown7 hgrow7 hat7 hlt7 hold7; obtain ⟨f7, c7⟩ := HF7 _ _ hgrow7)
          all_goals
            have hgr : (w6.alloc (.cells #[.int .i64 (id : Int)] 3)).drew.grownBy w7 (V at0).ownBlock := by rw [HE7.out]; exact hgrow7
            have hp7 := hid ((HL6.out.below (hbx _)).push han rfl hown7 hgr (by rw [HE7.out]; exact hat7))
            have hb7 : Hid (Below w.heap.size w (w7.setCell ⟨w.heap.size, at0, none⟩ (.slice (some ⟨g7, 0, none⟩) ((C at0).length + 1) cap7))) := ((below_more HB6.out (hbx (.cells #[.int .i64 (id : Int)] 3))).grown hgr (by have := (hbx (.cells #[.int .i64 (id : Int)] 3)).size; omega) (fun k hk => ((HL6.out.each at0 han).lt k hk).1)).setCell (Nat.le_refl _) _
            clear hown7 hgrow7 hat7 hlt7 hold7 f7 c7 hgr hA c1 c2 f2 hbx HF7 hcl hsz6
            generalize w7.setCell ⟨w.heap.size, at0, none⟩ (.slice (some ⟨g7, 0, none⟩) ((C at0).length + 1) cap7) = w8 at hp7 hb7 ⊢
            go_wp2
            go_roundw
            case rel =>
              refine ⟨i + 1, _, _, by go_num, by omega, hp7.out, fun k hk => ?_, hb7.out⟩
              rw [HTK.out, HE.out]
              by_cases e : k = at0
              · subst e
                rw [put2_at]
                exact (hAt.out _ hk).snoc HM.out HID.out (by rw [← HE.out]; exact hEn)
              · rw [put2_else _ _ _ e]
                exact (hAt.out k hk).other e
            case measure => simp [intOf]; omega
      · have HBAD := hid hbad
        clear hbad
        go_wp2_with (go_at_call 19; refine (start_bad HDW.out (by omega) n E K HBAD.out).mono ?_; rintro e w5 ⟨rfl, hb5⟩; have HL5 := hid (HL1.out.below hb5); have HB5 := hid (below_more HB1.out hb5); clear hb5)
        go_quiet (fail)
        have HL6 := hid (HL5.out.below (drewN_below w5 nq _))
        have HB6 := hid (below_more HB5.out (drewN_below w5 nq _))
        clear HL5 HB5
        generalize w5.drewN nq = w6 at HL6 HB6 ⊢
        go_wp2
        go_roundw
        case rel => exact ⟨i + 1, V, C, by go_num, by omega, HL6.out, fun k hk => by rw [HTK.out]; exact (hAt.out k hk).bad E K HBAD.out, HB6.out⟩
        case measure => simp [intOf]; omega
    · have hall : X.take i = X := List.take_of_length_le (by rw [← HN.out]; omega)
      rw [hall] at hAt
      have hL0 := hLt
      clear hall
      go_wp2
      go_loopw [60] (fun vi wr2 => ∃ (i : Nat) (C2 : Nat → List Nat), vi = .int .i64 i ∧ i ≤ n ∧ Hid (Lots wr2 w.heap.size w.heap.size n V C2) ∧ Hid (∀ k, k < n → AtRaw L n X k (C2 k) ∧ (k < i → (C2 k).Pairwise (fun a b => lenL L b ≤ lenL L a))) ∧ Hid (Below w.heap.size w wr2)) (fun vi _ => n - (intOf vi).toNat)
      case atStart => exact ⟨0, C, rfl, by omega, hLt.out, fun k hk => ⟨hAt.out k hk, fun h => by omega⟩, hB.out⟩
      case round =>
        clear hLt hAt hB hL0
        obtain ⟨j, C2, rfl, hj, hLt, hAt, hB⟩ := hrel
        by_cases hjn : j < n
        · have c2 := hLt.out.row.cell hjn
          have hxa : (decide ((0 : Int) ≤ (j : Int) ∧ (j : Int) < (n : Int))) = true := decide_eq_true ⟨by omega, by omega⟩
          go_wp2_with (go_at_call 21; refine (longestFirst_any HD.out hB.out (by omega) (fun s hs => (H40.out s hs).2) (Nat.le_refl _) (hLt.out.each j hjn) (fun x hx => (((hAt.out j hjn).1.2 x).1 hx).1) (hAt.out j hjn).1.1 (by have := (hAt.out j hjn).1.few; omega)).mono ?_; rintro e w5 ⟨rfl, ids', ho5, hm5, hl5, hn5, hp5, hk5⟩; have HO5 := hid ho5; have HM5 := hid hm5; have HL5 := hid hl5; have HN5 := hid hn5; have HP5 := hid hp5; have HK5 := hid hk5; clear ho5 hm5 hl5 hn5 hp5 hk5)
          have HLN := hid (hLt.out.turn hjn HL5.out HO5.out HK5.out)
          have HBN : Hid (Below w.heap.size w w5) := hB.out.trans (HK5.out.below hB.out.size (fun k hk => ((hLt.out.each j hjn).lt k hk).1))
          go_roundw
          case rel =>
            refine ⟨j + 1, _, by go_num, by omega, HLN.out, fun k hk => ?_, HBN.out⟩
            by_cases e : k = j
            · subst e
              rw [put2_at]
              exact ⟨⟨HN5.out, fun id => by rw [HM5.out id]; exact (hAt.out k hk).1.2 id⟩, fun _ => HP5.out⟩
            · rw [put2_else _ _ _ e]
              exact ⟨(hAt.out k hk).1, fun h => (hAt.out k hk).2 (by omega)⟩
          case measure => simp [intOf]; omega
        · obtain rfl : j = n := by omega
          go_wp2
          go_ret
          exact ⟨_, V, C2, rfl, hLt.out, Nat.le_refl _, fun k hk => ⟨(hAt.out k hk).1, (hAt.out k hk).2 hk⟩, hB.out⟩

set_option maxRecDepth 20000 in
/-- No list where there are too many places, or fewer than none. -/
theorem starts_off (w : World) (d v : Value) (n : Int) (h : n < 0 ∨ 1024 < n) :
    Calls Try.prog 11 #[d, .int .i64 n, v] w fun e w' => e = .returned (.slice none 0 0) ∧ w' = w := by
  by_cases h0 : n < 0
  · go_enter Try.func11, Try.ntmps11
    go_wp2
    go_ret
    exact ⟨rfl, rfl⟩
  · have h1 : decide (n < 0) = false := decide_eq_false h0
    have h2 : decide (1024 < n) = true := decide_eq_true (by omega)
    go_enter Try.func11, Try.ntmps11
    go_wp2
    go_ret
    exact ⟨rfl, rfl⟩
end Go.Proofs.Ytfeibhdnmfiflaa
