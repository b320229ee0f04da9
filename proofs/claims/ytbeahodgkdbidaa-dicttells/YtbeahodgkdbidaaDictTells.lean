/-
  DictTells: for every list of texts, every number and every text: whether phrases may be, and where not; the dictionary as bytes, and back; each phrase by its id, each id by its phrase; what is handed in stays; lists that are told are apart.
-/
import Derived.Test.YtbeahodgkdbidaaTold
import Derived.Test.YtbeahodgkdbidaaRefs2
import Derived.Test.YtbeahodgkdbidaaFnvRef
import Derived.Test.YtbeahodgkdbidaaBookTexts5
import Derived.ShutString
import Derived.ChangeOld
import Derived.SizedLaws
namespace Go.Proofs.Ytbeahodgkdbidaa
open Go.ChangeShapes Go.WideShapes Go.ChangeAt Go.RowKit
open Go.ChangeMaps (open_string shut_string)

theorem sameTexts_same {w : World} {v u : Value} {xs : List ByteArray} (hv : Reads w v (strs xs)) (hu : Reads w u (strs xs)) (hx : xs.length ≤ 1000000) :
    Calls Try.prog 27 #[v, u] w fun e w' => e = .returned (.bool true) ∧ Below w.heap.size w w' := by
  refine (sameTexts_any hv hu hx hx).mono ?_
  rintro e w' ⟨rfl, hb⟩
  exact ⟨by simp, hb⟩

/-- The lent list: a row of one's own, a mark behind. -/
def Lent (w : World) (B g n cap : Nat) (L : List ByteArray) : Prop := w.ownsRow B 9 1 (.slice (some ⟨g, 0, none⟩) (n + 1) cap) (n + 1) (strs (L ++ [markB])) ∧ n + 1 ≤ cap ∧ L.length = n
theorem Lent.below {w w' : World} {B g n cap : Nat} {L : List ByteArray} (h : Lent w B g n cap L) (hb : Below w.heap.size w w') : Lent w' B g n cap L := ⟨ownsRow_below h.1 hb, h.2⟩
theorem Lent.reads {w : World} {B g n cap : Nat} {L : List ByteArray} (h : Lent w B g n cap L) : Reads w (.slice (some ⟨g, 0, none⟩) n cap) (strs L) := by
  obtain ⟨hv, _, hn⟩ := h
  obtain ⟨a, c, e, h2⟩ := ownsRow_reads hv
  simp only [Value.slice.injEq] at e
  obtain ⟨rfl, _, rfl⟩ := e
  refine ⟨_, cap, by rw [strs_length, hn], .inr ?_⟩
  rcases h2 with h0 | ⟨b, off, e, hb, hc2⟩
  · rw [strs_length] at h0; simp at h0
  · simp only [Option.some.injEq, Addr.mk.injEq, and_true] at e
    obtain ⟨rfl, rfl⟩ := e
    refine ⟨g, 0, rfl, hb, fun i hi => ?_⟩
    rw [strs_length] at hi
    rw [hc2 i (by rw [strs_length]; simp; omega), strs_at _ i (by simp; omega), strs_at _ i hi, List.getElem_append_left hi]

set_option maxRecDepth 20000 in
set_option maxHeartbeats 8000000 in
theorem tells_bad (v : Value) (L : List ByteArray) (k : Int) (s : ByteArray) (w : World) (h : ListIn w v L) (hf : FewL L) (hs : s.size ≤ 100) (c a0 : Nat) (hL : Bad L c a0) :
    Calls Try.prog 3 #[v, .int .i64 k, .string s] w fun e w' => e = .returned (.bool true) ∧ Below w.heap.size w w' := by
  have H := hid h
  have hd1 : fewB L = true := decide_eq_true hf
  have hsz := hf.sizes
  have HSZ := hid hsz
  have hs1 : Hid (∀ s ∈ L, s.size ≤ 100000) := fun s hs => by have := hsz.2 s hs; omega
  have hs2 : Hid (∀ s ∈ L, s.size ≤ 140737488355328) := fun s hs => by have := hsz.2 s hs; omega
  have hcode := hL.code
  have htd := hid (told_same c a0 (by omega))
  have hc1 : ((c : Int) == 0) = false := beq_false_of_ne (by omega)
  have HB := hid hL
  generalize hn : L.length = n at *
  have HN := hid hn
  clear h hL hsz hf hn
  go_enter Try.func3, Try.ntmps3
  go_wp2_with (first
    | (go_at_call 9; refine (few_any H.out).mono ?_; rintro e w1 ⟨rfl, rfl⟩; rw [hd1])
    | (go_at_call 10; refine (alive_any _).mono ?_; rintro e w2 ⟨rfl, hb2⟩; have hw2 := hid hb2)
    | (go_at_call 11; refine (lent_any (H.out.below hw2.out).1 (by rw [HN.out]; exact HSZ.out.1)).mono ?_; rintro e w3 ⟨g, cap, rfl, ho3, hc3, hb3⟩; rw [HN.out] at ho3 hc3; have M3 : Hid (Lent w3 w2.heap.size g n cap L) := hid ⟨ho3, hc3, HN.out⟩; rw [HN.out]; have hw3 := hid (below_more hw2.out hb3); clear ho3 hb3 hb2)
    | (go_at_call 12; refine (new_bad M3.out.reads (by rw [HN.out]; exact HSZ.out.1) hs2.out HB.out).mono ?_; rintro e w4 ⟨rfl, hb4⟩; have hw4 := hid (below_more hw3.out hb4); have M4 := hid (M3.out.below hb4); clear hb4)
    | (go_at_call 13; refine (phrases_bad (H.out.below hw4.out).1 (by rw [HN.out]; exact HSZ.out.1) hs1.out HB.out).mono ?_; rintro e w5 ⟨rfl, rfl⟩)
    | (go_at_call 14; refine (htd.out _).mono ?_; rintro e w6 ⟨rfl, hb6⟩; have hw6 := hid (below_more hw4.out hb6); have M6 := hid (M4.out.below hb6); clear hb6)
    | (go_at_call 15; refine (stays_any M6.out.1 M6.out.2.1 (H.out.below hw6.out).1 HN.out HSZ.out.1).mono ?_; rintro e w7 ⟨rfl, hb7⟩; have hw7 := hid (below_more hw6.out hb7); clear hb7)
    | (go_at_call 16; refine (at_nil 0 _).mono ?_; rintro e w8 ⟨rfl, rfl⟩)
    | (go_at_call 17; refine (find_nil s _).mono ?_; rintro e w8 ⟨rfl, rfl⟩)
    | (go_at_call 18; refine (bytes_nil _).mono ?_; rintro e w8 ⟨rfl, rfl⟩)
    | (go_at_call 19; refine (id_nil _).mono ?_; rintro e w8 ⟨rfl, rfl⟩)
    | (go_at_call 20; refine (len_nil _).mono ?_; rintro e w8 ⟨rfl, rfl⟩)
    | (go_at_call 21; refine (all_nil _).mono ?_; rintro e w8 ⟨rfl, rfl⟩))
  go_ret
  exact ⟨rfl, hw7.out⟩

/-- What stands behind Load: nothing below the book has turned, the loaded dictionary, the book of two lists. -/
def St (w0 w : World) (B q : Nat) (L : List ByteArray) : Prop := Below w0.heap.size w0 w ∧ DictAt w B q L ∧ ∃ V V' C u u', BookT w w0.heap.size w0.heap.size 2 V V' C u u' ∧ (∀ j, (C j).length ≤ 50000)

theorem BookT.below {w w' : World} {B p n : Nat} {V V' : Nat → Value} {C : Nat → List ByteArray} {u u' : Value} (h : BookT w B p n V V' C u u') (hb : Below w.heap.size w w') : BookT w' B p n V V' C u u' :=
  ⟨h.book.below hb, h.lists.below hb, h.was.below hb, h.off, h.off', h.low⟩

theorem St.below {w0 w w' : World} {B q : Nat} {L : List ByteArray} (h : St w0 w B q L) (hb : Below w.heap.size w w') : St w0 w' B q L := by
  obtain ⟨h1, h2, V, V', C, u, u', h3, h4⟩ := h
  exact ⟨below_more h1 hb, h2.below hb, V, V', C, u, u', h3.below hb, h4⟩

theorem St.made {w0 w w' : World} {q : Nat} {L : List ByteArray} {V V' : Nat → Value} {C : Nat → List ByteArray} {u u' : Value} (h : BookT w w0.heap.size w0.heap.size 2 V V' C u u') (hf : Below w0.heap.size w0 w) (hC : ∀ j, (C j).length ≤ 50000) (hd : DictAt w' w.heap.size q L) (hb : Below w.heap.size w w') : St w0 w' w.heap.size q L :=
  ⟨below_more hf hb, hd, V, V', C, u, u', h.below hb, hC⟩

theorem St.apart {w0 w : World} {B q : Nat} {L : List ByteArray} (h : St w0 w B q L) :
    Calls Try.prog 28 #[.pointer (some ⟨w0.heap.size, 0, none⟩)] w fun e w' => e = .returned (.bool true) ∧ Below w0.heap.size w w' := by
  obtain ⟨h1, _, V, V', C, u, u', h3, h4⟩ := h
  exact apart_any h3 (by decide) (fun j _ => h4 j) h1.size

theorem book_new (w : World) : BookT (w.alloc (.cells #[.slice none 0 0, .slice none 0 0, .slice none 0 0, .slice none 0 0, .slice none 0 0, .slice none 0 0, .slice none 0 0, .slice none 0 0, .slice none 0 0, .slice none 0 0] 53)) w.heap.size w.heap.size 0 (fun _ => .slice none 0 0) (fun _ => .slice none 0 0) (fun _ => []) (.slice none 0 0) (.slice none 0 0) :=
  ⟨⟨heap_alloc_new w _, rfl⟩, ⟨World.ownsRow_nil _ _ _ _, fun j hj => by omega, fun i j hi => by omega⟩, ⟨World.ownsRow_nil _ _ _ _, fun j hj => by omega, fun i j hi => by omega⟩, .inl rfl, .inl rfl, Nat.le_refl _⟩

theorem alloc_size (w : World) (o : Obj) : w.heap.size ≤ (w.alloc o).heap.size := by simp

/-- A dictionary outlasts a store into a row that lies below it. -/
theorem DictAt.stored {w : World} {B p g j : Nat} {L : List ByteArray} (h : DictAt w B p L) (hg : g < B) (u : Value) : DictAt (w.setCell ⟨g, j, none⟩ u) B p L := by
  obtain ⟨h1, v, h2, h3⟩ := h
  have hk : ∀ k, B ≤ k → (w.setCell ⟨g, j, none⟩ u).heap[k]? = w.heap[k]? := fun k hk => Below.heap_setCell _ _ _ _ (by simp only; omega)
  exact ⟨h1, v, (hk p h1).trans h2, ownsRow_same h3 (fun g' hg' => hk g' (h3.lt g' hg').1)⟩

set_option maxRecDepth 20000 in
set_option maxHeartbeats 8000000 in
theorem tells_fine (v : Value) (L : List ByteArray) (k : Int) (s : ByteArray) (w : World) (h : ListIn w v L) (hf : FewL L) (hs : s.size ≤ 100) (hL : Fine L) :
    Calls Try.prog 3 #[v, .int .i64 k, .string s] w fun e w' => e = .returned (.bool true) ∧ Below w.heap.size w w' := by
  have H := hid h
  have hd1 : fewB L = true := decide_eq_true hf
  have hsz := hf.sizes
  have HSZ := hid hsz
  have HF := hid hL
  have HBD := hid (Fine.bounds hL)
  have hl100 := hL.1
  obtain ⟨⟨av, cv, rfl, ha⟩, _, _⟩ := h
  rw [strs_length] at *
  have HA := hid ha
  generalize hn : L.length = n at *
  have HN := hid hn
  clear ha hL hsz hf hn
  go_enter Try.func3, Try.ntmps3
  go_wp2_with (first
    | (go_at_call 9; refine (few_any H.out).mono ?_; rintro e w1 ⟨rfl, rfl⟩; rw [hd1])
    | (go_at_call 10; refine (alive_any _).mono ?_; rintro e w2 ⟨rfl, hb2⟩; have hw2 := hid hb2)
    | (go_at_call 11; refine (lent_any (H.out.below hw2.out).1 (by rw [HN.out]; exact HSZ.out.1)).mono ?_; rintro e w3 ⟨g, cap, rfl, ho3, hc3, hb3⟩; rw [HN.out] at ho3 hc3; have M3 : Hid (Lent w3 w2.heap.size g n cap L) := hid ⟨ho3, hc3, HN.out⟩; rw [HN.out]; have hw3 := hid (below_more hw2.out hb3); have hg3 := hid (ho3.lt g rfl); clear ho3 hb3 hb2)
    | (go_at_call 12; refine (new_fine M3.out.reads HF.out).mono ?_; rintro e w4 ⟨p, rfl, hd4, hb4⟩; have hw4 := hid (below_more hw3.out hb4); have M4 := hid (M3.out.below hb4); have D4 := hid hd4; clear hb4 hd4)
    | (go_at_call 13; refine (phrases_fine (H.out.below hw4.out).1 HF.out).mono ?_; rintro e w5 ⟨rfl, rfl⟩)
    | (go_at_call 14; refine (told_nil 0 _).mono ?_; rintro e w6 ⟨rfl, rfl⟩)
    | (go_at_call 15; refine (stays_any M4.out.1 M4.out.2.1 (H.out.below hw4.out).1 HN.out HSZ.out.1).mono ?_; rintro e w7 ⟨rfl, hb7⟩; have hw7 := hid (below_more hw4.out hb7); have M7 := hid (M4.out.below hb7); have D7 := hid (D4.out.below hb7); clear hb7))
  go_loopw [111] (fun vi wr => ∃ (i : Nat) (ys : List Value), vi = .int .i64 i ∧ i ≤ n ∧ Hid (wr.ownsRow w2.heap.size 9 1 (.slice (some ⟨g, 0, none⟩) (n + 1) cap) (n + 1) ys) ∧ Hid (DictAt wr w3.heap.size p L) ∧ Hid (Below w1.heap.size w1 wr)) (fun vi _ => n - (intOf vi).toNat)
  case atStart => exact ⟨0, _, rfl, by omega, M7.out.1, D7.out, hw7.out⟩
  case round =>
    obtain ⟨i, ys, rfl, hi, hown, hD, hbl⟩ := hrel
    by_cases hin : i < n
    · have hl := hown.out.1
      have hcx := hown.out.cellAt i (by omega)
      rw [List.getElem?_eq_getElem (by omega)] at hcx
      have hfx := hown.out.frozenAt i
      generalize ys[i]'(by omega) = old at hcx
      have hx' : (decide ((0 : Int) ≤ (i : Int) ∧ (i : Int) < (n : Int))) = true := decide_eq_true ⟨by omega, by omega⟩
      clear hl
      go_wp2
      go_roundw
      case rel => exact ⟨i + 1, _, by go_num, by omega, (hown.out.stored i _).1, hD.out.stored hg3.out.2 _, hbl.out.setCell (p := ⟨g, i, none⟩) (Nat.le_trans hw2.out.size hg3.out.1) _⟩
      case measure => simp [intOf]; omega
    · obtain rfl : i = n := by omega
      have hLn : Hid (L.length ≤ 1000000) := by show _ ≤ _; rw [HN.out]; omega
      have hBy := hid (fun (w : World) (B p : Nat) (hd : DictAt w B p L) => bytes_any hd hLn.out HBD.out.2.1 (Nat.le_trans HBD.out.2.2 (by decide)))
      have hId := hid (fun (w : World) (B p : Nat) (hd : DictAt w B p L) => id_any hd hLn.out HBD.out.2.1 (Nat.le_trans HBD.out.2.2 (by decide)))
      have hE : (enc L).size ≤ 4505 := by
        rw [enc_size]
        have := vlen_five L.length (by have := hLn.out; omega)
        have := HBD.out.2.2
        omega
      have hLd := hid (fun (w : World) => load_fine (w := w) (enc L) (by omega) (cut_enc L (Nat.lt_of_le_of_lt hLn.out (by decide)) HBD.out.2.1) HF.out)
      have hRB := hid (fun (w : World) (v : Value) (hv : Reads w v (strs L)) => refBytes_any hv hLn.out HBD.out.2.1 (Nat.le_trans HBD.out.2.2 (by decide)))
      have hFn := hid (fun (w : World) => fnvRef_any (enc L) (by omega) w)
      generalize enc L = eb at *
      generalize fnv eb = fe at *
      clear M7 D7 M4 M3 hw7 hw4
      have hLn2 : Hid (∀ j, (put1 1 (put1 0 (fun _ => []) L) L j).length ≤ 50000) := by
        intro j
        have := hLn.out
        have hl := HN.out
        unfold put1
        split
        · omega
        · split
          · omega
          · simp
      have hL5 : Hid (L.length ≤ 50000) := by show _ ≤ _; rw [HN.out]; omega
      by_cases hk : k < 0
      · rcases first_or L s with hm | ⟨j, hj⟩
        · go_wp2_with (first
            | (have _h := t5; go_at_call 19; refine (hId.out _ _ _ (D0.out.below S21.out.1)).mono ?_; rintro e w22 ⟨rfl, hb22⟩; have S22 := hid (S21.out.below hb22); clear hb22)
            | (have _h := t4; go_at_call 19; refine (hId.out _ _ _ S20.out.2.1).mono ?_; rintro e w21 ⟨rfl, hb21⟩; have S21 := hid (S20.out.below hb21); clear hb21; have t5 : True := trivial)
            | (have _h := t4; go_at_call 27; refine (sameTexts_same R19.out (H0.out.below S19.out.1).1 hLn.out).mono ?_; rintro e w20 ⟨rfl, hb20⟩; have S20 := hid (S19.out.below hb20); clear hb20)
            | (have _h := t4; go_at_call 21; refine (all_any S18.out.2.1 hLn.out).mono ?_; rintro e w19 ⟨v19, rfl, ho19, hb19⟩; have S19 := hid (S18.out.below hb19); have R19 := hid (ownsRow_reads ho19); clear hb19 ho19)
            | (have _h := t3; go_at_call 27; refine (sameTexts_same R17.out (H0.out.below S17.out.1).1 hLn.out).mono ?_; rintro e w18 ⟨rfl, hb18⟩; have S18 := hid (S17.out.below hb18); clear hb18; have t4 : True := trivial)
            | (have _h := t3; go_at_call 21; refine (all_any (D0.out.below S16.out.1) hLn.out).mono ?_; rintro e w17 ⟨v17, rfl, ho17, hb17⟩; have S17 := hid (S16.out.below hb17); have R17 := hid (ownsRow_reads ho17); clear hb17 ho17)
            | (have _h := t3; go_at_call 20; refine (len_dict (D0.out.below S16.out.1)).mono ?_; rintro e _ ⟨rfl, rfl⟩; rw [HN.out])
            | (have _h := t3; go_at_call 26; refine (hFn.out _).mono ?_; rintro e _ ⟨rfl, rfl⟩)
            | (have _h := t3; go_at_call 19; refine (hId.out _ _ _ (D0.out.below S15.out.1)).mono ?_; rintro e w16 ⟨rfl, hb16⟩; have S16 := hid (S15.out.below hb16); clear hb16)
            | (have _h := t3; go_at_call 25; refine (hRB.out _ _ (H0.out.below S14.out.1).1).mono ?_; rintro e w15 ⟨rfl, hb15⟩; have S15 := hid (S14.out.below hb15); clear hb15)
            | (go_at_call 28; refine (S22.out.apart).mono ?_; rintro e w23 ⟨rfl, hb23⟩; have hw23 := hid (below_more hw0.out (S22.out.1.trans hb23)); clear hb23)
            | (have _h := t1; go_at_call 24; refine (hLd.out _).mono ?_; rintro e w14 ⟨q, rfl, hd14, hb14⟩; have S14 := hid (St.made K13.out fr13.out hLn2.out hd14 hb14); clear hd14 hb14; have t3 : True := trivial)
            | (have _h := t1; go_at_call 23; refine (texts_any K12.out (by decide) O12.out hL5.out hf12.out hs12.out).mono ?_; rintro e w13 ⟨rfl, ⟨u4, u5, V4, hk13⟩, hb13⟩; have K13 := hid hk13; have fr13 := hid (fr12.out.trans hb13); clear hk13 hb13)
            | (have _h := t1; go_at_call 21; refine (all_any (D0.out.below fr11.out) hLn.out).mono ?_; rintro e w12 ⟨v12, rfl, ho12, hb12⟩; have K12 := hid (K11.out.below hb12); have O12 := hid (ownsRow_lower ho12 fr11.out.size); have hf12 := hid (fresh_off ho12 K11.out.lists); have fr12 := hid (below_more fr11.out hb12); have hs12 := hid (Nat.le_trans fr11.out.size hb12.size); clear ho12 hb12)
            | (go_at_call 23; refine (texts_any K10.out (by decide) O10.out hL5.out (fun j hj => by omega) hs10.out).mono ?_; rintro e w11 ⟨rfl, ⟨u2, u3, V3, hk11⟩, hb11⟩; have K11 := hid hk11; have fr11 := hid (fr10.out.trans hb11); clear hk11 hb11; have t1 : True := trivial)
            | (go_at_call 21; refine (all_any (D8.out.below (Below.alloc (Below.refl _ _) (Nat.le_refl _) _)) hLn.out).mono ?_; rintro e w10 ⟨v10, rfl, ho10, hb10⟩; have K10 := hid ((book_new w9).below hb10); have O10 := hid (ownsRow_lower ho10 (alloc_size w9 _)); have fr10 := hid (below_more (Below.alloc (Below.refl w9.heap.size w9) (Nat.le_refl _) (.cells #[.slice none 0 0, .slice none 0 0, .slice none 0 0, .slice none 0 0, .slice none 0 0, .slice none 0 0, .slice none 0 0, .slice none 0 0, .slice none 0 0, .slice none 0 0] 53)) hb10); have hs10 := hid fr10.out.size; have D0 := D8; have hw0 := hw8; have H0 := hid (H.out.below hw8.out); clear ho10 hb10)
            | (go_at_call 18; refine (hBy.out _ _ _ hD.out).mono ?_; rintro e w8 ⟨rfl, hb8⟩; have hw8 := hid (below_more hbl.out hb8); have D8 := hid (hD.out.below hb8); skip; clear hb8)
            | (go_at_call 16; refine (at_out D8.out hLn.out k (.inl hk)).mono ?_; rintro e w9 ⟨rfl, rfl⟩)
            | (go_at_call 17; refine (find_out D8.out hLn.out hm).mono ?_; rintro e w9 ⟨rfl, rfl⟩)
            | (go_at_call 22; refine (refFind_out (H.out.below hw8.out).1 hLn.out hm).mono ?_; rintro e w9 ⟨rfl, rfl⟩))
          go_ret
          exact ⟨rfl, hw23.out⟩
        · have hjn : j < i := by obtain ⟨h, _⟩ := hj; rw [← HN.out]; exact h
          go_wp2_with (first
            | (have _h := t5; go_at_call 19; refine (hId.out _ _ _ (D0.out.below S21.out.1)).mono ?_; rintro e w22 ⟨rfl, hb22⟩; have S22 := hid (S21.out.below hb22); clear hb22)
            | (have _h := t4; go_at_call 19; refine (hId.out _ _ _ S20.out.2.1).mono ?_; rintro e w21 ⟨rfl, hb21⟩; have S21 := hid (S20.out.below hb21); clear hb21; have t5 : True := trivial)
            | (have _h := t4; go_at_call 27; refine (sameTexts_same R19.out (H0.out.below S19.out.1).1 hLn.out).mono ?_; rintro e w20 ⟨rfl, hb20⟩; have S20 := hid (S19.out.below hb20); clear hb20)
            | (have _h := t4; go_at_call 21; refine (all_any S18.out.2.1 hLn.out).mono ?_; rintro e w19 ⟨v19, rfl, ho19, hb19⟩; have S19 := hid (S18.out.below hb19); have R19 := hid (ownsRow_reads ho19); clear hb19 ho19)
            | (have _h := t3; go_at_call 27; refine (sameTexts_same R17.out (H0.out.below S17.out.1).1 hLn.out).mono ?_; rintro e w18 ⟨rfl, hb18⟩; have S18 := hid (S17.out.below hb18); clear hb18; have t4 : True := trivial)
            | (have _h := t3; go_at_call 21; refine (all_any (D0.out.below S16.out.1) hLn.out).mono ?_; rintro e w17 ⟨v17, rfl, ho17, hb17⟩; have S17 := hid (S16.out.below hb17); have R17 := hid (ownsRow_reads ho17); clear hb17 ho17)
            | (have _h := t3; go_at_call 20; refine (len_dict (D0.out.below S16.out.1)).mono ?_; rintro e _ ⟨rfl, rfl⟩; rw [HN.out])
            | (have _h := t3; go_at_call 26; refine (hFn.out _).mono ?_; rintro e _ ⟨rfl, rfl⟩)
            | (have _h := t3; go_at_call 19; refine (hId.out _ _ _ (D0.out.below S15.out.1)).mono ?_; rintro e w16 ⟨rfl, hb16⟩; have S16 := hid (S15.out.below hb16); clear hb16)
            | (have _h := t3; go_at_call 25; refine (hRB.out _ _ (H0.out.below S14.out.1).1).mono ?_; rintro e w15 ⟨rfl, hb15⟩; have S15 := hid (S14.out.below hb15); clear hb15)
            | (go_at_call 28; refine (S22.out.apart).mono ?_; rintro e w23 ⟨rfl, hb23⟩; have hw23 := hid (below_more hw0.out (S22.out.1.trans hb23)); clear hb23)
            | (have _h := t1; go_at_call 24; refine (hLd.out _).mono ?_; rintro e w14 ⟨q, rfl, hd14, hb14⟩; have S14 := hid (St.made K13.out fr13.out hLn2.out hd14 hb14); clear hd14 hb14; have t3 : True := trivial)
            | (have _h := t1; go_at_call 23; refine (texts_any K12.out (by decide) O12.out hL5.out hf12.out hs12.out).mono ?_; rintro e w13 ⟨rfl, ⟨u4, u5, V4, hk13⟩, hb13⟩; have K13 := hid hk13; have fr13 := hid (fr12.out.trans hb13); clear hk13 hb13)
            | (have _h := t1; go_at_call 21; refine (all_any (D0.out.below fr11.out) hLn.out).mono ?_; rintro e w12 ⟨v12, rfl, ho12, hb12⟩; have K12 := hid (K11.out.below hb12); have O12 := hid (ownsRow_lower ho12 fr11.out.size); have hf12 := hid (fresh_off ho12 K11.out.lists); have fr12 := hid (below_more fr11.out hb12); have hs12 := hid (Nat.le_trans fr11.out.size hb12.size); clear ho12 hb12)
            | (go_at_call 23; refine (texts_any K10.out (by decide) O10.out hL5.out (fun j hj => by omega) hs10.out).mono ?_; rintro e w11 ⟨rfl, ⟨u2, u3, V3, hk11⟩, hb11⟩; have K11 := hid hk11; have fr11 := hid (fr10.out.trans hb11); clear hk11 hb11; have t1 : True := trivial)
            | (go_at_call 21; refine (all_any (D8.out.below (Below.alloc (Below.refl _ _) (Nat.le_refl _) _)) hLn.out).mono ?_; rintro e w10 ⟨v10, rfl, ho10, hb10⟩; have K10 := hid ((book_new w9).below hb10); have O10 := hid (ownsRow_lower ho10 (alloc_size w9 _)); have fr10 := hid (below_more (Below.alloc (Below.refl w9.heap.size w9) (Nat.le_refl _) (.cells #[.slice none 0 0, .slice none 0 0, .slice none 0 0, .slice none 0 0, .slice none 0 0, .slice none 0 0, .slice none 0 0, .slice none 0 0, .slice none 0 0, .slice none 0 0] 53)) hb10); have hs10 := hid fr10.out.size; have D0 := D8; have hw0 := hw8; have H0 := hid (H.out.below hw8.out); clear ho10 hb10)
            | (go_at_call 18; refine (hBy.out _ _ _ hD.out).mono ?_; rintro e w8 ⟨rfl, hb8⟩; have hw8 := hid (below_more hbl.out hb8); have D8 := hid (hD.out.below hb8); skip; clear hb8)
            | (go_at_call 16; refine (at_out D8.out hLn.out k (.inl hk)).mono ?_; rintro e w9 ⟨rfl, rfl⟩)
            | (go_at_call 17; refine (find_in D8.out hLn.out hj).mono ?_; rintro e w9 ⟨rfl, rfl⟩)
            | (go_at_call 22; refine (refFind_in (H.out.below hw8.out).1 hLn.out hj).mono ?_; rintro e w9 ⟨rfl, rfl⟩))
          go_ret
          exact ⟨rfl, hw23.out⟩
      · by_cases hk2 : (i : Int) ≤ k
        · clear hk
          rcases first_or L s with hm | ⟨j, hj⟩
          · go_wp2_with (first
              | (have _h := t5; go_at_call 19; refine (hId.out _ _ _ (D0.out.below S21.out.1)).mono ?_; rintro e w22 ⟨rfl, hb22⟩; have S22 := hid (S21.out.below hb22); clear hb22)
              | (have _h := t4; go_at_call 19; refine (hId.out _ _ _ S20.out.2.1).mono ?_; rintro e w21 ⟨rfl, hb21⟩; have S21 := hid (S20.out.below hb21); clear hb21; have t5 : True := trivial)
              | (have _h := t4; go_at_call 27; refine (sameTexts_same R19.out (H0.out.below S19.out.1).1 hLn.out).mono ?_; rintro e w20 ⟨rfl, hb20⟩; have S20 := hid (S19.out.below hb20); clear hb20)
              | (have _h := t4; go_at_call 21; refine (all_any S18.out.2.1 hLn.out).mono ?_; rintro e w19 ⟨v19, rfl, ho19, hb19⟩; have S19 := hid (S18.out.below hb19); have R19 := hid (ownsRow_reads ho19); clear hb19 ho19)
              | (have _h := t3; go_at_call 27; refine (sameTexts_same R17.out (H0.out.below S17.out.1).1 hLn.out).mono ?_; rintro e w18 ⟨rfl, hb18⟩; have S18 := hid (S17.out.below hb18); clear hb18; have t4 : True := trivial)
              | (have _h := t3; go_at_call 21; refine (all_any (D0.out.below S16.out.1) hLn.out).mono ?_; rintro e w17 ⟨v17, rfl, ho17, hb17⟩; have S17 := hid (S16.out.below hb17); have R17 := hid (ownsRow_reads ho17); clear hb17 ho17)
              | (have _h := t3; go_at_call 20; refine (len_dict (D0.out.below S16.out.1)).mono ?_; rintro e _ ⟨rfl, rfl⟩; rw [HN.out])
              | (have _h := t3; go_at_call 26; refine (hFn.out _).mono ?_; rintro e _ ⟨rfl, rfl⟩)
              | (have _h := t3; go_at_call 19; refine (hId.out _ _ _ (D0.out.below S15.out.1)).mono ?_; rintro e w16 ⟨rfl, hb16⟩; have S16 := hid (S15.out.below hb16); clear hb16)
              | (have _h := t3; go_at_call 25; refine (hRB.out _ _ (H0.out.below S14.out.1).1).mono ?_; rintro e w15 ⟨rfl, hb15⟩; have S15 := hid (S14.out.below hb15); clear hb15)
              | (go_at_call 28; refine (S22.out.apart).mono ?_; rintro e w23 ⟨rfl, hb23⟩; have hw23 := hid (below_more hw0.out (S22.out.1.trans hb23)); clear hb23)
              | (have _h := t1; go_at_call 24; refine (hLd.out _).mono ?_; rintro e w14 ⟨q, rfl, hd14, hb14⟩; have S14 := hid (St.made K13.out fr13.out hLn2.out hd14 hb14); clear hd14 hb14; have t3 : True := trivial)
              | (have _h := t1; go_at_call 23; refine (texts_any K12.out (by decide) O12.out hL5.out hf12.out hs12.out).mono ?_; rintro e w13 ⟨rfl, ⟨u4, u5, V4, hk13⟩, hb13⟩; have K13 := hid hk13; have fr13 := hid (fr12.out.trans hb13); clear hk13 hb13)
              | (have _h := t1; go_at_call 21; refine (all_any (D0.out.below fr11.out) hLn.out).mono ?_; rintro e w12 ⟨v12, rfl, ho12, hb12⟩; have K12 := hid (K11.out.below hb12); have O12 := hid (ownsRow_lower ho12 fr11.out.size); have hf12 := hid (fresh_off ho12 K11.out.lists); have fr12 := hid (below_more fr11.out hb12); have hs12 := hid (Nat.le_trans fr11.out.size hb12.size); clear ho12 hb12)
              | (go_at_call 23; refine (texts_any K10.out (by decide) O10.out hL5.out (fun j hj => by omega) hs10.out).mono ?_; rintro e w11 ⟨rfl, ⟨u2, u3, V3, hk11⟩, hb11⟩; have K11 := hid hk11; have fr11 := hid (fr10.out.trans hb11); clear hk11 hb11; have t1 : True := trivial)
              | (go_at_call 21; refine (all_any (D8.out.below (Below.alloc (Below.refl _ _) (Nat.le_refl _) _)) hLn.out).mono ?_; rintro e w10 ⟨v10, rfl, ho10, hb10⟩; have K10 := hid ((book_new w9).below hb10); have O10 := hid (ownsRow_lower ho10 (alloc_size w9 _)); have fr10 := hid (below_more (Below.alloc (Below.refl w9.heap.size w9) (Nat.le_refl _) (.cells #[.slice none 0 0, .slice none 0 0, .slice none 0 0, .slice none 0 0, .slice none 0 0, .slice none 0 0, .slice none 0 0, .slice none 0 0, .slice none 0 0, .slice none 0 0] 53)) hb10); have hs10 := hid fr10.out.size; have D0 := D8; have hw0 := hw8; have H0 := hid (H.out.below hw8.out); clear ho10 hb10)
              | (go_at_call 18; refine (hBy.out _ _ _ hD.out).mono ?_; rintro e w8 ⟨rfl, hb8⟩; have hw8 := hid (below_more hbl.out hb8); have D8 := hid (hD.out.below hb8); skip; clear hb8)
              | (go_at_call 16; refine (at_out D8.out hLn.out k (.inr (by rw [HN.out]; exact hk2))).mono ?_; rintro e w9 ⟨rfl, rfl⟩)
              | (go_at_call 17; refine (find_out D8.out hLn.out hm).mono ?_; rintro e w9 ⟨rfl, rfl⟩)
              | (go_at_call 22; refine (refFind_out (H.out.below hw8.out).1 hLn.out hm).mono ?_; rintro e w9 ⟨rfl, rfl⟩))
            go_ret
            exact ⟨rfl, hw23.out⟩
          · have hjn : j < i := by obtain ⟨h, _⟩ := hj; rw [← HN.out]; exact h
            go_wp2_with (first
              | (have _h := t5; go_at_call 19; refine (hId.out _ _ _ (D0.out.below S21.out.1)).mono ?_; rintro e w22 ⟨rfl, hb22⟩; have S22 := hid (S21.out.below hb22); clear hb22)
              | (have _h := t4; go_at_call 19; refine (hId.out _ _ _ S20.out.2.1).mono ?_; rintro e w21 ⟨rfl, hb21⟩; have S21 := hid (S20.out.below hb21); clear hb21; have t5 : True := trivial)
              | (have _h := t4; go_at_call 27; refine (sameTexts_same R19.out (H0.out.below S19.out.1).1 hLn.out).mono ?_; rintro e w20 ⟨rfl, hb20⟩; have S20 := hid (S19.out.below hb20); clear hb20)
              | (have _h := t4; go_at_call 21; refine (all_any S18.out.2.1 hLn.out).mono ?_; rintro e w19 ⟨v19, rfl, ho19, hb19⟩; have S19 := hid (S18.out.below hb19); have R19 := hid (ownsRow_reads ho19); clear hb19 ho19)
              | (have _h := t3; go_at_call 27; refine (sameTexts_same R17.out (H0.out.below S17.out.1).1 hLn.out).mono ?_; rintro e w18 ⟨rfl, hb18⟩; have S18 := hid (S17.out.below hb18); clear hb18; have t4 : True := trivial)
              | (have _h := t3; go_at_call 21; refine (all_any (D0.out.below S16.out.1) hLn.out).mono ?_; rintro e w17 ⟨v17, rfl, ho17, hb17⟩; have S17 := hid (S16.out.below hb17); have R17 := hid (ownsRow_reads ho17); clear hb17 ho17)
              | (have _h := t3; go_at_call 20; refine (len_dict (D0.out.below S16.out.1)).mono ?_; rintro e _ ⟨rfl, rfl⟩; rw [HN.out])
              | (have _h := t3; go_at_call 26; refine (hFn.out _).mono ?_; rintro e _ ⟨rfl, rfl⟩)
              | (have _h := t3; go_at_call 19; refine (hId.out _ _ _ (D0.out.below S15.out.1)).mono ?_; rintro e w16 ⟨rfl, hb16⟩; have S16 := hid (S15.out.below hb16); clear hb16)
              | (have _h := t3; go_at_call 25; refine (hRB.out _ _ (H0.out.below S14.out.1).1).mono ?_; rintro e w15 ⟨rfl, hb15⟩; have S15 := hid (S14.out.below hb15); clear hb15)
              | (go_at_call 28; refine (S22.out.apart).mono ?_; rintro e w23 ⟨rfl, hb23⟩; have hw23 := hid (below_more hw0.out (S22.out.1.trans hb23)); clear hb23)
              | (have _h := t1; go_at_call 24; refine (hLd.out _).mono ?_; rintro e w14 ⟨q, rfl, hd14, hb14⟩; have S14 := hid (St.made K13.out fr13.out hLn2.out hd14 hb14); clear hd14 hb14; have t3 : True := trivial)
              | (have _h := t1; go_at_call 23; refine (texts_any K12.out (by decide) O12.out hL5.out hf12.out hs12.out).mono ?_; rintro e w13 ⟨rfl, ⟨u4, u5, V4, hk13⟩, hb13⟩; have K13 := hid hk13; have fr13 := hid (fr12.out.trans hb13); clear hk13 hb13)
              | (have _h := t1; go_at_call 21; refine (all_any (D0.out.below fr11.out) hLn.out).mono ?_; rintro e w12 ⟨v12, rfl, ho12, hb12⟩; have K12 := hid (K11.out.below hb12); have O12 := hid (ownsRow_lower ho12 fr11.out.size); have hf12 := hid (fresh_off ho12 K11.out.lists); have fr12 := hid (below_more fr11.out hb12); have hs12 := hid (Nat.le_trans fr11.out.size hb12.size); clear ho12 hb12)
              | (go_at_call 23; refine (texts_any K10.out (by decide) O10.out hL5.out (fun j hj => by omega) hs10.out).mono ?_; rintro e w11 ⟨rfl, ⟨u2, u3, V3, hk11⟩, hb11⟩; have K11 := hid hk11; have fr11 := hid (fr10.out.trans hb11); clear hk11 hb11; have t1 : True := trivial)
              | (go_at_call 21; refine (all_any (D8.out.below (Below.alloc (Below.refl _ _) (Nat.le_refl _) _)) hLn.out).mono ?_; rintro e w10 ⟨v10, rfl, ho10, hb10⟩; have K10 := hid ((book_new w9).below hb10); have O10 := hid (ownsRow_lower ho10 (alloc_size w9 _)); have fr10 := hid (below_more (Below.alloc (Below.refl w9.heap.size w9) (Nat.le_refl _) (.cells #[.slice none 0 0, .slice none 0 0, .slice none 0 0, .slice none 0 0, .slice none 0 0, .slice none 0 0, .slice none 0 0, .slice none 0 0, .slice none 0 0, .slice none 0 0] 53)) hb10); have hs10 := hid fr10.out.size; have D0 := D8; have hw0 := hw8; have H0 := hid (H.out.below hw8.out); clear ho10 hb10)
              | (go_at_call 18; refine (hBy.out _ _ _ hD.out).mono ?_; rintro e w8 ⟨rfl, hb8⟩; have hw8 := hid (below_more hbl.out hb8); have D8 := hid (hD.out.below hb8); skip; clear hb8)
              | (go_at_call 16; refine (at_out D8.out hLn.out k (.inr (by rw [HN.out]; exact hk2))).mono ?_; rintro e w9 ⟨rfl, rfl⟩)
              | (go_at_call 17; refine (find_in D8.out hLn.out hj).mono ?_; rintro e w9 ⟨rfl, rfl⟩)
              | (go_at_call 22; refine (refFind_in (H.out.below hw8.out).1 hLn.out hj).mono ?_; rintro e w9 ⟨rfl, rfl⟩))
            go_ret
            exact ⟨rfl, hw23.out⟩
        · obtain ⟨K, rfl⟩ := Int.eq_ofNat_of_zero_le (show 0 ≤ k by omega)
          have hKi : K < i := by omega
          have hKL : Hid (K < L.length) := by show _ < _; rw [HN.out]; exact hKi
          rcases HA.out with h | ⟨gb, o, rfl, hgb, hcell⟩
          · omega
          have hcK := keeps hbl.out _ _ ((hcell K hKi).trans (strs_at L K hKL.out))
          clear hcell hk hk2
          have hx' : (decide ((0 : Int) ≤ (K : Int) ∧ (K : Int) < (i : Int))) = true := decide_eq_true ⟨by omega, by omega⟩
          have hat := hid (fun (w : World) (B p : Nat) (hd : DictAt w B p L) => at_in hd hLn.out K hKL.out)
          generalize L[K]'hKL.out = xk at hcK hat
          rcases first_or L s with hm | ⟨j, hj⟩
          · go_wp2_with (first
              | (have _h := t5; go_at_call 19; refine (hId.out _ _ _ (D0.out.below S21.out.1)).mono ?_; rintro e w22 ⟨rfl, hb22⟩; have S22 := hid (S21.out.below hb22); clear hb22)
              | (have _h := t4; go_at_call 19; refine (hId.out _ _ _ S20.out.2.1).mono ?_; rintro e w21 ⟨rfl, hb21⟩; have S21 := hid (S20.out.below hb21); clear hb21; have t5 : True := trivial)
              | (have _h := t4; go_at_call 27; refine (sameTexts_same R19.out (H0.out.below S19.out.1).1 hLn.out).mono ?_; rintro e w20 ⟨rfl, hb20⟩; have S20 := hid (S19.out.below hb20); clear hb20)
              | (have _h := t4; go_at_call 21; refine (all_any S18.out.2.1 hLn.out).mono ?_; rintro e w19 ⟨v19, rfl, ho19, hb19⟩; have S19 := hid (S18.out.below hb19); have R19 := hid (ownsRow_reads ho19); clear hb19 ho19)
              | (have _h := t3; go_at_call 27; refine (sameTexts_same R17.out (H0.out.below S17.out.1).1 hLn.out).mono ?_; rintro e w18 ⟨rfl, hb18⟩; have S18 := hid (S17.out.below hb18); clear hb18; have t4 : True := trivial)
              | (have _h := t3; go_at_call 21; refine (all_any (D0.out.below S16.out.1) hLn.out).mono ?_; rintro e w17 ⟨v17, rfl, ho17, hb17⟩; have S17 := hid (S16.out.below hb17); have R17 := hid (ownsRow_reads ho17); clear hb17 ho17)
              | (have _h := t3; go_at_call 20; refine (len_dict (D0.out.below S16.out.1)).mono ?_; rintro e _ ⟨rfl, rfl⟩; rw [HN.out])
              | (have _h := t3; go_at_call 26; refine (hFn.out _).mono ?_; rintro e _ ⟨rfl, rfl⟩)
              | (have _h := t3; go_at_call 19; refine (hId.out _ _ _ (D0.out.below S15.out.1)).mono ?_; rintro e w16 ⟨rfl, hb16⟩; have S16 := hid (S15.out.below hb16); clear hb16)
              | (have _h := t3; go_at_call 25; refine (hRB.out _ _ (H0.out.below S14.out.1).1).mono ?_; rintro e w15 ⟨rfl, hb15⟩; have S15 := hid (S14.out.below hb15); clear hb15)
              | (go_at_call 28; refine (S22.out.apart).mono ?_; rintro e w23 ⟨rfl, hb23⟩; have hw23 := hid (below_more hw0.out (S22.out.1.trans hb23)); clear hb23)
              | (have _h := t1; go_at_call 24; refine (hLd.out _).mono ?_; rintro e w14 ⟨q, rfl, hd14, hb14⟩; have S14 := hid (St.made K13.out fr13.out hLn2.out hd14 hb14); clear hd14 hb14; have t3 : True := trivial)
              | (have _h := t1; go_at_call 23; refine (texts_any K12.out (by decide) O12.out hL5.out hf12.out hs12.out).mono ?_; rintro e w13 ⟨rfl, ⟨u4, u5, V4, hk13⟩, hb13⟩; have K13 := hid hk13; have fr13 := hid (fr12.out.trans hb13); clear hk13 hb13)
              | (have _h := t1; go_at_call 21; refine (all_any (D0.out.below fr11.out) hLn.out).mono ?_; rintro e w12 ⟨v12, rfl, ho12, hb12⟩; have K12 := hid (K11.out.below hb12); have O12 := hid (ownsRow_lower ho12 fr11.out.size); have hf12 := hid (fresh_off ho12 K11.out.lists); have fr12 := hid (below_more fr11.out hb12); have hs12 := hid (Nat.le_trans fr11.out.size hb12.size); clear ho12 hb12)
              | (go_at_call 23; refine (texts_any K10.out (by decide) O10.out hL5.out (fun j hj => by omega) hs10.out).mono ?_; rintro e w11 ⟨rfl, ⟨u2, u3, V3, hk11⟩, hb11⟩; have K11 := hid hk11; have fr11 := hid (fr10.out.trans hb11); clear hk11 hb11; have t1 : True := trivial)
              | (go_at_call 21; refine (all_any (D8.out.below (Below.alloc (Below.refl _ _) (Nat.le_refl _) _)) hLn.out).mono ?_; rintro e w10 ⟨v10, rfl, ho10, hb10⟩; have K10 := hid ((book_new w9).below hb10); have O10 := hid (ownsRow_lower ho10 (alloc_size w9 _)); have fr10 := hid (below_more (Below.alloc (Below.refl w9.heap.size w9) (Nat.le_refl _) (.cells #[.slice none 0 0, .slice none 0 0, .slice none 0 0, .slice none 0 0, .slice none 0 0, .slice none 0 0, .slice none 0 0, .slice none 0 0, .slice none 0 0, .slice none 0 0] 53)) hb10); have hs10 := hid fr10.out.size; have D0 := D8; have hw0 := hw8; have H0 := hid (H.out.below hw8.out); clear ho10 hb10)
              | (go_at_call 18; refine (hBy.out _ _ _ hD.out).mono ?_; rintro e w8 ⟨rfl, hb8⟩; have hw8 := hid (below_more hbl.out hb8); have D8 := hid (hD.out.below hb8); have hcK8 := keeps hb8 _ _ hcK; clear hb8)
              | (go_at_call 16; refine (hat.out _ _ _ D8.out).mono ?_; rintro e w9 ⟨rfl, rfl⟩)
              | (go_at_call 17; refine (find_out D8.out hLn.out hm).mono ?_; rintro e w9 ⟨rfl, rfl⟩)
              | (go_at_call 22; refine (refFind_out (H.out.below hw8.out).1 hLn.out hm).mono ?_; rintro e w9 ⟨rfl, rfl⟩))
            go_ret
            exact ⟨rfl, hw23.out⟩
          · have hjn : j < i := by obtain ⟨h, _⟩ := hj; rw [← HN.out]; exact h
            go_wp2_with (first
              | (have _h := t5; go_at_call 19; refine (hId.out _ _ _ (D0.out.below S21.out.1)).mono ?_; rintro e w22 ⟨rfl, hb22⟩; have S22 := hid (S21.out.below hb22); clear hb22)
              | (have _h := t4; go_at_call 19; refine (hId.out _ _ _ S20.out.2.1).mono ?_; rintro e w21 ⟨rfl, hb21⟩; have S21 := hid (S20.out.below hb21); clear hb21; have t5 : True := trivial)
              | (have _h := t4; go_at_call 27; refine (sameTexts_same R19.out (H0.out.below S19.out.1).1 hLn.out).mono ?_; rintro e w20 ⟨rfl, hb20⟩; have S20 := hid (S19.out.below hb20); clear hb20)
              | (have _h := t4; go_at_call 21; refine (all_any S18.out.2.1 hLn.out).mono ?_; rintro e w19 ⟨v19, rfl, ho19, hb19⟩; have S19 := hid (S18.out.below hb19); have R19 := hid (ownsRow_reads ho19); clear hb19 ho19)
              | (have _h := t3; go_at_call 27; refine (sameTexts_same R17.out (H0.out.below S17.out.1).1 hLn.out).mono ?_; rintro e w18 ⟨rfl, hb18⟩; have S18 := hid (S17.out.below hb18); clear hb18; have t4 : True := trivial)
              | (have _h := t3; go_at_call 21; refine (all_any (D0.out.below S16.out.1) hLn.out).mono ?_; rintro e w17 ⟨v17, rfl, ho17, hb17⟩; have S17 := hid (S16.out.below hb17); have R17 := hid (ownsRow_reads ho17); clear hb17 ho17)
              | (have _h := t3; go_at_call 20; refine (len_dict (D0.out.below S16.out.1)).mono ?_; rintro e _ ⟨rfl, rfl⟩; rw [HN.out])
              | (have _h := t3; go_at_call 26; refine (hFn.out _).mono ?_; rintro e _ ⟨rfl, rfl⟩)
              | (have _h := t3; go_at_call 19; refine (hId.out _ _ _ (D0.out.below S15.out.1)).mono ?_; rintro e w16 ⟨rfl, hb16⟩; have S16 := hid (S15.out.below hb16); clear hb16)
              | (have _h := t3; go_at_call 25; refine (hRB.out _ _ (H0.out.below S14.out.1).1).mono ?_; rintro e w15 ⟨rfl, hb15⟩; have S15 := hid (S14.out.below hb15); clear hb15)
              | (go_at_call 28; refine (S22.out.apart).mono ?_; rintro e w23 ⟨rfl, hb23⟩; have hw23 := hid (below_more hw0.out (S22.out.1.trans hb23)); clear hb23)
              | (have _h := t1; go_at_call 24; refine (hLd.out _).mono ?_; rintro e w14 ⟨q, rfl, hd14, hb14⟩; have S14 := hid (St.made K13.out fr13.out hLn2.out hd14 hb14); clear hd14 hb14; have t3 : True := trivial)
              | (have _h := t1; go_at_call 23; refine (texts_any K12.out (by decide) O12.out hL5.out hf12.out hs12.out).mono ?_; rintro e w13 ⟨rfl, ⟨u4, u5, V4, hk13⟩, hb13⟩; have K13 := hid hk13; have fr13 := hid (fr12.out.trans hb13); clear hk13 hb13)
              | (have _h := t1; go_at_call 21; refine (all_any (D0.out.below fr11.out) hLn.out).mono ?_; rintro e w12 ⟨v12, rfl, ho12, hb12⟩; have K12 := hid (K11.out.below hb12); have O12 := hid (ownsRow_lower ho12 fr11.out.size); have hf12 := hid (fresh_off ho12 K11.out.lists); have fr12 := hid (below_more fr11.out hb12); have hs12 := hid (Nat.le_trans fr11.out.size hb12.size); clear ho12 hb12)
              | (go_at_call 23; refine (texts_any K10.out (by decide) O10.out hL5.out (fun j hj => by omega) hs10.out).mono ?_; rintro e w11 ⟨rfl, ⟨u2, u3, V3, hk11⟩, hb11⟩; have K11 := hid hk11; have fr11 := hid (fr10.out.trans hb11); clear hk11 hb11; have t1 : True := trivial)
              | (go_at_call 21; refine (all_any (D8.out.below (Below.alloc (Below.refl _ _) (Nat.le_refl _) _)) hLn.out).mono ?_; rintro e w10 ⟨v10, rfl, ho10, hb10⟩; have K10 := hid ((book_new w9).below hb10); have O10 := hid (ownsRow_lower ho10 (alloc_size w9 _)); have fr10 := hid (below_more (Below.alloc (Below.refl w9.heap.size w9) (Nat.le_refl _) (.cells #[.slice none 0 0, .slice none 0 0, .slice none 0 0, .slice none 0 0, .slice none 0 0, .slice none 0 0, .slice none 0 0, .slice none 0 0, .slice none 0 0, .slice none 0 0] 53)) hb10); have hs10 := hid fr10.out.size; have D0 := D8; have hw0 := hw8; have H0 := hid (H.out.below hw8.out); clear ho10 hb10)
              | (go_at_call 18; refine (hBy.out _ _ _ hD.out).mono ?_; rintro e w8 ⟨rfl, hb8⟩; have hw8 := hid (below_more hbl.out hb8); have D8 := hid (hD.out.below hb8); have hcK8 := keeps hb8 _ _ hcK; clear hb8)
              | (go_at_call 16; refine (hat.out _ _ _ D8.out).mono ?_; rintro e w9 ⟨rfl, rfl⟩)
              | (go_at_call 17; refine (find_in D8.out hLn.out hj).mono ?_; rintro e w9 ⟨rfl, rfl⟩)
              | (go_at_call 22; refine (refFind_in (H.out.below hw8.out).1 hLn.out hj).mono ?_; rintro e w9 ⟨rfl, rfl⟩))
            go_ret
            exact ⟨rfl, hw23.out⟩

set_option maxRecDepth 20000 in
set_option maxHeartbeats 4000000 in
theorem tells_walk (v : Value) (L : List ByteArray) (k : Int) (s : ByteArray) (hs47 : s.size ≤ 140737488351232) (w : World) (h : ListIn w v L) :
    Calls Try.prog 3 #[v, .int .i64 k, .string s] w fun e w' => e = .returned (.bool true) ∧ Below w.heap.size w w' := by
  by_cases hf : FewL L
  · by_cases hs : s.size ≤ 100
    · rcases fine_or_bad L with hL | ⟨c, a0, hL⟩
      · exact tells_fine v L k s w h hf hs hL
      · exact tells_bad v L k s w h hf hs c a0 hL
    · have H := hid h
      have hd1 : fewB L = true := decide_eq_true hf
      clear h
      go_enter Try.func3, Try.ntmps3
      go_wp2_with (first
        | (go_at_call 9; refine (few_any H.out).mono ?_; rintro e w1 ⟨rfl, rfl⟩; rw [hd1])
        | (go_at_call 10; refine (alive_any _).mono ?_; rintro e w2 ⟨rfl, hb2⟩))
      go_ret
      exact ⟨rfl, hb2⟩
  · have H := hid h
    have hd1 : fewB L = false := decide_eq_false hf
    clear h
    go_enter Try.func3, Try.ntmps3
    go_wp2_with (first
      | (go_at_call 9; refine (few_any H.out).mono ?_; rintro e w1 ⟨rfl, rfl⟩; rw [hd1])
      | (go_at_call 10; refine (alive_any _).mono ?_; rintro e w2 ⟨rfl, hb2⟩))
    go_ret
    exact ⟨rfl, hb2⟩

set_option linter.unusedVariables false
theorem dictTells_own : ownKnob Try.prog.godebug = none := by kernel_rfl

theorem dictTells_laidOut : laidOutB Try.prog = true := by kernel_rfl

set_option maxRecDepth 100000 in
theorem dictTells_lifted (os : Os) (started : os.Started) (H : Type) (enc : TypeId × Value → H) :
    ReturnsInHanded {} Try.checked os 3 .any (Rows.dictTellsSpec.pre6 enc Try.prog Try.f3 Rows.dictTellsRow.domain false) (Rows.dictTellsSpec.post enc Try.prog Try.f3 false true false false) := by
  refine returnsInHanded_of_change_sized (C := Try.checked) dictTells_own started (by kernel_rfl) Try.func3
    (ChangeSpec.witness6 (enc := enc) (C := Try.checked) false ⟨#[], #[.slice none 0 0, .int .i64 0, .string ByteArray.empty], []⟩ 8 (by kernel_rfl) (by kernel_rfl) (by kernel_rfl) (by kernel_rfl)) ?_
  intro W base args ds gs before hval0 hW hcnd hsz0 _
  have hsz : (DataW.weightsEach Try.prog (Try.f3.params.toList ++ Rows.dictTellsSpec.plain.varTypes Try.prog) (ds ++ gs)).all (· ≤ reachBytes) = true := hsz0
  have hval : ∀ (j : Nat) t v, Try.f3.params[j]? = some t → args[j]? = some v → Value.okWide Try.prog W .any base t v := hval0
  have hW' := hW
  obtain ⟨p, q, hA0, hV, rfl, hfz, hnd⟩ := hW
  have hA : DataW.TrodAll enc Try.prog W 0 (fun _ => true) true Try.f3.params.toList args.toList ds p := hA0
  rw [Try.params3] at hA hval hsz
  obtain ⟨v0, vs0, d0, ds0, p0, q0, hargs, rfl, rfl, h0, r0⟩ := trodAll_cons hA
  obtain ⟨v1, vs1, d1, ds1, p1, q1, rfl, rfl, rfl, h1, r1⟩ := trodAll_cons r0
  obtain ⟨v2, vs2, d2, ds2, p2, q2, rfl, rfl, rfl, h2, r2⟩ := trodAll_cons r1
  obtain ⟨rfl, rfl, rfl⟩ := trodAll_nil r2
  obtain rfl : args = #[v0, v1, v2] := by cases args; simp_all
  obtain ⟨rfl, rfl⟩ := trodVars_none hV
  obtain ⟨a0, len0, cap0, rfl⟩ := okWide_slice Try.underlying22 (hval 0 22 v0 rfl rfl)
  have k0 := h0
  have lt0 : ∀ x ∈ p0, x.block < W.heap.size := by obtain ⟨m, hm⟩ := k0; exact DataW.trod_lt m _ _ _ hm
  obtain ⟨z0, w0⟩ := h0.elim (fun _ hf => open_list hf hsz 0 rfl rfl)
  obtain ⟨a1, rfl, rfl, rfl, w1⟩ := open_int Try.underlying3 (hval 1 3 v1 rfl rfl) h1
  obtain ⟨a2, rfl, rfl, rfl, w2⟩ := open_string Try.underlying9 (hval 2 9 v2 rfl rfl) h2
  clear hA0 hval0
  have s2 : a2.size ≤ 140737488351232 := by have h := sized_string hsz (j := 2) (t := 9) rfl rfl; rw [Array.length_toList] at h; exact h
  refine (tells_walk _ z0 a1 a2 s2 W w0).mono fun e W' ⟨he, bel⟩ => ?_
  subst he
  exact ⟨_, rfl, _, _, _, [], _, [], hW', trodAll_mk1 (shut_bool Try.underlying4 _), (trodAll_cons_mk (Below.trod dictTells_laidOut (by kernel_rfl) (of_decide_eq_true (by kernel_rfl)) k0 bel lt0) (trodAll_cons_mk (shut_int Try.underlying3 w1) (trodAll_cons_mk (shut_string Try.underlying9 w2) trodAll_mk0))), rfl, bel.frame _, fun h => by cases h⟩

/-- THE STATEMENT. -/
theorem dictTells_holds : Rows.DictTellsSaid :=
  OpenClaim.holds_of_wide 3 Try.f3 rfl rfl rfl rfl rfl rfl rfl ⟨rfl, rfl, rfl, rfl, rfl⟩ rfl rfl rfl rfl rfl (by kernel_rfl) Try.func3 (by kernel_rfl)
    (of_decide_eq_true (by kernel_rfl)) (by unfold Func.isWrapper; first | (rw [if_pos (by decide +kernel)]; kernel_rfl) | (rw [if_neg (by decide +kernel)]; exact ⟨rfl, rfl⟩))
    (fun os started H enc _ => dictTells_lifted os started H enc)
#print axioms dictTells_holds
end Go.Proofs.Ytbeahodgkdbidaa
