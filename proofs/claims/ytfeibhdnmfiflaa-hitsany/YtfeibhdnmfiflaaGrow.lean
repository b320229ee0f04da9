/-
  What lays a phrase into a tree of beginnings: grow, add.
-/
import Derived.Test.YtfeibhdnmfiflaaTrie2
import Derived.Test.YtfeibhdnmfiflaaInsertB
import Derived.Test.YtfeibhdnmfiflaaInsertI
namespace Go.Proofs.Ytfeibhdnmfiflaa
open Go.ChangeShapes Go.WideShapes Go.ChangeAt Go.RowKit

theorem byte_at (b : ByteArray) (i : Nat) (h : i < b.size) (w : World) : (Instr.index 9 (.string b) (.int .i64 (i : Int))).run Try.prog w = .ok (.int .u8 ((b[i]'h).toNat : Int)) w := by
  rw [run_index_string w 9 b .i64 _ Try.underlying9, dif_pos ⟨by omega, by omega⟩]
  rfl

/-- The last byte of a beginning. -/
theorem last_byte (x : List Nat) (c : Nat) (hc : c < 256) (w : World) : (Instr.index 9 (.string (bytesOf (x ++ [c]))) (.int .i64 (x.length : Int))).run Try.prog w = .ok (.int .u8 (c : Int)) w := by
  have hs : x.length < (bytesOf (x ++ [c])).size := by rw [bytesOf_size]; simp
  rw [byte_at _ _ hs]
  have : ((bytesOf (x ++ [c]))[x.length]'hs).toNat = c := by
    simp [bytesOf, ByteArray.getElem_eq_getElem_data, Nat.mod_eq_of_lt hc]
  rw [this]

set_option maxRecDepth 20000 in
set_option maxHeartbeats 2000000 in
/-- A son that is there. -/
theorem grow_old {w : World} {B p : Nat} {A : List (List Nat)} {wd : List Nat → Int} (h : TrieAt w B p A wd) (j : Nat) (hj : j < A.length) (c : Nat) (hc : c < 256) (hm : (A[j]'hj) ++ [c] ∈ A) :
    Calls Try.prog 56 #[.pointer (some ⟨p, 0, none⟩), .int .i64 (j : Int), .string (bytesOf ((A[j]'hj) ++ [c]))] w fun e w' => e = .returned (.int .i64 ((A.idxOf ((A[j]'hj) ++ [c]) : Nat) : Int)) ∧ ∃ q, w' = w.drewN q := by
  obtain ⟨vn, xs, vb, vs, hi⟩ := h.is
  obtain ⟨g, cap, rfl⟩ := hi.form h.nodes.pos
  have c0 := hi.told
  obtain ⟨c1, c2, c3, c4⟩ := hi.cell j hj
  have HB := hid (hi.readB j hj)
  obtain ⟨ao, cs, e4, hs4⟩ := hi.readS j hj
  rw [numsI_length] at e4 hs4
  have HR := hid (byOf_rising A (A[j]'hj))
  have hbl := byOf_length A (A[j]'hj)
  have hcon := byOf_contains A (A[j]'hj) c hc
  rw [decide_eq_true hm] at hcon
  have hat := sonsOf_at A (A[j]'hj) c hc hm
  have hkl := (List.getElem?_eq_some_iff.1 hat).1
  rw [sonsOf_length] at e4 hs4 hkl
  obtain ⟨k, hk⟩ : ∃ k, k = (byOf A (A[j]'hj)).countP (· < c) := ⟨_, rfl⟩
  rw [← hk] at hat hkl
  obtain ⟨n, hn⟩ : ∃ n, n = (byOf A (A[j]'hj)).length := ⟨_, rfl⟩
  rw [← hn] at e4 hs4 hkl hbl
  rw [e4] at c4
  rcases hs4 with h0 | ⟨gb, o, rfl, hgb, hcell⟩
  · omega
  have c5 : w.cell? ⟨gb, o + k, none⟩ = some (.int .i64 ((A.idxOf ((A[j]'hj) ++ [c]) : Nat) : Int)) := by
    rw [hcell k hkl, numsI, List.getElem?_map, hat]
    rfl
  have H := hid h
  have HC := hid hcon
  have HK := hid hk
  have hx : decide ((0 : Int) ≤ (j : Int) ∧ (j : Int) < (A.length : Int)) = true := decide_eq_true ⟨by omega, by omega⟩
  have hx2 : decide ((0 : Int) ≤ (k : Int) ∧ (k : Int) < (n : Int)) = true := decide_eq_true ⟨by omega, by omega⟩
  have HL : Hid ((byOf A (A[j]'hj)).length ≤ 1000000) := Nat.le_trans (byOf_length A _) (by decide)
  have HN := hid hn
  have hlb := last_byte (A[j]'hj) c hc
  have hsz : (bytesOf ((A[j]'hj) ++ [c])).size = (A[j]'hj).length + 1 := by rw [bytesOf_size]; simp
  have hsh := h.short _ (List.getElem_mem hj)
  clear hat hcon hcell hi hk h e4 hn hbl
  generalize A.idxOf ((A[j]'hj) ++ [c]) = m at c5
  generalize bytesOf ((A[j]'hj) ++ [c]) = s at hlb hsz
  generalize (A[j]'hj).length = l at hlb hsz hsh
  have hw : (s.size : Int) - 1 = (l : Int) := by omega
  go_enter Try.func56, Try.ntmps56
  go_wp2_with (go_at_call 67; refine (search_any HB.out HR.out HL.out c).mono ?_; rintro e w1 ⟨rfl, q, rfl⟩; rw [HC.out, ← HK.out])
  go_ret
  exact ⟨rfl, _, rfl⟩

theorem Try.infoNode : (Try.prog.info? 82).map (fun i => (i.zero, i.size, i.bytes)) = some (some (.agg #[.string ⟨#[]⟩, .int .i64 0, .slice none 0 0, .slice none 0 0]), 4, 72) := by kernel_rfl

theorem octs_insert (l : List Nat) (k c : Nat) : (octs l).take k ++ Value.int .u8 (c : Int) :: (octs l).drop k = octs (l.take k ++ c :: l.drop k) := by simp [octs]
theorem numsI_insert (l : List Nat) (k c : Nat) : (numsI l).take k ++ Value.int .i64 (c : Int) :: (numsI l).drop k = numsI (l.take k ++ c :: l.drop k) := by simp [numsI]
theorem insert_length (l : List Nat) (k c : Nat) : (l.take k ++ c :: l.drop k).length = l.length + 1 := by simp; omega
theorem numI_one (xs : List Nat) : ∀ u ∈ numsI xs, u.oneCell' = true := numsI_one xs

theorem getD_node (A : List (List Nat)) {j : Nat} (hj : j < A.length) : A.getD j [] = A[j]'hj := by simp [List.getD, hj]

/-- The new node's cells. -/
def newCells (s : ByteArray) : List Value := [.string s, .int .i64 (-1), .slice none 0 0, .slice none 0 0]

theorem Trows.is {w : World} {B p n : Nat} {vn : Value} {xs : List Value} {vb vs : Nat → Value} {bl sl : Nat → List Nat} (h : Trows w B p n vn xs vb vs bl sl) {A : List (List Nat)} {wd : List Nat → Int} (hn : A.length = n)
    (ht : ∀ j x, A[j]? = some x → xs[j * 4]? = some (.string (bytesOf x))) (hw : ∀ j x, A[j]? = some x → xs[j * 4 + 1]? = some (.int .i64 (wd x))) (hb : ∀ j x, A[j]? = some x → bl j = byOf A x) (hs : ∀ j x, A[j]? = some x → sl j = sonsOf A x) : TrieIs w B p A wd vn xs vb vs := by
  subst hn
  have lt : ∀ j x, A[j]? = some x → j < A.length := fun j x hx => (List.getElem?_eq_some_iff.1 hx).1
  exact { ptr := h.ptr, low := h.low, row := h.row, text := ht, word := hw, by_ := h.by_, sons_ := h.sons_, bys := fun j x hx => by rw [← hb j x hx]; exact h.bys j (lt j x hx), sns := fun j x hx => by rw [← hs j x hx]; exact h.sns j (lt j x hx), apartB := h.apartB, apartS := h.apartS }

/-- The rows after a new son are those of the new beginnings. -/
theorem grown_is {w w9 : World} {B p g cap g2 cap2 : Nat} {A : List (List Nat)} {wd : List Nat → Int} {xs : List Value} {vb vs : Nat → Value} (hA : Nodes A) (HI : TrieIs w B p A wd (.slice (some ⟨g, 0, none⟩) A.length cap) xs vb vs) {j : Nat} (hj : j < A.length) {c k : Nat} (hc : c < 256) (hm : (A[j]'hj) ++ [c] ∉ A) (hwd : wd ((A[j]'hj) ++ [c]) = -1) (hk : k = (byOf A (A[j]'hj)).countP (· < c)) {s : ByteArray} (hs : s = bytesOf ((A[j]'hj) ++ [c])) {v6 v8 : Value}
    (h : Trows w9 B p (A.length + 1) (.slice (some ⟨g2, 0, none⟩) (A.length + 1) cap2) (((xs ++ newCells s).set (j * 4 + 2) v6).set (j * 4 + 3) v8) (upd (upd vb A.length (.slice none 0 0)) j v6) (upd (upd vs A.length (.slice none 0 0)) j v8)
      (upd (upd (fun j => byOf A (A.getD j [])) A.length []) j ((byOf A (A.getD j [])).take k ++ c :: (byOf A (A.getD j [])).drop k)) (upd (upd (fun j => sonsOf A (A.getD j [])) A.length []) j ((sonsOf A (A.getD j [])).take k ++ A.length :: (sonsOf A (A.getD j [])).drop k))) :
    TrieIs w9 B p (A ++ [(A[j]'hj) ++ [c]]) wd (.slice (some ⟨g2, 0, none⟩) (A.length + 1) cap2) (((xs ++ newCells s).set (j * 4 + 2) v6).set (j * 4 + 3) v8) (upd (upd vb A.length (.slice none 0 0)) j v6) (upd (upd vs A.length (.slice none 0 0)) j v8) := by
  have hxl : xs.length = A.length * 4 := HI.row.1
  have hgd := getD_node A hj
  have hjn : j ≠ A.length := by omega
  have cases : ∀ i x, (A ++ [(A[j]'hj) ++ [c]])[i]? = some x → (A[i]? = some x ∧ i < A.length) ∨ (i = A.length ∧ x = (A[j]'hj) ++ [c]) := by
    intro i x hx
    rcases Nat.lt_or_ge i A.length with hi | hi
    · rw [List.getElem?_append_left hi] at hx
      exact .inl ⟨hx, hi⟩
    · rw [List.getElem?_append_right hi] at hx
      have : i = A.length := by
        have := (List.getElem?_eq_some_iff.1 hx).1
        simp at this
        omega
      subst this
      simp at hx
      exact .inr ⟨rfl, hx.symm⟩
  have other : ∀ i x, A[i]? = some x → i ≠ j → x ≠ A[j]'hj := by
    intro i x hx hij e
    obtain ⟨hi, ex⟩ := List.getElem?_eq_some_iff.1 hx
    have h1 := hA.once
    unfold List.Nodup at h1
    rw [List.pairwise_iff_getElem] at h1
    rcases Nat.lt_or_gt_of_ne hij with hl | hl
    · exact h1 i j hi hj hl (ex.trans e)
    · exact h1 j i hj hi hl (ex.trans e).symm
  refine h.is (by simp) ?_ ?_ ?_ ?_
  · intro i x hx
    rw [List.getElem?_set_ne (by omega), List.getElem?_set_ne (by omega)]
    rcases cases i x hx with ⟨h1, h2⟩ | ⟨rfl, rfl⟩
    · rw [List.getElem?_append_left (by omega)]
      exact HI.text i x h1
    · rw [List.getElem?_append_right (by omega), show A.length * 4 - xs.length = 0 by omega, ← hs]
      rfl
  · intro i x hx
    rw [List.getElem?_set_ne (by omega), List.getElem?_set_ne (by omega)]
    rcases cases i x hx with ⟨h1, h2⟩ | ⟨rfl, rfl⟩
    · rw [List.getElem?_append_left (by omega)]
      exact HI.word i x h1
    · rw [List.getElem?_append_right (by omega), show A.length * 4 + 1 - xs.length = 1 by omega, hwd]
      rfl
  · intro i x hx
    rcases cases i x hx with ⟨h1, h2⟩ | ⟨rfl, rfl⟩
    · by_cases e : i = j
      · subst e
        have ex : x = A[i]'hj := by rw [List.getElem?_eq_getElem hj] at h1; injection h1 with h1; exact h1.symm
        subst ex
        rw [upd_same, byOf_new A _ c hc hm, hgd, hk]
      · rw [upd_other _ _ e, upd_other _ _ (by omega), byOf_other A _ x c (other i x h1 e)]
        show byOf A (A.getD i []) = _
        rw [getD_node A h2]
        rw [List.getElem?_eq_getElem h2] at h1
        injection h1 with h1
        rw [h1]
    · rw [upd_other _ _ (Ne.symm hjn), upd_same, byOf_fresh hA hm]
  · intro i x hx
    rcases cases i x hx with ⟨h1, h2⟩ | ⟨rfl, rfl⟩
    · by_cases e : i = j
      · subst e
        have ex : x = A[i]'hj := by rw [List.getElem?_eq_getElem hj] at h1; injection h1 with h1; exact h1.symm
        subst ex
        rw [upd_same, sonsOf_new A _ c hc hm, hgd, hk]
      · rw [upd_other _ _ e, upd_other _ _ (by omega), sonsOf_other A _ x c (other i x h1 e)]
        show sonsOf A (A.getD i []) = _
        rw [getD_node A h2]
        rw [List.getElem?_eq_getElem h2] at h1
        injection h1 with h1
        rw [h1]
    · rw [upd_other _ _ (Ne.symm hjn), upd_same, sonsOf, byOf_fresh hA hm]
      rfl

theorem trieAt_more {w w9 : World} {B p : Nat} {A : List (List Nat)} {wd : List Nat → Int} (h : TrieAt w B p A wd) {j : Nat} (hj : j < A.length) {c : Nat} (hc : c < 256) (hm : (A[j]'hj) ++ [c] ∉ A) (hn : A.length < 1000000) (hsh : (A[j]'hj).length < 1000000)
    (hi : ∃ vn xs vb vs, TrieIs w9 B p (A ++ [(A[j]'hj) ++ [c]]) wd vn xs vb vs) : TrieAt w9 B p (A ++ [(A[j]'hj) ++ [c]]) wd := by
  refine ⟨h.nodes.add hm (List.getElem_mem hj) (fun _ => by rw [List.dropLast_concat]), ?_, by simp; omega, ?_, hi⟩
  · intro x hx y hy
    rcases List.mem_append.1 hx with h1 | h1
    · exact h.bytes x h1 y hy
    · rw [List.mem_singleton.1 h1] at hy
      rcases List.mem_append.1 hy with h2 | h2
      · exact h.bytes _ (List.getElem_mem hj) y h2
      · rw [List.mem_singleton.1 h2]; exact hc
  · intro x hx
    rcases List.mem_append.1 hx with h1 | h1
    · exact h.short x h1
    · rw [List.mem_singleton.1 h1, List.length_append, List.length_singleton]; omega

set_option maxRecDepth 20000 in
set_option maxHeartbeats 2000000 in
/-- A new son. -/
theorem grow_new {w : World} {B p : Nat} {A : List (List Nat)} {wd : List Nat → Int} (h : TrieAt w B p A wd) (j : Nat) (hj : j < A.length) (c : Nat) (hc : c < 256) (hm : (A[j]'hj) ++ [c] ∉ A) (hB : B ≤ w.heap.size) (hn : A.length < 1000000) (hsh : (A[j]'hj).length < 1000000) (hwd : wd ((A[j]'hj) ++ [c]) = -1) :
    Calls Try.prog 56 #[.pointer (some ⟨p, 0, none⟩), .int .i64 (j : Int), .string (bytesOf ((A[j]'hj) ++ [c]))] w fun e w' => e = .returned (.int .i64 (A.length : Int)) ∧ TrieAt w' B p (A ++ [(A[j]'hj) ++ [c]]) wd ∧ Grew B w w' := by
  obtain ⟨i0, hi0, hz0, hz1, hz2⟩ := info_parts Try.infoNode
  obtain ⟨vn, xs, vb, vs, hi⟩ := h.is
  obtain ⟨g, cap, rfl⟩ := hi.form h.nodes.pos
  have c0 := hi.told
  obtain ⟨c1, c2, c3, c4⟩ := hi.cell j hj
  have f0 : w.frozen? ⟨p, 0, none⟩ = false := by simp [World.frozen?, hi.ptr]
  have HB := hid (hi.readB j hj)
  have HR := hid (byOf_rising A (A[j]'hj))
  have hcon := byOf_contains A (A[j]'hj) c hc
  rw [decide_eq_false hm] at hcon
  obtain ⟨k, hk⟩ : ∃ k, k = (byOf A (A[j]'hj)).countP (· < c) := ⟨_, rfl⟩
  have H := hid h
  have HI := hid hi
  have HC := hid hcon
  have HK := hid hk
  have hx : decide ((0 : Int) ≤ (j : Int) ∧ (j : Int) < (A.length : Int)) = true := decide_eq_true ⟨by omega, by omega⟩
  have HL : Hid ((byOf A (A[j]'hj)).length ≤ 1000000) := Nat.le_trans (byOf_length A _) (by decide)
  have hlb := last_byte (A[j]'hj) c hc
  have hsz : (bytesOf ((A[j]'hj) ++ [c])).size = (A[j]'hj).length + 1 := by rw [bytesOf_size]; simp
  clear hcon hk hi h
  obtain ⟨s, hs⟩ : ∃ s, s = bytesOf ((A[j]'hj) ++ [c]) := ⟨_, rfl⟩
  obtain ⟨l, hl⟩ : ∃ l, l = (A[j]'hj).length := ⟨_, rfl⟩
  rw [← hs, ← hl] at hlb
  rw [← hs, ← hl] at hsz
  rw [← hl] at hsh
  rw [← hs]
  have HS := hid hs
  have HLL := hid hl
  clear hs hl
  have hw : (s.size : Int) - 1 = (l : Int) := by omega
  have HR0 := hid (HI.out.rows)
  have hkl : Hid (k ≤ (byOf A (A.getD j [])).length) := by rw [getD_node A hj, HK.out]; exact countP_le _ _
  have hll : Hid ((byOf A (A.getD j [])).length ≤ 1000000) := by rw [getD_node A hj]; exact HL.out
  have hks : Hid (k ≤ (sonsOf A (A.getD j [])).length) := by rw [getD_node A hj, sonsOf_length, HK.out]; exact countP_le _ _
  have hls : Hid ((sonsOf A (A.getD j [])).length ≤ 1000000) := by rw [getD_node A hj, sonsOf_length]; exact HL.out
  have hjn : j ≠ A.length := by omega
  have hx2 : decide ((0 : Int) ≤ (j : Int) ∧ (j : Int) < (A.length : Int) + 1) = true := decide_eq_true ⟨by omega, by omega⟩
  go_enter Try.func56, Try.ntmps56
  go_wp2_with (first
    | (go_at_call 67; refine (search_any HB.out HR.out HL.out c).mono ?_; rintro e w1 ⟨rfl, q, rfl⟩; rw [HC.out, ← HK.out])
    | (at_builtin; refine wpList_append_keeps _ rfl _ _ 83 rfl B 82 i0 _ 4 72 Try.underlying83 hi0 hz0 hz1 hz2 rfl (by decide) (.slice (some ⟨g, 0, none⟩) A.length cap) A.length xs rfl (ownsRow_below HI.out.row ((drewN_below w q _).alloc (Nat.le_refl _) _)) ⟨(w.drewN q).heap.size, 0, none⟩ 1 1 (newCells s) rfl rfl (World.news_of_block (heap_alloc_new (w.drewN q) _)) (by intro u hu; simp [newCells] at hu; rcases hu with rfl | rfl | rfl <;> rfl) (by decide) (by unfold maxLen; omega) (by omega) (Nat.le_trans hB ((drewN_below w q w.heap.size).alloc (Nat.le_refl _) _).size) ?_
       intro g2 cap2 w4 hown4 hgrow4 hat4 hlt4 hold4
       obtain ⟨T5, c5, f5, G5⟩ := (HR0.out.below ((drewN_below w q _).alloc (Nat.le_refl _) _)).grown rfl rfl hown4 hgrow4 hat4 (Nat.le_trans hB ((drewN_below w q w.heap.size).alloc (Nat.le_refl _) _).size)
       have c6 := T5.told
       have c7 := World.ownsRow.cellAt T5.row (j * 4 + 2) (by omega)
       have e7 := T5.by_ j (by omega)
       rw [e7, upd_other _ _ hjn] at c7
       have HT5 := hid T5
       have HG5 := hid G5
       have sz5 : (w4.setCell ⟨p, 0, none⟩ (.slice (some ⟨g2, 0, none⟩) (A.length + 1) cap2)).heap.size = w4.heap.size := by simp [World.setCell]
       have bb5 := (Below.refl (w4.setCell ⟨p, 0, none⟩ (.slice (some ⟨g2, 0, none⟩) (A.length + 1) cap2)).heap.size (w4.setCell ⟨p, 0, none⟩ (.slice (some ⟨g2, 0, none⟩) (A.length + 1) cap2))).alloc (Nat.le_refl _) (.cells #[.int .u8 (c : Int)] 5)
       have hB5 := Nat.le_trans hB (Nat.le_trans ((drewN_below w q w.heap.size).alloc (Nat.le_refl _) _).size (Nat.le_trans G5.below.size bb5.size))
       have TA5 := T5.below bb5
       have o5 := TA5.bys j (by omega)
       rw [upd_other _ _ hjn, upd_other _ _ hjn] at o5
       have hvb5 := heap_alloc_new (w4.setCell ⟨p, 0, none⟩ (.slice (some ⟨g2, 0, none⟩) (A.length + 1) cap2)) (.cells #[.int .u8 (c : Int)] 5)
       rw [sz5] at hvb5
       have hne5 : (vb j).ownBlock ≠ some w4.heap.size := fun e => by
         have e1 := T5.bys j (by omega)
         rw [upd_other _ _ hjn] at e1
         have := (e1.lt _ e).2
         rw [sz5] at this
         omega
       have HTA5 := hid TA5
       have HO5 := hid o5
       have HV5 := hid hvb5
       have HN5 := hid hne5
       clear T5 G5 hown4 hgrow4 hold4 e7 bb5 TA5 o5 hvb5 hne5)
    | (go_at_call 68
       refine (insertB_any HO5.out (oct_one _) hkl.out hll.out rfl HV5.out HN5.out hB5).mono ?_
       rintro e w6 ⟨v6, rfl, hown6, hgrow6, hat6⟩
       obtain ⟨ao6, nn6, cap6, e6v⟩ : ∃ ao nn cap, v6 = .slice ao nn cap := by obtain ⟨a, b, e⟩ := ownsRow_slice hown6; exact ⟨a, _, b, e⟩
       subst e6v
       rw [octs_insert, ← insert_length _ k c] at hown6
       have hgrow6b := hgrow6
       have hat6b := hat6
       rw [← upd_other vb (Value.slice none 0 0) hjn] at hgrow6b hat6b
       obtain ⟨T7, c8, f8, G7⟩ := HTA5.out.moreB (j := j) (by omega) hown6 hgrow6b hat6b hB5
       have c9 := World.ownsRow.cellAt T7.row (j * 4 + 3) (by omega)
       have e9 := T7.sons_ j (by omega)
       rw [e9, upd_other _ _ hjn] at c9
       have sz7 : (w6.setCell ⟨g2, j * 4 + 2, none⟩ (.slice ao6 nn6 cap6)).heap.size = w6.heap.size := by simp [World.setCell]
       have bb7 := (Below.refl (w6.setCell ⟨g2, j * 4 + 2, none⟩ (.slice ao6 nn6 cap6)).heap.size (w6.setCell ⟨g2, j * 4 + 2, none⟩ (.slice ao6 nn6 cap6))).alloc (Nat.le_refl _) (.cells #[.int .i64 (A.length : Int)] 3)
       have hB7 := Nat.le_trans hB5 (Nat.le_trans G7.below.size bb7.size)
       have TA7 := T7.below bb7
       have o7 := TA7.sns j (by omega)
       rw [upd_other _ _ hjn, upd_other _ _ hjn] at o7
       have hvb7 := heap_alloc_new (w6.setCell ⟨g2, j * 4 + 2, none⟩ (.slice ao6 nn6 cap6)) (.cells #[.int .i64 (A.length : Int)] 3)
       rw [sz7] at hvb7
       have hne7 : (vs j).ownBlock ≠ some w6.heap.size := fun e => by
         have e1 := T7.sns j (by omega)
         rw [upd_other _ _ hjn] at e1
         have := (e1.lt _ e).2
         rw [sz7] at this
         omega
       have HTA7 := hid TA7
       have HO7 := hid o7
       have HV7 := hid hvb7
       have HN7 := hid hne7
       have HG7 := hid G7
       clear T7 G7 hown6 hgrow6 hgrow6b hat6b hat6 e9 bb7 TA7 o7 hvb7 hne7)
    | (go_at_call 69
       refine (insertI_any HO7.out (numsI_one _) hks.out hls.out rfl HV7.out HN7.out hB7).mono ?_
       rintro e w8 ⟨v8, rfl, hown8, hgrow8, hat8⟩
       obtain ⟨ao8, nn8, cap8, e8v⟩ : ∃ ao nn cap, v8 = .slice ao nn cap := by obtain ⟨a, b, e⟩ := ownsRow_slice hown8; exact ⟨a, _, b, e⟩
       subst e8v
       rw [numsI_insert, ← insert_length _ k A.length] at hown8
       have hgrow8b := hgrow8
       have hat8b := hat8
       rw [← upd_other vs (Value.slice none 0 0) hjn] at hgrow8b hat8b
       obtain ⟨T9, c10, f10, G9⟩ := HTA7.out.moreS (j := j) (by omega) hown8 hgrow8b hat8b hB7
       have HT9 := hid T9
       have HG9 := hid G9
       clear T9 G9 hown8 hgrow8 hgrow8b hat8b hat8))
  go_ret
  refine ⟨rfl, trieAt_more H.out hj hc hm hn (by rw [← HLL.out]; exact hsh) ⟨_, _, _, _, grown_is H.out.nodes HI.out hj hc hm hwd HK.out HS.out HT9.out⟩, ?_⟩
  have q1 : Grew B w ((w.drewN q).alloc (.cells (newCells s).toArray 82)) := grew_below ((drewN_below w q w.heap.size).alloc (Nat.le_refl _) _) hB
  have q2 := q1.trans HG5.out
  have q3 := q2.trans (grew_below ((Below.refl _ _).alloc (Nat.le_refl _) (.cells #[.int .u8 (c : Int)] 5)) (Nat.le_trans hB q2.below.size))
  have q4 := q3.trans HG7.out
  have q5 := q4.trans (grew_below ((Below.refl _ _).alloc (Nat.le_refl _) (.cells #[.int .i64 (A.length : Int)] 3)) (Nat.le_trans hB q4.below.size))
  exact q5.trans HG9.out
end Go.Proofs.Ytfeibhdnmfiflaa
