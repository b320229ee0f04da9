/-
  A phrase laid into a tree of beginnings; the tree of a dictionary: add, New.
-/
import Derived.Test.YtfeibhdnmfiflaaGrow
import Derived.Test.YtfeibhdnmfiflaaHelps
namespace Go.Proofs.Ytfeibhdnmfiflaa
open Go.ChangeShapes Go.WideShapes Go.ChangeAt Go.RowKit

theorem begin_text (s : ByteArray) (k : Nat) : s.extract 0 k = bytesOf ((nums s).take k) := by
  apply nums_inj
  rw [nums_extract, nums_bytesOf _ (fun z hz => nums_byte s z (List.mem_of_mem_take hz))]
  simp

/-- One beginning more, if it is not there yet. -/
def addOne (A : List (List Nat)) (y : List Nat) : List (List Nat) := if y ∈ A then A else A ++ [y]
theorem addUpto_succ (A : List (List Nat)) (s : List Nat) (k : Nat) : addUpto A s (k + 1) = addOne (addUpto A s k) (s.take (k + 1)) := rfl

theorem grow_any {w : World} {B p : Nat} {A : List (List Nat)} {wd : List Nat → Int} (h : TrieAt w B p A wd) (j : Nat) (hj : j < A.length) (c : Nat) (hc : c < 256) (hB : B ≤ w.heap.size) (hn : A.length < 1000000) (hsh : (A[j]'hj).length < 1000000) (hwd : (A[j]'hj) ++ [c] ∉ A → wd ((A[j]'hj) ++ [c]) = -1) :
    Calls Try.prog 56 #[.pointer (some ⟨p, 0, none⟩), .int .i64 (j : Int), .string (bytesOf ((A[j]'hj) ++ [c]))] w fun e w' => ∃ m : Nat, e = .returned (.int .i64 (m : Int)) ∧ TrieAt w' B p (addOne A ((A[j]'hj) ++ [c])) wd ∧ (addOne A ((A[j]'hj) ++ [c]))[m]? = some ((A[j]'hj) ++ [c]) ∧ Grew B w w' := by
  by_cases hm : (A[j]'hj) ++ [c] ∈ A
  · refine (grow_old h j hj c hc hm).mono ?_
    rintro e w' ⟨rfl, q, rfl⟩
    refine ⟨_, rfl, ?_, ?_, grew_below (drewN_below w q _) hB⟩
    · rw [addOne, if_pos hm]; exact h.drewN q
    · rw [addOne, if_pos hm, List.getElem?_eq_getElem (List.idxOf_lt_length_of_mem hm), List.getElem_idxOf]
  · refine (grow_new h j hj c hc hm hB hn hsh (hwd hm)).mono ?_
    rintro e w' ⟨rfl, ht, hg⟩
    refine ⟨_, rfl, ?_, ?_, hg⟩
    · rw [addOne, if_neg hm]; exact ht
    · rw [addOne, if_neg hm, List.getElem?_append_right (Nat.le_refl _)]; simp

/-- A node's word is another. -/
def wordAt (wd : List Nat → Int) (y : List Nat) (id : Int) : List Nat → Int := fun x => if x = y then id else wd x

theorem TrieIs.setWord {w : World} {B p g cap : Nat} {A : List (List Nat)} {wd : List Nat → Int} {xs : List Value} {vb vs : Nat → Value} (h : TrieIs w B p A wd (.slice (some ⟨g, 0, none⟩) A.length cap) xs vb vs) (hA : A.Nodup) {j : Nat} {y : List Nat} (hy : A[j]? = some y) (id : Int) :
    TrieIs (w.setCell ⟨g, j * 4 + 1, none⟩ (.int .i64 id)) B p A (wordAt wd y id) (.slice (some ⟨g, 0, none⟩) A.length cap) (xs.set (j * 4 + 1) (.int .i64 id)) vb vs ∧ Grew B w (w.setCell ⟨g, j * 4 + 1, none⟩ (.int .i64 id)) ∧ w.frozen? ⟨g, j * 4 + 1, none⟩ = false := by
  have hxl : xs.length = A.length * 4 := h.row.1
  obtain ⟨hj, ey⟩ := List.getElem?_eq_some_iff.1 hy
  obtain ⟨hBg, curg, hg⟩ := ownsRow_block h.row g rfl
  refine ⟨{ ptr := (heap_setCell_other w _ p _ (kind_ne h.ptr hg (by decide))).trans h.ptr, low := h.low, row := (World.ownsRow.stored h.row _ _).1, text := ?_, word := ?_, by_ := ?_, sons_ := ?_, bys := ?_, sns := ?_, apartB := h.apartB, apartS := h.apartS }, grew_set hg hBg (by decide), World.ownsRow.frozenAt h.row _⟩
  · intro i x hx
    rw [List.getElem?_set_ne (by omega)]
    exact h.text i x hx
  · intro i x hx
    obtain ⟨hi, ex⟩ := List.getElem?_eq_some_iff.1 hx
    by_cases e : i = j
    · subst e
      have : x = y := ex.symm.trans ey
      rw [List.getElem?_set_self (by omega), wordAt, if_pos this]
    · have : x ≠ y := by
        intro exy
        unfold List.Nodup at hA
        rw [List.pairwise_iff_getElem] at hA
        rcases Nat.lt_or_gt_of_ne e with hl | hl
        · exact hA i j hi hj hl (ex.trans (exy.trans ey.symm))
        · exact hA j i hj hi hl (ey.trans (exy.symm.trans ex.symm))
      rw [List.getElem?_set_ne (by omega), wordAt, if_neg this]
      exact h.word i x hx
  · intro i hi
    rw [List.getElem?_set_ne (by omega)]
    exact h.by_ i hi
  · intro i hi
    rw [List.getElem?_set_ne (by omega)]
    exact h.sons_ i hi
  · intro i x hx
    refine ownsRow_same (h.bys i x hx) (fun k hk => heap_setCell_other w _ k _ ?_)
    obtain ⟨_, cur, hc⟩ := ownsRow_block (h.bys i x hx) k hk
    exact kind_ne hc hg (by decide)
  · intro i x hx
    refine ownsRow_same (h.sns i x hx) (fun k hk => heap_setCell_other w _ k _ ?_)
    obtain ⟨_, cur, hc⟩ := ownsRow_block (h.sns i x hx) k hk
    exact kind_ne hc hg (by decide)

set_option maxRecDepth 20000 in
set_option maxHeartbeats 2000000 in
theorem add_any {w : World} {B p : Nat} {A : List (List Nat)} {wd : List Nat → Int} (h : TrieAt w B p A wd) (s : ByteArray) (id : Int) (hB : B ≤ w.heap.size) (hn : A.length + s.size < 1000000) (hwd : ∀ k, (nums s).take k ∉ A → wd ((nums s).take k) = -1) :
    Calls Try.prog 41 #[.pointer (some ⟨p, 0, none⟩), .string s, .int .i64 id] w fun e w' => e = .returned (.tuple #[]) ∧ TrieAt w' B p (addUpto A (nums s) s.size) (wordAt wd (nums s) id) ∧ Grew B w w' := by
  have H := hid h
  have HW := hid hwd
  clear h hwd
  go_enter Try.func41, Try.ntmps41
  go_wp2
  go_loopw [6, 10] (fun va vi wr => ∃ a i : Nat, va = .int .i64 a ∧ vi = .int .i64 i ∧ i ≤ s.size ∧ Hid (TrieAt wr B p (addUpto A (nums s) i) wd) ∧ Hid ((addUpto A (nums s) i)[a]? = some ((nums s).take i)) ∧ Hid (Grew B w wr)) (fun _ vi _ => s.size - (intOf vi).toNat)
  case atStart => exact ⟨0, 0, rfl, rfl, by omega, H.out, by rw [List.take_zero]; exact H.out.nodes.root, Grew.refl _ _⟩
  case round =>
    obtain ⟨a, i, rfl, rfl, hi, hT, hat, hG⟩ := hrel
    obtain ⟨Ai, hAi⟩ : ∃ Ai, Ai = addUpto A (nums s) i := ⟨_, rfl⟩
    rw [← hAi] at hT hat
    have hlen : Ai.length ≤ A.length + i := by rw [hAi]; exact (addUpto_length A (nums s) i).2
    have hAl : a < Ai.length := (List.getElem?_eq_some_iff.1 hat.out).1
    have hBw : B ≤ wr.heap.size := Nat.le_trans hB hG.out.below.size
    by_cases hlt : i < s.size
    · have ea : Ai[a]'hAl = (nums s).take i := (List.getElem?_eq_some_iff.1 hat.out).2
      obtain ⟨c, hcc⟩ : ∃ c, c = (s[i]'hlt).toNat := ⟨_, rfl⟩
      have hc : c < 256 := by rw [hcc]; exact UInt8.toNat_lt _
      have htk : (nums s).take (i + 1) = (Ai[a]'hAl) ++ [c] := by rw [ea, hcc]; exact take_nums s i hlt
      have hx : s.extract 0 (i + 1) = bytesOf ((Ai[a]'hAl) ++ [c]) := by rw [begin_text, htk]
      have hsh : (Ai[a]'hAl).length < 1000000 := by rw [ea, List.length_take]; omega
      have hw1 : (Ai[a]'hAl) ++ [c] ∉ Ai → wd ((Ai[a]'hAl) ++ [c]) = -1 := fun hno => by
        rw [← htk] at hno ⊢
        refine HW.out (i + 1) (fun hin => hno ?_)
        rw [hAi]
        exact (addUpto_mem A (nums s) i _).2 (.inl hin)
      have hnx : addUpto A (nums s) (i + 1) = addOne Ai ((Ai[a]'hAl) ++ [c]) := by rw [addUpto_succ, htk, ← hAi]
      have HX := hid hx
      have HW1 := hid hw1
      have HNX := hid hnx
      have HTK := hid htk
      have HSH := hid hsh
      clear hx hw1 hnx htk hsh ea hcc
      have hx' : (decide ((0 : Int) ≤ (i : Int) + 1 ∧ (i : Int) + 1 ≤ (s.size : Int))) = true := decide_eq_true ⟨by omega, by omega⟩
      go_wp2_with (go_at_call 56; rw [HX.out]; refine (grow_any hT.out a hAl c hc hBw (by omega) HSH.out HW1.out).mono ?_; rintro e w2 ⟨m, rfl, hT2, hm2, hG2⟩; rw [← HNX.out] at hT2 hm2; rw [← HTK.out] at hm2; have HT2 := hid hT2; have HM2 := hid hm2; have HG2 := hid (hG.out.trans hG2); clear hT2 hm2 hG2)
      go_roundw
      case rel => exact ⟨m, i + 1, rfl, by go_num, by omega, HT2.out, HM2.out, HG2.out⟩
      case measure => simp [intOf]; omega
    · obtain rfl : i = s.size := by omega
      obtain ⟨vn, xs, vb, vs, hI⟩ := hT.out.is
      obtain ⟨g, cap, rfl⟩ := hI.form hT.out.nodes.pos
      have c0 := hI.told
      obtain ⟨c1, c2, c3, c4⟩ := hI.cell a hAl
      have hat2 := hat.out
      rw [List.take_of_length_le (by rw [nums_length]; omega)] at hat2
      obtain ⟨hS, hGs, f1⟩ := hI.setWord hT.out.nodes.once hat2 id
      have HS := hid hS
      have HGs := hid hGs
      have HAi := hid hAi
      have hx' : (decide ((0 : Int) ≤ (a : Int) ∧ (a : Int) < (Ai.length : Int))) = true := decide_eq_true ⟨by omega, by omega⟩
      clear hS hGs hat2 hI hAi hat
      go_wp2
      refine bodyPost_end (v := .tuple #[]) (by simp [results, Try.results41, go_sem]) rfl ⟨rfl, ?_, hG.out.trans HGs.out⟩
      rw [← HAi.out]
      exact ⟨hT.out.nodes, hT.out.bytes, hT.out.few, hT.out.short, ⟨_, _, _, _, HS.out⟩⟩

/-- The word of a beginning: which phrase it is. -/
def wordOf (L : List (List Nat)) (x : List Nat) : Int := if x ∈ L then (L.idxOf x : Int) else -1

theorem wordOf_snoc (L : List (List Nat)) (s : List Nat) (hs : s ∉ L) : wordAt (wordOf L) s (L.length : Int) = wordOf (L ++ [s]) := by
  funext x
  unfold wordAt wordOf
  by_cases e : x = s
  · subst e
    rw [if_pos rfl, if_pos (by simp), List.idxOf_append, if_neg hs]
    simp
  · rw [if_neg e]
    by_cases hx : x ∈ L
    · rw [if_pos hx, if_pos (by simp [hx]), List.idxOf_append, if_pos hx]
    · rw [if_neg hx, if_neg (by simp [hx, e])]

/-- The tree of phrases L. -/
def TrieOf (w : World) (B p : Nat) (L : List ByteArray) : Prop := TrieAt w B p (nodesN (L.map nums)) (wordOf (L.map nums))

theorem TrieOf.below {w w' : World} {B p : Nat} {L : List ByteArray} (h : TrieOf w B p L) (hb : Below w.heap.size w w') : TrieOf w' B p L := TrieAt.below h hb

theorem new_none (w : World) : Calls Try.prog 23 #[.pointer none] w fun e w' => e = .returned (.pointer none) ∧ w' = w := by
  go_enter Try.func23, Try.ntmps23
  go_wp2
  go_ret
  exact ⟨rfl, rfl⟩

theorem sum_nums (L : List ByteArray) : ((L.map nums).map List.length).sum = total L := by
  induction L with
  | nil => rfl
  | cons a L ih => simp only [List.map_cons, List.sum_cons, ih, nums_length]; simp [total]

theorem nodesN_self (L : List (List Nat)) (x : List Nat) (hx : x ∈ L) : x ∈ nodesN L := by
  rw [nodesN_mem]
  by_cases h0 : x = []
  · exact .inl h0
  · exact .inr ⟨x, hx, x.length, by have := List.length_pos_iff.2 h0; omega, Nat.le_refl _, by simp⟩

/-- The tree of no phrase. -/
theorem trie_start (w : World) : TrieAt ((w.alloc (.cells #[.string ⟨#[]⟩, .int .i64 (-1), .slice none 0 0, .slice none 0 0] 82)).alloc (.cells #[.slice (some ⟨w.heap.size, 0, none⟩) 1 1] 85)) w.heap.size (w.heap.size + 1) [[]] (wordOf []) := by
  have h1 : ((w.alloc (.cells #[.string ⟨#[]⟩, .int .i64 (-1), .slice none 0 0, .slice none 0 0] 82)).alloc (.cells #[.slice (some ⟨w.heap.size, 0, none⟩) 1 1] 85)).heap[w.heap.size + 1]? = some (.cells #[.slice (some ⟨w.heap.size, 0, none⟩) 1 1] 85 (0, 0)) := by
    have := heap_alloc_new (w.alloc (.cells #[.string ⟨#[]⟩, .int .i64 (-1), .slice none 0 0, .slice none 0 0] 82)) (.cells #[.slice (some ⟨w.heap.size, 0, none⟩) 1 1] 85)
    simpa using this
  have h2 : ((w.alloc (.cells #[.string ⟨#[]⟩, .int .i64 (-1), .slice none 0 0, .slice none 0 0] 82)).alloc (.cells #[.slice (some ⟨w.heap.size, 0, none⟩) 1 1] 85)).heap[w.heap.size]? = some (.cells #[.string ⟨#[]⟩, .int .i64 (-1), .slice none 0 0, .slice none 0 0] 82 (0, 0)) := by
    rw [Below.heap_alloc _ _ _ (by simp)]
    exact heap_alloc_new w _
  have one : ∀ j (x : List Nat), ([[]] : List (List Nat))[j]? = some x → j = 0 ∧ x = [] := by
    intro j x hx
    have := (List.getElem?_eq_some_iff.1 hx).1
    simp at this
    subst this
    simp at hx
    exact ⟨rfl, by first | exact hx | exact hx.symm⟩
  have hby : byOf [[]] [] = [] := by
    unfold byOf
    rw [List.filter_eq_nil_iff]
    intro c _
    simp
  refine ⟨nodes_one, (by intro x hx y hy; simp at hx; subst hx; cases hy), (by decide), (by intro x hx; simp at hx; subst hx; decide), ⟨.slice (some ⟨w.heap.size, 0, none⟩) 1 1, [.string ⟨#[]⟩, .int .i64 (-1), .slice none 0 0, .slice none 0 0], fun _ => .slice none 0 0, fun _ => .slice none 0 0, ?_⟩⟩
  refine { ptr := h1, low := by omega, row := ⟨rfl, .inr ⟨w.heap.size, 1, _, rfl, Nat.le_refl _, h2, Nat.le_refl _, by decide, rfl, rfl⟩⟩, text := ?_, word := ?_, by_ := ?_, sons_ := ?_, bys := ?_, sns := ?_, apartB := ?_, apartS := ?_ }
  · intro j x hx
    obtain ⟨rfl, rfl⟩ := one j x hx
    rfl
  · intro j x hx
    obtain ⟨rfl, rfl⟩ := one j x hx
    rfl
  · intro j hj
    obtain rfl : j = 0 := by simpa using hj
    rfl
  · intro j hj
    obtain rfl : j = 0 := by simpa using hj
    rfl
  · intro j x hx
    obtain ⟨rfl, rfl⟩ := one j x hx
    rw [hby]
    exact World.ownsRow_nil _ _ _ _
  · intro j x hx
    obtain ⟨rfl, rfl⟩ := one j x hx
    rw [sonsOf, hby]
    exact World.ownsRow_nil _ _ _ _
  · intro i j g _ _ h _
    cases h
  · intro i j g _ _ h _
    cases h

theorem ownsRow_grew {w w' : World} {B base : Nat} {v : Value} {n : Nat} {xs : List Value} (h : w.ownsRow base 9 1 v n xs) (hg : Grew B w w') : w'.ownsRow base 9 1 v n xs :=
  ownsRow_same h (fun k hk => by
    obtain ⟨_, cur, hc⟩ := ownsRow_block h k hk
    rw [hg.strs k cur hc, hc])

set_option maxRecDepth 20000 in
set_option maxHeartbeats 2000000 in
theorem trie_new {w : World} {B p : Nat} {L : List ByteArray} (h : DictAt w B p L) (hL : Fine L) :
    Calls Try.prog 23 #[.pointer (some ⟨p, 0, none⟩)] w fun e w' => ∃ t, e = .returned (.pointer (some ⟨t, 0, none⟩)) ∧ TrieOf w' w.heap.size t L ∧ Below w.heap.size w w' := by
  have hF := (fine_iff L).1 hL
  have hln : L.length ≤ 1000000 := by have := hF.1; omega
  have H := hid h
  have HF := hid hF
  have HS := hid (trie_start w)
  clear h hF hL
  go_enter Try.func23, Try.ntmps23
  go_wp2_with (go_at_call 40; refine (all_any (H.out.below (((Below.refl w.heap.size w).alloc (Nat.le_refl _) _).alloc (by simp) _)) hln).mono ?_; rintro e w3 ⟨v', rfl, ho3, hb3⟩; obtain ⟨ao, cap, rfl⟩ := ownsRow_slice ho3; have HO3 := hid ho3; have HB3 := hid hb3; clear ho3 hb3)
  have HG3 : Hid (Grew w.heap.size w w3) := grew_below ((((Below.refl w.heap.size w).alloc (Nat.le_refl _) _).alloc (by simp) _).trans (HB3.out.mono (by simp; omega))) (Nat.le_refl _)
  have HT3 : Hid (TrieAt w3 w.heap.size (w.heap.size + 1) [[]] (wordOf [])) := HS.out.below HB3.out
  clear HS HB3
  go_loopw [15] (fun vi wr => ∃ i : Nat, vi = .int .i64 i ∧ i ≤ L.length ∧ Hid (TrieAt wr w.heap.size (w.heap.size + 1) (nodesN ((L.take i).map nums)) (wordOf ((L.take i).map nums))) ∧ Hid (Grew w.heap.size w3 wr)) (fun vi _ => L.length - (intOf vi).toNat)
  case atStart => exact ⟨0, rfl, by omega, by rw [List.take_zero]; exact HT3.out, Grew.refl _ _⟩
  case round =>
    obtain ⟨i, rfl, hi, hT, hG⟩ := hrel
    have hBw : w.heap.size ≤ wr.heap.size := Nat.le_trans HG3.out.below.size hG.out.below.size
    by_cases hlt : i < L.length
    · have hR := ownsRow_reads (ownsRow_grew HO3.out hG.out)
      obtain ⟨a2, cap2, e2, hR2⟩ := hR
      rw [strs_length] at e2 hR2
      injection e2 with e3 e4 e5
      subst e3
      subst e5
      rcases hR2 with h0 | ⟨gb, o, rfl, hgb, hcell⟩
      · omega
      have hcb : wr.cell? ⟨gb, o + i, none⟩ = some (.string (L[i]'hlt)) := by rw [hcell i hlt, strs_at]
      clear hcell
      have hs40 := (HF.out.2.1 (L[i]'hlt) (List.getElem_mem hlt)).2
      have htake : L.take (i + 1) = L.take i ++ [L[i]'hlt] := List.take_succ_eq_append_getElem hlt
      have hno : nums (L[i]'hlt) ∉ (L.take i).map nums := by
        intro hm
        obtain ⟨s, hs, e⟩ := List.mem_map.1 hm
        have e2 := nums_inj _ _ e
        obtain ⟨q, hq, eq⟩ := List.getElem_of_mem hs
        have hqi : q < i := by rw [List.length_take] at hq; omega
        rw [List.getElem_take] at eq
        have h1 := HF.out.2.2.2
        unfold List.Nodup at h1
        exact List.pairwise_iff_getElem.1 h1 q i (by omega) hlt hqi (eq.trans e2)
      have hnl : (nodesN ((L.take i).map nums)).length + (L[i]'hlt).size < 1000000 := by
        have h1 := nodesN_length ((L.take i).map nums)
        rw [sum_nums] at h1
        have h2 := total_take L i
        have h3 := HF.out.2.2.1
        omega
      have hwd : ∀ k, (nums (L[i]'hlt)).take k ∉ nodesN ((L.take i).map nums) → wordOf ((L.take i).map nums) ((nums (L[i]'hlt)).take k) = -1 := fun k hk => by
        rw [wordOf, if_neg (fun hm => hk (nodesN_self _ _ hm))]
      have hli : ((L.take i).map nums).length = i := by rw [List.length_map, List.length_take]; omega
      have e1 : addUpto (nodesN ((L.take i).map nums)) (nums (L[i]'hlt)) (L[i]'hlt).size = nodesN ((L.take (i + 1)).map nums) := by rw [htake, List.map_append, List.map_singleton, nodesN_snoc, nums_length]
      have e2 : wordAt (wordOf ((L.take i).map nums)) (nums (L[i]'hlt)) (i : Int) = wordOf ((L.take (i + 1)).map nums) := by
        rw [htake, List.map_append, List.map_singleton, ← wordOf_snoc _ _ hno, hli]
      have E1 := hid e1
      have E2 := hid e2
      have HN := hid hnl
      have HWD := hid hwd
      clear e1 e2 hnl hwd hno htake hli
      have hx' : (decide ((0 : Int) ≤ (i : Int) ∧ (i : Int) < (L.length : Int))) = true := decide_eq_true ⟨by omega, by omega⟩
      go_wp2_with (go_at_call 41; refine (add_any hT.out (L[i]'hlt) (i : Int) hBw HN.out HWD.out).mono ?_; rintro e w5 ⟨rfl, hT5, hG5⟩; rw [E1.out, E2.out] at hT5; have HT5 := hid hT5; have HG5 := hid (hG.out.trans hG5); clear hT5 hG5)
      go_roundw
      case rel => exact ⟨i + 1, by go_num, by omega, HT5.out, HG5.out⟩
      case measure => simp [intOf]; omega
    · obtain rfl : i = L.length := by omega
      have hall : L.take L.length = L := List.take_length
      have hTT := hT.out
      rw [hall] at hTT
      have HTT := hid hTT
      clear hTT hall
      go_wp2
      go_ret
      exact ⟨_, rfl, HTT.out, (HG3.out.trans hG.out).below⟩
end Go.Proofs.Ytfeibhdnmfiflaa
