/-
  A set of hits that the call makes, by a map of hits to truths that are all true: is one there, one more, how many; a list of hits that came in.
-/
import Derived.Test.YtfeibhdnmfiflaaBase
import Derived.Maps.OwnSet
import Derived.DeepKeys4
import Derived.Deep.Slices
import Derived.Deep.Strs
namespace Go.Proofs.Ytfeibhdnmfiflaa
open Go.ChangeShapes Go.WideShapes Go.ChangeAt Go.RowKit Go.Maps Go.Deep

/-- How an element of such a set reads. -/
def trueH (v : Value) : Option (DataW Unit × List MemPlace) :=
  match v with
  | .bool true => some (.agg [], [])
  | _ => none

theorem trueH_is {v : Value} {z : DataW Unit × List MemPlace} (h : trueH v = some z) : v = .bool true := by
  unfold trueH at h
  split at h
  · rfl
  · cases h

theorem Try.laidOutH : laidOutB Try.prog = true := by kernel_rfl
theorem Try.rowHit : (35 : TypeId) < Try.prog.types.size := of_decide_eq_true (by kernel_rfl)
theorem Try.wideHit : (match Try.prog.underlying 35 with | some (.array _ _) | some (.struct _) => true | _ => false) = true := by rw [Try.underlying35]
set_option maxRecDepth 100000 in
theorem Try.lawHit : WideMaps.KeyLaw Try.prog 35 := deep_law_laid Try.laidOutH (m := 2) (by omega) Try.rowHit (by kernel_rfl) Try.wideHit
theorem Try.keyedHit : Keyed Try.prog 35 := Keyed.of_law Try.lawHit
theorem Try.keyTypeHit : Try.prog.keyType 35 = true := by kernel_rfl
theorem Try.cellsOfHit : Try.prog.cellsOf 35 = 2 := by kernel_rfl
theorem Try.cellsOfInt : Try.prog.cellsOf 3 = 1 := by kernel_rfl

/-- A hit as a value. -/
abbrev hitV (h : Int × Int) : Value := .agg #[.int .i64 h.1, .int .i64 h.2]

/-- Both are numbers of their type. -/
def WfH (h : Int × Int) : Prop := (Lit.int .i64 h.1).wf = true ∧ (Lit.int .i64 h.2).wf = true

/-- Its key. -/
def keyH (h : Int × Int) : Lit := .string (keyBytes [.int .i64 h.1, .int .i64 h.2])

set_option maxRecDepth 100000 in
theorem key_hit (h : Int × Int) (hw : WfH h) : keyOf Try.prog 35 (hitV h) = some (keyH h) := by
  have hr : 35 < Try.prog.types.size := Try.rowHit
  obtain ⟨m, hm⟩ : ∃ m, Try.prog.types.size = m + 1 := ⟨Try.prog.types.size - 1, by omega⟩
  unfold keyOf
  simp only [Try.underlying35]
  rw [if_pos (by simp [Try.keyTypeHit, Value.formed, Try.underlying35, Try.cellsOfHit]), hm]
  unfold Program.keyLits
  simp only [Try.underlying35, Value.cells]
  rw [if_pos ⟨by rw [Try.cellsOfHit]; rfl, by kernel_rfl⟩]
  simp [Program.keyLits, Try.underlying3, Try.cellsOfInt, hw.1, hw.2, keyH]

theorem keyH_inj {a b : Int × Int} (ha : WfH a) (hb : WfH b) (e : keyH a = keyH b) : a = b := by
  have h := Try.keyedHit.inj (key_hit a ha) (by rw [e]; exact key_hit b hb)
  simp only [hitV, Value.agg.injEq] at h
  have h2 := congrArg Array.toList h
  simp only [List.cons.injEq, Value.int.injEq, true_and, and_true] at h2
  exact Prod.ext h2.1 h2.2

/-- Block b is the set of xs; n stores at most have made it. -/
def HitSet (w : World) (b n : Nat) (xs : List (Int × Int)) : Prop :=
  ∃ D : DataW Unit, w.ownsMap Try.prog 35 trueH b n D ∧ (∀ h, WfH h → Maps.has D (keyH h) = decide (h ∈ xs)) ∧ Maps.size D = xs.length

theorem zeroBoolH (w : World) : (zeroValue 4).run Try.prog w = .ok (.bool false) w := by kernel_rfl

theorem HitSet.new (w : World) : HitSet (w.alloc (.map #[] 0)) w.heap.size 0 [] :=
  ⟨.map [], World.ownsMap_made _ _ _ _, fun n _ => by simp [Maps.has], rfl⟩

theorem HitSet.same {w w' : World} {b n : Nat} {xs : List (Int × Int)} (h : HitSet w b n xs) (hb : w'.heap[b]? = w.heap[b]?) : HitSet w' b n xs := by
  obtain ⟨D, ⟨es, clock, h1, h2⟩, h3⟩ := h
  exact ⟨D, ⟨es, clock, hb.trans h1, h2⟩, h3⟩

theorem HitSet.lt {w : World} {b n : Nat} {xs : List (Int × Int)} (h : HitSet w b n xs) : b < w.heap.size := by
  obtain ⟨D, h1, _⟩ := h
  exact h1.lt

theorem HitSet.below {w w' : World} {b n : Nat} {xs : List (Int × Int)} (h : HitSet w b n xs) (hb : Below w.heap.size w w') : HitSet w' b n xs := h.same (hb.block b h.lt)

set_option maxRecDepth 20000 in
/-- Is a hit there? -/
theorem HitSet.look {w : World} {b n : Nat} {xs : List (Int × Int)} (h : HitSet w b n xs) (x : Int × Int) (hx : WfH x) :
    (Instr.lookup 33 (.map (some b)) (hitV x) false).run Try.prog w = .ok (.bool (decide (x ∈ xs))) w := by
  obtain ⟨D, ⟨es, clock, hb, F, _, hD⟩, hh, _⟩ := h
  rw [← hh x hx]
  rcases Maps.fit_look false Try.keyedHit Try.underlying33 (zeroBoolH w) hb F (key_hit x hx) with ⟨hrun, _, hat⟩ | ⟨e0, y, _, _, hrun, hRv, hat, _⟩
  · rw [hD, Maps.has_false_of_atKey hat]
    exact hrun
  · rw [hD, Maps.has_true_of_atKey hat, hrun]
    simp [trueH_is hRv]

/-- One more, or one that is there. -/
def addH (xs : List (Int × Int)) (x : Int × Int) : List (Int × Int) := if x ∈ xs then xs else xs ++ [x]
theorem addH_mem (xs : List (Int × Int)) (x y : Int × Int) : y ∈ addH xs x ↔ y ∈ xs ∨ y = x := by
  unfold addH
  by_cases h : x ∈ xs
  · rw [if_pos h]
    exact ⟨.inl, fun h2 => h2.elim id (fun e => by rw [e]; exact h)⟩
  · rw [if_neg h]; simp
theorem addH_nodup {xs : List (Int × Int)} (h : xs.Nodup) (x : Int × Int) : (addH xs x).Nodup := by
  unfold addH
  by_cases hm : x ∈ xs
  · rw [if_pos hm]; exact h
  · rw [if_neg hm, List.nodup_append]
    refine ⟨h, by simp, fun a ha b hb => ?_⟩
    simp at hb
    subst hb
    rintro rfl
    exact hm ha

set_option maxRecDepth 20000 in
theorem HitSet.add {w : World} {b n : Nat} {xs : List (Int × Int)} (h : HitSet w b n xs) (x : Int × Int) (hx : WfH x) (hn : n ≤ 1000000) :
    ∃ w', (Instr.mapUpdate 33 (.map (some b)) (hitV x) (.bool true)).run Try.prog w = .ok () w' ∧ HitSet w' b (n + 1) (addH xs x) ∧ Kept (· = b) w w' := by
  obtain ⟨D, ho, hh, hs⟩ := h
  obtain ⟨w', hrun, ho', ht⟩ := ho.store Try.keyedHit Try.underlying33 (by unfold maxLen; omega) (key_hit x hx) (show trueH (.bool true) = some (.agg [], []) from rfl)
  refine ⟨w', hrun, ⟨_, ho', fun m hm => ?_, ?_⟩, ⟨ht.grown.os, ht.grown.tape, ht.grown.output, ht.grown.size, fun k hk hne => ht.grown.block k hk (fun e => hne (by injection e))⟩⟩
  · by_cases e : m = x
    · subst e
      rw [Maps.has_put_same ho.isMap (Try.keyedHit.key (key_hit m hx)), decide_eq_true ((addH_mem xs m m).2 (.inr rfl))]
    · have hne : keyH m ≠ keyH x := fun e2 => e (keyH_inj hm hx e2)
      rw [Maps.has_put_other hne, hh m hm]
      by_cases h1 : m ∈ xs
      · rw [decide_eq_true h1, decide_eq_true ((addH_mem xs x m).2 (.inl h1))]
      · rw [decide_eq_false h1, decide_eq_false (fun h2 => ((addH_mem xs x m).1 h2).elim h1 e)]
  · rw [Maps.size_put (ho.tidy Try.keyedHit), hh x hx, hs]
    unfold addH
    by_cases h1 : x ∈ xs
    · simp [h1]
    · simp [h1]

/-- How many. -/
theorem HitSet.len {w : World} {b n : Nat} {xs : List (Int × Int)} (h : HitSet w b n xs) (ty : TypeId) : (Builtin.len_ #[33] ty #[.map (some b)]).run Try.prog w = .ok (.int .i64 (xs.length : Int)) w := by
  obtain ⟨D, ho, hh, hs⟩ := h
  rw [ho.len Try.underlying33 ty, hs]

/-- A list of hits that came in. -/
def IsHits (w : World) (a : Option Addr) (len : Nat) (z : Nat → Int × Int) : Prop :=
  len = 0 ∨ ∃ b off, a = some ⟨b, off, none⟩ ∧ b < w.heap.size ∧ ∀ i, i < len → w.cell? ⟨b, off + i * 2, none⟩ = some (.int .i64 (z i).1) ∧ w.cell? ⟨b, off + i * 2 + 1, none⟩ = some (.int .i64 (z i).2) ∧ WfH (z i)

set_option maxRecDepth 20000 in
theorem open_hits {H : Type} {enc : TypeId × Value → H} {W : World} {base fuel : Nat} {spare : Nat → Bool} {held : Bool} {a : Option Addr} {len cap : Nat} {x : DataW H × List MemPlace}
    (h : DataW.trod enc Try.prog W base spare held fuel 23 [.slice a len cap] = some x) : ∃ z, IsHits W a len z := by
  by_cases h0 : len = 0
  · exact ⟨fun _ => (0, 0), .inl h0⟩
  rcases open_slice Try.underlying23 h with ⟨hcs, _⟩ | ⟨ad, l, c, m, n, D, Pl, hcs, _, hl, _, hm, _, hel⟩
  · simp only [List.cons.injEq, Value.slice.injEq, and_true] at hcs
    omega
  · simp only [List.cons.injEq, Value.slice.injEq, and_true] at hcs
    obtain ⟨rfl, rfl, rfl⟩ := hcs
    have hlm : len ≤ m := by rw [hm]; split <;> omega
    have each : ∀ i, i < len → ∃ q : Int × Int, W.cell? (ad.add (i * 2)) = some (.int .i64 q.1) ∧ W.cell? (ad.add (i * 2 + 1)) = some (.int .i64 q.2) ∧ WfH q := by
      intro i hi
      obtain ⟨cs', h1, h2⟩ := hel i (by omega)
      rw [Try.cellsOfHit] at h1
      obtain ⟨_, hlen, hcell⟩ := World.cells?_some h1
      obtain ⟨y0, y1, k, _, _, g0, g1⟩ := trod_struct2 Try.underlying35 h2
      match cs', hlen with
      | [v0, v1], _ =>
        simp [Try.cellsOfInt] at g0 g1
        obtain ⟨n0, e0, _, w0⟩ := DataW.trod_int Try.underlying3 g0
        obtain ⟨n1, e1, _, w1⟩ := DataW.trod_int Try.underlying3 g1
        simp only [List.cons.injEq, and_true] at e0 e1
        subst e0; subst e1
        have c0 := hcell 0 (by omega)
        have c1 := hcell 1 (by omega)
        rw [add_add] at c0 c1
        exact ⟨(n0, n1), by simpa using c0, by simpa using c1, w0, w1⟩
    obtain ⟨z, hz⟩ := choose_lt each
    obtain ⟨b, off, spot⟩ := ad
    have hspot : spot = none := by simpa [Addr.add] using World.cell?_spot (hz 0 (by omega)).1
    subst hspot
    refine ⟨z, .inr ⟨b, off, rfl, ?_, fun i hi => ?_⟩⟩
    · exact World.block_lt_of_cell? W _ (by have := (hz 0 (by omega)).1; rw [Go.WideShapes.add_plain] at this; exact this)
    · have := hz i hi
      rw [Go.WideShapes.add_plain, Go.WideShapes.add_plain] at this
      exact ⟨this.1, by simpa [Nat.add_assoc] using this.2.1, this.2.2⟩
end Go.Proofs.Ytfeibhdnmfiflaa
