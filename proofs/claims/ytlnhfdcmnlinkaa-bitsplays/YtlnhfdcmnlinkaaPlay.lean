/-
  What the statement BitsPlays holds in memory between the things that are done: a Reader, a Writer, the bits that were put, the bits that are still to be read; and what each call leaves of it.
-/
import Derived.Test.YtlnhfdcmnlinkaaPack
import Derived.Test.YtlnhfdcmnlinkaaOps
namespace Go.Proofs.Ytlnhfdcmnlinkaa
open Go.ChangeShapes Go.WideShapes Go.ChangeAt Go.RowKit

theorem Try.infoInt : (Try.prog.info? 3).map (fun i => (i.zero, i.size, i.bytes)) = some (some (.int .i64 0), 1, 8) := by kernel_rfl

/-- The bits of a text, one by one. -/
def bitsL (b : ByteArray) (n : Nat) : List Nat := (List.range n).map (bitN b)

theorem bitsL_length (b : ByteArray) (n : Nat) : (bitsL b n).length = n := by simp [bitsL]
theorem bitsL_succ (b : ByteArray) (n : Nat) : bitsL b (n + 1) = bitsL b n ++ [bitN b n] := by simp [bitsL, List.range_succ]
theorem intCells_snoc (bs : List Nat) (x : Nat) : intCells (bs ++ [x]) = intCells bs ++ [.int .i64 (x : Int)] := by simp [intCells]
theorem intCells_get (bs : List Nat) (i : Nat) (h : i < bs.length) : (intCells bs)[i]? = some (.int .i64 ((bs.getD i 0 : Nat) : Int)) := by
  simp [intCells, List.getElem?_eq_getElem h]

structure Play (B p r : Nat) (w : World) (b : ByteArray) (g : Nat) (v : Value) (N L : Nat) (os : List Nat) (uo : Value) (gi : Nat) (ai : Option Addr) : Prop where
  rd : RdAt w r b g
  wt : WrAt B w p v N L
  row : w.ownsRow B 3 1 uo os.length (intCells os)
  bit : ∀ x ∈ os, x < 2
  inn : 8 * b.size - gi = 0 ∨ ∃ q o, ai = some ⟨q, o, none⟩ ∧ B ≤ q ∧ q < w.heap.size ∧ q ≠ p ∧ q ≠ r ∧ uo.ownBlock ≠ some q ∧ v.ownBlock ≠ some q ∧ ∀ i, i < 8 * b.size - gi → w.cell? ⟨q, o + i, none⟩ = some (.int .i64 ((bitN b (gi + i) : Nat) : Int))
  pr : p ≠ r
  br : B ≤ r
  ur : uo.ownBlock ≠ some r
  up : uo.ownBlock ≠ some p
  vr : v.ownBlock ≠ some r
  uv : ∀ q, uo.ownBlock = some q → v.ownBlock ≠ some q

section
variable {B p r : Nat} {w w' : World} {b : ByteArray} {g gi N L : Nat} {v uo : Value} {os : List Nat} {ai : Option Addr}

theorem Play.quiet (h : Play B p r w b g v N L os uo gi ai) (hk : Kept (fun _ => False) w w') : Play B p r w' b g v N L os uo gi ai :=
  ⟨h.rd.kept hk id, h.wt.kept hk id (fun _ _ => id), ownsRow_same h.row (fun q hq => hk.block q (h.row.lt q hq).2 id), h.bit,
    h.inn.imp id (fun ⟨q, o, h1, h2, h3, h4, h5, h6, h7, h8⟩ => ⟨q, o, h1, h2, Nat.lt_of_lt_of_le h3 hk.size, h4, h5, h6, h7, fun i hi => (World.cell?_of_block (a := ⟨q, o + i, none⟩) (hk.block q h3 id)).trans (h8 i hi)⟩), h.pr, h.br, h.ur, h.up, h.vr, h.uv⟩

theorem Play.alloc (h : Play B p r w b g v N L os uo gi ai) (x : Obj) : Play B p r (w.alloc x) b g v N L os uo gi ai := h.quiet ((Kept.refl _ w).alloc x)
theorem Play.same (h : Play B p r w b g v N L os uo gi ai) (hs : Same w w') : Play B p r w' b g v N L os uo gi ai := h.quiet (hs.kept _)
theorem Play.below (h : Play B p r w b g v N L os uo gi ai) (hb : Below w.heap.size w w') : Play B p r w' b g v N L os uo gi ai :=
  h.quiet ⟨hb.os, hb.tape, hb.output, hb.size, fun k hk _ => hb.block k hk⟩

theorem Play.read (h : Play B p r w b g v N L os uo gi ai) {g' : Nat} (hk : Kept (· = r) w w') (hr : RdAt w' r b g') : Play B p r w' b g' v N L os uo gi ai :=
  ⟨hr, h.wt.kept hk h.pr (fun q hq e => h.vr (by rw [hq, e])), ownsRow_same h.row (fun q hq => hk.block q (h.row.lt q hq).2 (fun e => h.ur (by rw [hq, e]))), h.bit,
    h.inn.imp id (fun ⟨q, o, h1, h2, h3, h4, h5, h6, h7, h8⟩ => ⟨q, o, h1, h2, Nat.lt_of_lt_of_le h3 hk.size, h4, h5, h6, h7, fun i hi => (World.cell?_of_block (a := ⟨q, o + i, none⟩) (hk.block q h3 h5)).trans (h8 i hi)⟩), h.pr, h.br, h.ur, h.up, h.vr, h.uv⟩

theorem Play.put (h : Play B p r w b g v N L os uo gi ai) {N' L' : Nat} {v' : Value} (hk : Kept (Foot p v) w w') (hw : WrAt B w' p v' N' L') (ho : v'.ownBlock = v.ownBlock ∨ ∃ q, v'.ownBlock = some q ∧ w.heap.size ≤ q) : Play B p r w' b g v' N' L' os uo gi ai := by
  have far : ∀ q, q < w.heap.size → v.ownBlock ≠ some q → v'.ownBlock ≠ some q := fun q hq hv hv' => by
    rcases ho with ho | ⟨q', ho, hge⟩
    · exact hv (by rw [← ho, hv'])
    · rw [ho] at hv'; injection hv' with hv'; omega
  refine ⟨h.rd.kept hk (not_foot (Ne.symm h.pr) (fun q hq e => h.vr (by rw [hq, e]))), hw, ownsRow_same h.row (fun q hq => hk.block q (h.row.lt q hq).2 (not_foot (fun e => h.up (by rw [hq, e])) (fun q' hq' e => h.uv q hq (by rw [hq', e])))), h.bit, ?_, h.pr, h.br, h.ur, h.up, far r h.rd.lt h.vr, fun q hq => far q (h.row.lt q hq).2 (h.uv q hq)⟩
  exact h.inn.imp id (fun ⟨q, o, h1, h2, h3, h4, h5, h6, h7, h8⟩ => ⟨q, o, h1, h2, Nat.lt_of_lt_of_le h3 hk.size, h4, h5, h6, far q h3 h7, fun i hi => (World.cell?_of_block (a := ⟨q, o + i, none⟩) (hk.block q h3 (not_foot h4 (fun q' hq' e => h7 (by rw [hq', e]))))).trans (h8 i hi)⟩)

/-- One more bit among those that were put. -/
theorem Play.more (h : Play B p r w b g v N L os uo gi ai) {x q' n cap : Nat} {ob : Obj} (hx : x < 2) (hgrow : (w.alloc ob).grownBy w' uo.ownBlock) (hat : uo.ownBlock = some q' ∨ q' = w.heap.size + 1)
    (hown : w'.ownsRow B 3 1 (.slice (some ⟨q', 0, none⟩) n cap) (os.length + 1) (intCells os ++ [.int .i64 (x : Int)])) : Play B p r w' b g v N L (os ++ [x]) (.slice (some ⟨q', 0, none⟩) n cap) gi ai := by
  have keep : ∀ q, q < w.heap.size → uo.ownBlock ≠ some q → w'.heap[q]? = w.heap[q]? := fun q hq hu => (hgrow.block q (by simp; omega) (Ne.symm hu)).trans (Below.heap_alloc w ob q hq)
  have far : ∀ q, q < w.heap.size → uo.ownBlock ≠ some q → (Value.slice (some ⟨q', 0, none⟩) n cap).ownBlock ≠ some q := fun q hq hu e => by
    simp [Value.ownBlock] at e
    rcases hat with h | h
    · exact hu (by rw [h, e])
    · omega
  have hsz : w.heap.size ≤ w'.heap.size := by have := hgrow.size; simp at this; omega
  have vu : ∀ q, v.ownBlock = some q → uo.ownBlock ≠ some q := fun q hq e => h.uv q e hq
  refine ⟨⟨(keep r h.rd.lt h.ur).trans h.rd.1, h.rd.2⟩, ⟨(keep p h.wt.lt h.up).trans h.wt.cells, ownsRow_same h.wt.row (fun q hq => keep q (h.wt.own q hq).2 (vu q hq)), h.wt.base, h.wt.apart, h.wt.fits, h.wt.small⟩, by rw [List.length_append, intCells_snoc]; exact hown, ?_, ?_, h.pr, h.br, far r h.rd.lt h.ur, far p h.wt.lt h.up, h.vr, ?_⟩
  · intro y hy
    rcases List.mem_append.1 hy with hy | hy
    · exact h.bit y hy
    · rw [List.mem_singleton.1 hy]; exact hx
  · exact h.inn.imp id (fun ⟨q, o, h1, h2, h3, h4, h5, h6, h7, h8⟩ => ⟨q, o, h1, h2, by omega, h4, h5, far q h3 h6, h7, fun i hi => (World.cell?_of_block (a := ⟨q, o + i, none⟩) (keep q h3 h6)).trans (h8 i hi)⟩)
  · intro q hq hv
    exact far q (h.wt.own q hv).2 (vu q hv) hq

/-- Bits that are passed by. -/
theorem Play.cut (h : Play B p r w b g v N L os uo gi ai) {n : Nat} {a' : Option Addr} (ha : ∀ q o, ai = some ⟨q, o, none⟩ → n < 8 * b.size - gi → a' = some ⟨q, o + n, none⟩) : Play B p r w b g v N L os uo (gi + n) a' := by
  refine ⟨h.rd, h.wt, h.row, h.bit, ?_, h.pr, h.br, h.ur, h.up, h.vr, h.uv⟩
  rcases h.inn with h0 | ⟨q, o, h1, h2, h3, h4, h5, h6, h7, h8⟩
  · exact .inl (by omega)
  · by_cases hn : n < 8 * b.size - gi
    · exact .inr ⟨q, o + n, ha q o h1 hn, h2, h3, h4, h5, h6, h7, fun i hi => by rw [Nat.add_assoc, h8 (n + i) (by omega), Nat.add_assoc]⟩
    · exact .inl (by omega)

theorem Play.bits (h : Play B p r w b g v N L os uo gi ai) {ao : Option Addr} {n cap : Nat} (hu : uo = .slice ao n cap) : IsBits w ao os := by
  refine ⟨h.bit, ?_⟩
  by_cases h0 : os.length = 0
  · exact .inl h0
  · obtain ⟨q, c, he, _, hq⟩ := h.row.form (by omega)
    rw [hu] at he
    simp only [Value.slice.injEq] at he
    obtain ⟨rfl, rfl, rfl⟩ := he
    right
    refine ⟨q, 0, rfl, hq, fun i hi => ?_⟩
    have hr := h.row
    rw [hu] at hr
    rw [Nat.zero_add, hr.cellAt i (by omega), intCells_get os i hi]

end

end Go.Proofs.Ytlnhfdcmnlinkaa
