/-
  Copies into a row, and an append of room, as laws of a walk: nothing but that row turns.
-/
import Derived.Test.YtdplflcaanmmiaaGreatBase
import Derived.Laws.CopyOwn
import Derived.Lib.AppendZerosOnto
import Derived.Lib.Overlaps
import Derived.Laws.Externs
namespace Go.Proofs.YtdplflcaanmmiaaGreat
open Go.ChangeShapes Go.WideShapes Go.ChangeAt Go.RowKit
variable {P : Program} {w : World}

theorem setRow_kept (w : World) (g : Nat) (cs : Array Value) : Kept (· = g) w (w.setRow g cs) :=
  ⟨rfl, rfl, rfl, by simp [World.setRow], fun k _ hk => setRow_other w g k cs hk⟩

/-- A copy of at least one cell. -/
theorem wp_copy_keeps {o : Oper} {a : Act} {K : Act → World → Prop} {Q : Exit → Act → World → Prop} (d s : Operand) (dT sT : TypeId)
    (ho : o.op = .call { callee := .builtin .copy, args := #[d, s], argTypes := #[dT, sT] }) (elem : TypeId) (hu : P.underlying dT = some (.slice elem)) (hsz : (P.info? elem).map (·.size) = some 1)
    (g off dLen dCap : Nat) (ad : Addr) (sLen sCap : Nat) (hd : a.eval d = .slice (some ⟨g, off, none⟩) dLen dCap) (hs : a.eval s = .slice (some ad) sLen sCap)
    (cur : List Value) (t : TypeId) (hg : Hid (w.heap[g]? = some (.cells cur.toArray t (0, 0)))) (cs : List Value) (hn : cs.length = Nat.min sLen dLen)
    (hsrc : ∀ j v, cs[j]? = some v → w.cell? (ad.add j) = some v) (hfit : off + cs.length ≤ cur.length) (h1 : ∀ v ∈ cs, v.oneCell' = true)
    (h : ∀ w', Hid (w'.heap[g]? = some (.cells (splice cur off cs).toArray t (0, 0))) → Kept (· = g) w w' → K (a.put o.dst (goInt cs.length)) w') : o.wp P a w K Q := by
  have hrun := run_copy_row (P := P) w dT sT o.type elem g off dLen dCap ad sLen sCap cur.toArray t cs hu hsz hg.out hn hsrc (by simpa using hfit) h1
  unfold Oper.wp
  simp [execOp, ho, resolve, invoke, builtin, hd, hs, hrun, Result.andThen]
  exact h _ (show _ = _ by simpa [splice] using setRow_heap w g _ _ t _ hg.out) (setRow_kept w g _)

theorem wpList_copy_keeps {ops : Array Oper} {rest : List Oper} {o : Oper} {a : Act} {Q : Exit → Act → World → Prop} (hgd : o.guard = none) (d s : Operand) (dT sT : TypeId)
    (ho : o.op = .call { callee := .builtin .copy, args := #[d, s], argTypes := #[dT, sT] }) (elem : TypeId) (hu : P.underlying dT = some (.slice elem)) (hsz : (P.info? elem).map (·.size) = some 1)
    (g off dLen dCap : Nat) (ad : Addr) (sLen sCap : Nat) (hd : a.eval d = .slice (some ⟨g, off, none⟩) dLen dCap) (hs : a.eval s = .slice (some ad) sLen sCap)
    (cur : List Value) (t : TypeId) (hg : Hid (w.heap[g]? = some (.cells cur.toArray t (0, 0)))) (cs : List Value) (hn : cs.length = Nat.min sLen dLen)
    (hsrc : ∀ j v, cs[j]? = some v → w.cell? (ad.add j) = some v) (hfit : off + cs.length ≤ cur.length) (h1 : ∀ v ∈ cs, v.oneCell' = true)
    (h : ∀ w', Hid (w'.heap[g]? = some (.cells (splice cur off cs).toArray t (0, 0))) → Kept (· = g) w w' → wpList P ops Q rest (a.put o.dst (goInt cs.length)) w') : wpList P ops Q (o :: rest) a w :=
  wpList_plain hgd fun _ hK => wp_copy_keeps d s dT sT ho elem hu hsz g off dLen dCap ad sLen sCap hd hs cur t hg cs hn hsrc hfit h1 fun w' h2 h3 => hK _ _ (h w' h2 h3)

theorem step_copy_keeps {ops : Array Oper} {o : Oper} {a : Act} {K : Act → World → Prop} {Q : Exit → Act → World → Prop} {E : Prop} (hgd : o.guard = none) (d s : Operand) (dT sT : TypeId)
    (ho : o.op = .call { callee := .builtin .copy, args := #[d, s], argTypes := #[dT, sT] }) (elem : TypeId) (hu : P.underlying dT = some (.slice elem)) (hsz : (P.info? elem).map (·.size) = some 1)
    (g off dLen dCap : Nat) (ad : Addr) (sLen sCap : Nat) (hd : a.eval d = .slice (some ⟨g, off, none⟩) dLen dCap) (hs : a.eval s = .slice (some ad) sLen sCap)
    (cur : List Value) (t : TypeId) (hg : Hid (w.heap[g]? = some (.cells cur.toArray t (0, 0)))) (cs : List Value) (hn : cs.length = Nat.min sLen dLen)
    (hsrc : ∀ j v, cs[j]? = some v → w.cell? (ad.add j) = some v) (hfit : off + cs.length ≤ cur.length) (h1 : ∀ v ∈ cs, v.oneCell' = true)
    (h : ∀ w', Hid (w'.heap[g]? = some (.cells (splice cur off cs).toArray t (0, 0))) → Kept (· = g) w w' → K (a.put o.dst (goInt cs.length)) w') :
    if Region.wanted o (yielded ops a.tmps) = true then Oper.wp P o a w K Q else E := by
  have hw : Region.wanted o (yielded ops a.tmps) = true := by simp [Region.wanted, hgd]
  rw [if_pos hw]
  exact wp_copy_keeps d s dT sT ho elem hu hsz g off dLen dCap ad sLen sCap hd hs cur t hg cs hn hsrc hfit h1 h

/-- A copy's run. -/
theorem run_copy_keeps (w : World) (dT sT elem : TypeId) (hu : P.underlying dT = some (.slice elem)) (hsz : (P.info? elem).map (·.size) = some 1)
    (g off dLen dCap : Nat) (ad : Addr) (sLen sCap : Nat) (cur : List Value) (t : TypeId) (hg : Hid (w.heap[g]? = some (.cells cur.toArray t (0, 0)))) (cs : List Value) (hn : cs.length = Nat.min sLen dLen)
    (hsrc : ∀ j v, cs[j]? = some v → w.cell? (ad.add j) = some v) (hfit : off + cs.length ≤ cur.length) (h1 : ∀ v ∈ cs, v.oneCell' = true) :
    ∃ w', (∀ ty, (Builtin.copy_ #[dT, sT] ty #[.slice (some ⟨g, off, none⟩) dLen dCap, .slice (some ad) sLen sCap]).run P w = .ok (goInt cs.length) w') ∧ Hid (w'.heap[g]? = some (.cells (splice cur off cs).toArray t (0, 0))) ∧ Kept (· = g) w w' :=
  ⟨_, fun ty => run_copy_row (P := P) w dT sT ty elem g off dLen dCap ad sLen sCap cur.toArray t cs hu hsz hg.out hn hsrc (by simpa using hfit) h1, (show _ = _ by simpa [splice] using setRow_heap w g _ _ t _ hg.out), setRow_kept w g _⟩

/-- An append whose run is known. -/
theorem wpList_append_known {ops : Array Oper} {rest : List Oper} {o : Oper} {a : Act} {Q : Exit → Act → World → Prop} (hgd : o.guard = none) (s x : Operand) (t t2 : TypeId)
    (ho : o.op = .call { callee := .builtin .append, args := #[s, x], argTypes := #[t, t2] }) (v u : Value) (hs : a.eval s = v) (hx : a.eval x = u) {v' : Value} {w' : World}
    (hr : (Builtin.append_ #[t, t2] o.type #[v, u]).run P w = .ok v' w') (h : wpList P ops Q rest (a.put o.dst v') w') : wpList P ops Q (o :: rest) a w :=
  wpList_plain hgd fun K hK => by
    unfold Oper.wp execOp
    simp only [ho, resolve, invoke, builtin, Sem.run_bind, Sem.run_pure, Result.andThen_ok, List.map_toArray, List.map_cons, List.map_nil, hs, hx, hr]
    exact hK _ _ h

/-- Two splices: what stood from place k on moves up by one, and x takes its place. -/
theorem splice_insert {α : Type} (cur cs : List α) (n k : Nat) (x : α) (hcs : cur.take n = cs) (hl : cs.length = n) (hk : k < n) (hroom : n + 1 ≤ cur.length) :
    (splice (splice cur (k + 1) (cs.drop k)) k [x]).take (n + 1) = cs.take k ++ x :: cs.drop k ∧ (splice (splice cur (k + 1) (cs.drop k)) k [x]).length = cur.length := by
  have l1 : (cs.drop k).length = n - k := by rw [List.length_drop, hl]
  have e1 : (splice cur (k + 1) (cs.drop k)).length = cur.length := length_splice _ _ _ (by rw [l1]; omega)
  refine ⟨?_, by rw [length_splice _ _ _ (by rw [e1]; simp; omega), e1]⟩
  have t1 : (splice cur (k + 1) (cs.drop k)).take k = cs.take k := by
    unfold splice
    rw [List.take_append_of_le_length (by rw [List.length_take]; omega), List.take_take, Nat.min_eq_left (by omega), ← hcs, List.take_take, Nat.min_eq_left (by omega)]
  have t2 : ((splice cur (k + 1) (cs.drop k)).drop (k + 1)).take (n - k) = cs.drop k := by
    unfold splice
    have hlt : (cur.take (k + 1)).length = k + 1 := by rw [List.length_take]; omega
    rw [List.drop_append_of_le_length (by omega), List.drop_of_length_le (by omega), List.nil_append, List.take_append_of_le_length (by omega)]
    exact List.take_of_length_le (by omega)
  have t3 : splice (splice cur (k + 1) (cs.drop k)) k [x] = cs.take k ++ x :: (splice cur (k + 1) (cs.drop k)).drop (k + 1) := by
    rw [show splice (splice cur (k + 1) (cs.drop k)) k [x] = (splice cur (k + 1) (cs.drop k)).take k ++ ([x] ++ (splice cur (k + 1) (cs.drop k)).drop (k + [x].length)) from rfl, t1]
    rfl
  rw [t3, List.take_append]
  have lt : (cs.take k).length = k := by rw [List.length_take, hl]; omega
  rw [lt, List.take_of_length_le (by omega), show n + 1 - k = (n - k) + 1 by omega, List.take_succ_cons, t2]

/-- Two splices in a new row. -/
theorem splice_fresh {α : Type} (cur cs : List α) (n k : Nat) (x : α) (hcs : cur.take k = cs.take k) (hl : cs.length = n) (hk : k < n) (hroom : n + 1 ≤ cur.length) :
    (splice (splice cur k [x]) (k + 1) (cs.drop k)).take (n + 1) = cs.take k ++ x :: cs.drop k ∧ (splice (splice cur k [x]) (k + 1) (cs.drop k)).length = cur.length := by
  have l1 : (cs.drop k).length = n - k := by rw [List.length_drop, hl]
  have e1 : (splice cur k [x]).length = cur.length := length_splice _ _ _ (by simp; omega)
  refine ⟨?_, by rw [length_splice _ _ _ (by rw [e1, l1]; omega), e1]⟩
  have lt : (cs.take k).length = k := by rw [List.length_take, hl]; omega
  have t1 : (splice cur k [x]).take (k + 1) = cs.take k ++ [x] := by
    unfold splice
    rw [hcs, ← List.append_assoc, List.take_append_of_le_length (by simp; omega)]
    exact List.take_of_length_le (by simp; omega)
  rw [show splice (splice cur k [x]) (k + 1) (cs.drop k) = (splice cur k [x]).take (k + 1) ++ (cs.drop k ++ (splice cur k [x]).drop (k + 1 + (cs.drop k).length)) from rfl, t1, ← List.append_assoc, List.take_append_of_le_length (by simp; omega)]
  rw [List.take_of_length_le (by simp; omega), List.append_assoc]
  rfl
end Go.Proofs.YtdplflcaanmmiaaGreat
