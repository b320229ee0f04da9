/-
  Lists of integers: as cells; such a list that came in; what a slice reads as.
-/
import Derived.Test.YtgmfjgiakgoofaaRows
import Derived.Test.YtgmfjgiakgoofaaSlices
import Derived.WalkKit
import Derived.ProofKit
import Derived.OpenShut
import Derived.Below
import Derived.Deep.OwnRows
import Derived.ChangeSlices
namespace Go.Proofs.Ytgmfjgiakgoofaa
open Go.ChangeShapes Go.WideShapes Go.ChangeAt Go.RowKit

/-- Numbers as cells. -/
def nats (xs : List Int) : List Value := xs.map fun x : Int => Value.int .i64 x
theorem nats_length (xs : List Int) : (nats xs).length = xs.length := by simp [nats]
theorem nats_at (xs : List Int) (i : Nat) (h : i < xs.length) : (nats xs)[i]? = some (.int .i64 (xs[i]'h)) := by simp [nats, h]
theorem nats_one (xs : List Int) : ∀ u ∈ nats xs, u.oneCell' = true := by
  intro u hu
  simp only [nats, List.mem_map] at hu
  obtain ⟨x, _, rfl⟩ := hu
  rfl
theorem nats_append (xs ys : List Int) : nats xs ++ nats ys = nats (xs ++ ys) := by simp [nats]
theorem Try.infoInt : (Try.prog.info? 3).map (fun i => (i.zero, i.size, i.bytes)) = some (some (.int .i64 0), 1, 8) := by kernel_rfl

/-- A list of integers that came in. -/
def IsInts (w : World) (a : Option Addr) (len : Nat) (z : Nat → Int) : Prop :=
  len = 0 ∨ ∃ b off, a = some ⟨b, off, none⟩ ∧ b < w.heap.size ∧ ∀ i, i < len → w.cell? ⟨b, off + i, none⟩ = some (.int .i64 (z i))

theorem Try.cellsInt : Try.prog.cellsOf 3 = 1 := by kernel_rfl

theorem open_numbers {H : Type} {enc : TypeId × Value → H} {W : World} {base fuel : Nat} {spare : Nat → Bool} {held : Bool} {a : Option Addr} {len cap : Nat} {x : DataW H × List MemPlace}
    (h : DataW.trod enc Try.prog W base spare held fuel 22 [.slice a len cap] = some x) : ∃ z, IsInts W a len z := by
  by_cases h0 : len = 0
  · exact ⟨fun _ => 0, .inl h0⟩
  rcases open_ints Try.underlying22 Try.underlying3 Try.cellsInt h with ⟨hcs, _⟩ | ⟨ad, l, c, zs, hcs, _, hl, _, hlen, _, hcell, _⟩
  · simp only [List.cons.injEq, Value.slice.injEq, and_true] at hcs
    omega
  · simp only [List.cons.injEq, Value.slice.injEq, and_true] at hcs
    obtain ⟨rfl, rfl, rfl⟩ := hcs
    have hlm : len ≤ zs.length := by rw [hlen]; split <;> omega
    obtain ⟨b, off, spot⟩ := ad
    have hspot : spot = none := by simpa [Addr.add] using World.cell?_spot (hcell 0 (by omega))
    subst hspot
    refine ⟨fun i => zs.getD i 0, .inr ⟨b, off, rfl, ?_, fun i hi => ?_⟩⟩
    · exact World.block_lt_of_cell? W _ (by have := hcell 0 (by omega); rw [Go.WideShapes.add_plain] at this; exact this)
    · have := hcell i (by omega)
      rwa [Go.WideShapes.add_plain] at this

/-- It reads as its integers. -/
theorem isInts_reads {w : World} {a : Option Addr} {len cap : Nat} {z : Nat → Int} (h : IsInts w a len z) : Reads w (.slice a len cap) (nats ((List.range len).map z)) := by
  refine ⟨a, cap, by simp [nats], ?_⟩
  rcases h with h | ⟨b, off, h1, h2, h3⟩
  · exact .inl (by simp [nats, h])
  · refine .inr ⟨b, off, h1, h2, fun i hi => ?_⟩
    have hil : i < len := by simpa [nats] using hi
    rw [h3 i hil, nats_at _ i (by simpa using hil)]
    simp

/-- A cell of a slice of integers. -/
theorem reads_int {w : World} {a : Option Addr} {n c : Nat} {xs : List Int} (h : Reads w (.slice a n c) (nats xs)) (hn : 0 < xs.length) : ∃ b off, a = some ⟨b, off, none⟩ ∧ n = xs.length ∧ b < w.heap.size ∧ ∀ i (hi : i < xs.length), w.cell? ⟨b, off + i, none⟩ = some (.int .i64 (xs[i]'hi)) := by
  obtain ⟨a', c', e, h⟩ := h
  injection e with e1 e2 e3
  subst e1
  rw [nats_length] at e2 h
  rcases h with h | ⟨b, off, rfl, hb, hc⟩
  · omega
  · exact ⟨b, off, rfl, e2, hb, fun i hi => by rw [hc i hi, nats_at xs i hi]⟩

/-- append of what a slice of integers reads as, to a row of integers of one's own. -/
theorem run_append_ints (w : World) (ty : TypeId) (base : Nat) (v : Value) (xs : List Int) (hown : w.ownsRow base 3 1 v xs.length (nats xs)) (u : Value) (ys : List Int) (hu : Reads w u (nats ys)) (hfew : xs.length + ys.length ≤ 1000000) (hbase : base ≤ w.heap.size) :
    ∃ v' w', (Builtin.append_ #[22, 22] ty #[v, u]).run Try.prog w = .ok v' w' ∧ w'.ownsRow base 3 1 v' (xs ++ ys).length (nats (xs ++ ys)) ∧ Below base w w' := by
  obtain ⟨i0, hi, hz0, hz1, hz2⟩ := info_parts Try.infoInt
  obtain ⟨v', w', h1, h2, h3, _, _⟩ := run_append_reads (P := Try.prog) w 22 ty base 3 i0 (.int .i64 0) 8 Try.underlying22 hi hz0 hz1 hz2 rfl v xs.length (nats xs) hown u (nats ys) hu (nats_one ys) (by rw [nats_length]; unfold maxLen; omega) (by rw [nats_length]; omega) hbase
  rw [nats_append, nats_length] at h2
  refine ⟨v', w', h1, by rw [List.length_append]; exact h2, (Below.refl base w).grown h3 hbase (fun g hg => (hown.lt g hg).1)⟩

theorem wpList_append_ints {ops : Array Oper} {rest : List Oper} {o : Oper} {a : Act} {w : World} {Q : Exit → Act → World → Prop} (hgd : o.guard = none) (s x : Operand)
    (ho : o.op = .call { callee := .builtin .append, args := #[s, x], argTypes := #[22, 22] })
    (base : Nat) (v : Value) (xs : List Int) (hs : a.eval s = v) (hown : w.ownsRow base 3 1 v xs.length (nats xs)) (u : Value) (ys : List Int) (hx : a.eval x = u) (hu : Reads w u (nats ys)) (hfew : xs.length + ys.length ≤ 1000000) (hbase : base ≤ w.heap.size)
    (h : ∀ v' w', w'.ownsRow base 3 1 v' (xs ++ ys).length (nats (xs ++ ys)) → Below base w w' → wpList Try.prog ops Q rest (a.put o.dst v') w') : wpList Try.prog ops Q (o :: rest) a w := by
  obtain ⟨v', w', hr, h2, h3⟩ := run_append_ints w o.type base v xs hown u ys hu hfew hbase
  refine wpList_plain hgd fun K hK => ?_
  unfold Oper.wp execOp
  simp only [ho, resolve, invoke, builtin, Sem.run_bind, Sem.run_pure, Result.andThen_ok, List.map_toArray, List.map_cons, List.map_nil, hs, hx, hr]
  exact hK _ _ (h v' w' h2 h3)

/-- An operation whose guard holds. -/
theorem wpList_wanted {P : Program} {ops : Array Oper} {rest : List Oper} {o : Oper} {a : Act} {w : World} {Q : Exit → Act → World → Prop} (hg : Region.wanted o (yielded ops a.tmps) = true)
    (h : ∀ K : Act → World → Prop, (∀ a w, wpList P ops Q rest a w → K a w) → o.wp P a w K Q) : wpList P ops Q (o :: rest) a w :=
  wpList_step fun K hK => by rw [if_pos hg]; exact h K hK

/-- append under a guard that holds. -/
theorem wpList_append_ints_guard {ops : Array Oper} {rest : List Oper} {o : Oper} {a : Act} {w : World} {Q : Exit → Act → World → Prop} (hg : Region.wanted o (yielded ops a.tmps) = true) (s x : Operand)
    (ho : o.op = .call { callee := .builtin .append, args := #[s, x], argTypes := #[22, 22] })
    (base : Nat) (v : Value) (xs : List Int) (hs : a.eval s = v) (hown : w.ownsRow base 3 1 v xs.length (nats xs)) (u : Value) (ys : List Int) (hx : a.eval x = u) (hu : Reads w u (nats ys)) (hfew : xs.length + ys.length ≤ 1000000) (hbase : base ≤ w.heap.size)
    (h : ∀ v' w', w'.ownsRow base 3 1 v' (xs ++ ys).length (nats (xs ++ ys)) → Below base w w' → wpList Try.prog ops Q rest (a.put o.dst v') w') : wpList Try.prog ops Q (o :: rest) a w := by
  obtain ⟨v', w', hr, h2, h3⟩ := run_append_ints w o.type base v xs hown u ys hu hfew hbase
  refine wpList_wanted hg fun K hK => ?_
  unfold Oper.wp execOp
  simp only [ho, resolve, invoke, builtin, Sem.run_bind, Sem.run_pure, Result.andThen_ok, List.map_toArray, List.map_cons, List.map_nil, hs, hx, hr]
  exact hK _ _ (h v' w' h2 h3)
end Go.Proofs.Ytgmfjgiakgoofaa
