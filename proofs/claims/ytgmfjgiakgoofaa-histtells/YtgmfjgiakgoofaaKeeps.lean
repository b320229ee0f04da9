/-
  What calls leave of memory: nothing but some blocks has turned, new ones may have come; and what of that outlasts what.
-/
import Derived.WalkKit
import Derived.ProofKit
import Derived.OpenShut
import Derived.Below
import Derived.Deep.QuietTactic
import Derived.BigQuiet
namespace Go.Proofs.Ytgmfjgiakgoofaa
open Go.ChangeShapes Go.WideShapes Go.ChangeAt Go.RowKit

/-- Nothing but the blocks of S has turned; new blocks may have come. -/
structure Kept (S : Nat → Prop) (w w' : World) : Prop where
  os : w'.os = w.os
  tape : w'.tape = w.tape
  output : w'.output = w.output
  size : w.heap.size ≤ w'.heap.size
  block : ∀ k, k < w.heap.size → ¬ S k → w'.heap[k]? = w.heap[k]?

theorem Kept.refl (S : Nat → Prop) (w : World) : Kept S w w := ⟨rfl, rfl, rfl, Nat.le_refl _, fun _ _ _ => rfl⟩

theorem Kept.drewN (S : Nat → Prop) (w : World) (n : Nat) : Kept S w (w.drewN n) := by
  induction n generalizing w with
  | zero => exact Kept.refl S w
  | succ n ih => have h := ih w.drew; exact ⟨h.os, h.tape, h.output, h.size, h.block⟩

theorem Kept.trans {S : Nat → Prop} {a b c : World} (h : Kept S a b) (k : Kept S b c) : Kept S a c :=
  ⟨k.os.trans h.os, k.tape.trans h.tape, k.output.trans h.output, Nat.le_trans h.size k.size, fun i hi hn => (k.block i (Nat.lt_of_lt_of_le hi h.size) hn).trans (h.block i hi hn)⟩

theorem Kept.alloc {S : Nat → Prop} {w w' : World} (h : Kept S w w') (o : Obj) : Kept S w (w'.alloc o) :=
  h.trans ⟨rfl, rfl, rfl, by simp, fun k hk _ => Below.heap_alloc _ _ _ hk⟩

theorem Kept.setCell {S : Nat → Prop} {w w' : World} (h : Kept S w w') (p o : Nat) (v : Value) (hp : S p) : Kept S w (w'.setCell ⟨p, o, none⟩ v) :=
  ⟨h.os, h.tape, h.output, by have := h.size; simp only [World.setCell, Array.size_modify]; exact this, fun k hk hn => by
    rw [Below.heap_setCell _ _ _ _ (by intro e; exact hn (by simpa [e] using hp))]
    exact h.block k hk hn⟩

/-- What a call leaves of memory below its own blocks. -/
theorem Kept.below {S : Nat → Prop} {w w' : World} (h : Kept S w w') {B : Nat} (hB : B ≤ w.heap.size) (hS : ∀ k, S k → B ≤ k) : Below B w w' :=
  ⟨h.os, h.tape, h.output, h.size, fun k hk => h.block k (Nat.lt_of_lt_of_le hk hB) (fun hs => by have := hS k hs; omega)⟩

theorem drewN_below (w : World) (n B : Nat) : Below B w (w.drewN n) := by
  have h := Kept.drewN (fun _ => False) w n
  have e : (w.drewN n).heap = w.heap := by
    clear h
    induction n generalizing w with
    | zero => rfl
    | succ n ih => exact ih (w := w.drew)
  exact ⟨h.os, h.tape, h.output, h.size, fun k _ => by rw [e]⟩

theorem below_kept {w w' : World} (h : Below w.heap.size w w') (S : Nat → Prop) : Kept S w w' :=
  ⟨h.os, h.tape, h.output, h.size, fun k hk _ => h.block k hk⟩

theorem below_then {w x y : World} {p : Nat} (h : Below w.heap.size w x) (k : Kept (· = p) x y) (hp : w.heap.size ≤ p) : Below w.heap.size w y :=
  h.trans (k.below h.size (by rintro q rfl; exact hp))

theorem below_more {w x y : World} (h : Below w.heap.size w x) (k : Below x.heap.size x y) : Below w.heap.size w y := h.trans (k.mono h.size)
end Go.Proofs.Ytgmfjgiakgoofaa
