/-
  The numbers that are put by the statement BitsBack, and what is read of them: lists and numbers alone.
-/
import Derived.Test.YtlnhfdcmnlinkaaBitAlive
namespace Go.Proofs.Ytlnhfdcmnlinkaa
open Go.ChangeShapes Go.WideShapes Go.ChangeAt Go.RowKit

/-- What was put: of each its kind, its number, its bits. -/
def tot (ps : List (Int × Nat × Nat)) : Nat := (ps.map fun q => q.2.2).sum
def val (ps : List (Int × Nat × Nat)) : Nat := ps.foldl (fun a q => a * 2 ^ q.2.2 + q.2.1) 0
def Fits (ps : List (Int × Nat × Nat)) : Prop := ∀ q ∈ ps, q.2.2 ≤ 32 ∧ q.2.1 < 2 ^ q.2.2
def opCells (ps : List (Int × Nat × Nat)) : List Value := ps.flatMap fun q => [.int .i64 q.1, .int .i64 (q.2.1 : Int), .int .i64 (q.2.2 : Int)]

theorem tot_append (xs ys : List (Int × Nat × Nat)) : tot (xs ++ ys) = tot xs + tot ys := by simp [tot]

theorem val_from (a : Nat) (ys : List (Int × Nat × Nat)) : ys.foldl (fun a q => a * 2 ^ q.2.2 + q.2.1) a = a * 2 ^ tot ys + val ys := by
  induction ys generalizing a with
  | nil => simp [tot, val]
  | cons q ys ih =>
    have e : tot (q :: ys) = q.2.2 + tot ys := by simp [tot]
    have e2 : val (q :: ys) = (0 * 2 ^ q.2.2 + q.2.1) * 2 ^ tot ys + val ys := by rw [← ih]; rfl
    rw [List.foldl_cons, ih, e, e2, Nat.pow_add, Nat.zero_mul, Nat.zero_add, Nat.add_mul, Nat.mul_assoc, Nat.add_assoc]

theorem val_append (xs ys : List (Int × Nat × Nat)) : val (xs ++ ys) = val xs * 2 ^ tot ys + val ys := by
  conv => lhs; unfold val
  rw [List.foldl_append, val_from]
  rfl

theorem val_lt (ps : List (Int × Nat × Nat)) (h : Fits ps) : val ps < 2 ^ tot ps := by
  induction ps with
  | nil => simp [val, tot]
  | cons q ys ih =>
    have h1 := ih (fun r hr => h r (List.mem_cons_of_mem _ hr))
    have h2 := (h q (List.mem_cons_self ..)).2
    have e : val (q :: ys) = val [q] * 2 ^ tot ys + val ys := val_append [q] ys
    have e1 : tot (q :: ys) = q.2.2 + tot ys := by simp [tot]
    have e2 : val [q] = q.2.1 := by simp [val]
    rw [e, e1, e2, Nat.pow_add]
    have h3 := Nat.mul_le_mul_right (2 ^ tot ys) (show q.2.1 + 1 ≤ 2 ^ q.2.2 from h2)
    rw [Nat.add_mul] at h3
    omega

theorem tot_le (ps : List (Int × Nat × Nat)) (h : Fits ps) : tot ps ≤ 32 * ps.length := by
  induction ps with
  | nil => simp [tot]
  | cons q ys ih =>
    have h1 := ih (fun r hr => h r (List.mem_cons_of_mem _ hr))
    have h2 := (h q (List.mem_cons_self ..)).1
    have e1 : tot (q :: ys) = q.2.2 + tot ys := by simp [tot]
    rw [e1, List.length_cons]; omega

theorem fits_snoc {ps : List (Int × Nat × Nat)} (h : Fits ps) (q : Int × Nat × Nat) (hq : q.2.2 ≤ 32 ∧ q.2.1 < 2 ^ q.2.2) : Fits (ps ++ [q]) := by
  intro r hr
  rcases List.mem_append.1 hr with hr | hr
  · exact h r hr
  · rw [List.mem_singleton.1 hr]; exact hq

theorem tot_snoc (ps : List (Int × Nat × Nat)) (q : Int × Nat × Nat) : tot (ps ++ [q]) = tot ps + q.2.2 := by simp [tot]
theorem val_snoc (ps : List (Int × Nat × Nat)) (q : Int × Nat × Nat) : val (ps ++ [q]) = val ps * 2 ^ q.2.2 + q.2.1 := by rw [val_append]; simp [tot, val]
theorem opCells_snoc (ps : List (Int × Nat × Nat)) (q : Int × Nat × Nat) : opCells (ps ++ [q]) = opCells ps ++ [.int .i64 q.1, .int .i64 (q.2.1 : Int), .int .i64 (q.2.2 : Int)] := by simp [opCells]
theorem opCells_length (ps : List (Int × Nat × Nat)) : (opCells ps).length = ps.length * 3 := by
  induction ps with
  | nil => rfl
  | cons q ys ih => simp only [opCells, List.flatMap_cons, List.length_append, List.length_cons, List.length_nil] at ih ⊢; omega

theorem opCells_get (xs : List (Int × Nat × Nat)) (q : Int × Nat × Nat) (ys : List (Int × Nat × Nat)) (j : Nat) (hj : j < 3) : (opCells (xs ++ q :: ys))[xs.length * 3 + j]? = [Value.int .i64 q.1, .int .i64 (q.2.1 : Int), .int .i64 (q.2.2 : Int)][j]? := by
  have e : opCells (xs ++ q :: ys) = opCells xs ++ ([Value.int .i64 q.1, .int .i64 (q.2.1 : Int), .int .i64 (q.2.2 : Int)] ++ opCells ys) := by simp [opCells]
  rw [e, List.getElem?_append_right (by rw [opCells_length]; omega), opCells_length, Nat.add_sub_cancel_left, List.getElem?_append_left (by simpa using hj)]

/-- What is read of all that was put, at the place of one of them. -/
theorem num_back (xs : List (Int × Nat × Nat)) (q : Int × Nat × Nat) (ys : List (Int × Nat × Nat)) (h : Fits (xs ++ q :: ys)) : num (packB (val (xs ++ q :: ys)) (tot (xs ++ q :: ys))) (tot xs) q.2.2 = q.2.1 := by
  have hq := h q (by simp)
  have hy : Fits ys := fun r hr => h r (by simp [hr])
  have e : tot (xs ++ q :: ys) = tot xs + q.2.2 + tot ys := by simp [tot]; omega
  have ev : val (xs ++ q :: ys) = (val xs * 2 ^ q.2.2 + q.2.1) * 2 ^ tot ys + val ys := by
    rw [show xs ++ q :: ys = (xs ++ [q]) ++ ys by simp, val_append, val_snoc]
  have hl := val_lt _ h
  rw [num_packB _ _ (tot xs) q.2.2 (tot ys) hl (by rw [e]), ev, Nat.mul_comm, Nat.mul_add_div (Nat.two_pow_pos _), Nat.div_eq_of_lt (val_lt ys hy), Nat.add_zero, Nat.mul_comm, Nat.mul_add_mod, Nat.mod_eq_of_lt hq.2]


end Go.Proofs.Ytlnhfdcmnlinkaa
