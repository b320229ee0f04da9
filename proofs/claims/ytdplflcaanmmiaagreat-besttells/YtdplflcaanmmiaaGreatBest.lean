/-
  Rows of best's steps: two cells each; append. Contract of package best: choose. Rows of steps, one for each place, in a row of the call's own. Contract of package best: behind. Contract of package best: steps. Contracts of package best: cheapest, Parse, Costs.
-/
import Derived.Test.YtdplflcaanmmiaaGreatHitRows
import Derived.Test.YtdplflcaanmmiaaGreatCosts
import Derived.Test.YtdplflcaanmmiaaGreatBestM
import Derived.Test.YtdplflcaanmmiaaGreatHit
import Derived.Test.YtdplflcaanmmiaaGreatHitWords
import Derived.Test.YtdplflcaanmmiaaGreatRefStands
import Derived.IntWalk
import Derived.Test.YtdplflcaanmmiaaGreatInts
namespace Go.Proofs.YtdplflcaanmmiaaGreat
open Go.ChangeShapes Go.WideShapes Go.ChangeAt Go.RowKit

theorem Tryz.infoSteps : (Tryz.prog.info? 95).map (fun i => (i.zero, i.size, i.bytes)) = some (some (.agg #[.int .i64 0, .int .i64 0]), 2, 16) := by kernel_rfl

theorem ownsRow_readsSteps {w : World} {base : Nat} {v : Value} {n : Nat} {xs : List (Int × Int)} (h : w.ownsRow base 95 2 v n (hcells xs)) : ReadsH w v xs := by
  have hl : xs.length = n := by have := h.1; rw [hcells_length] at this; omega
  rcases h.2 with ⟨rfl, rfl⟩ | ⟨g, cap, cur, rfl, hb, hg, hnc, hcm, hcs, ht⟩
  · exact ⟨none, 0, by rw [hl], .inl hl⟩
  · refine ⟨_, cap, by rw [hl], .inr ⟨g, 0, rfl, (Array.getElem?_eq_some_iff.1 hg).1, fun i hi => ?_⟩⟩
    have h2 := hcells_at xs i hi
    rw [Nat.zero_add, ← h2.1, ← h2.2]
    exact ⟨World.ownsRow.cellAt h (i * 2) (by omega), World.ownsRow.cellAt h (i * 2 + 1) (by omega)⟩

/-- Appending hits that can be read. -/
theorem run_append_steps (w : World) (ty : TypeId) (base : Nat) (v : Value) (n : Nat) (xs : List (Int × Int)) (hown : w.ownsRow base 95 2 v n (hcells xs))
    (u : Value) (ys : List (Int × Int)) (hu : ReadsH w u ys) (h63 : n + ys.length ≤ 1000000) (hbase : base ≤ w.heap.size) :
    ∃ v' w', (Builtin.append_ #[93, 93] ty #[v, u]).run Tryz.prog w = .ok v' w' ∧
      w'.ownsRow base 95 2 v' (n + ys.length) (hcells (xs ++ ys)) ∧ w.grownBy w' v.ownBlock ∧ (v'.ownBlock = v.ownBlock ∨ v'.ownBlock = some w.heap.size) ∧ w'.ownsRow base 95 2 v n (hcells xs) := by
  obtain ⟨i0, hi0, hz0, hz1, hz2⟩ := info_parts Tryz.infoSteps
  obtain ⟨a, c, rfl, hr⟩ := hu
  by_cases h0 : ys.length = 0
  · have hn : ys = [] := List.eq_nil_of_length_eq_zero h0
    subst hn
    refine ⟨v, w, run_append_zero (P := Tryz.prog) w _ ty base 95 i0 2 Tryz.underlying93 hi0 v n (hcells xs) hown a c, ?_, ⟨rfl, rfl, rfl, Nat.le_refl _, fun _ _ _ => rfl⟩, .inl rfl, hown⟩
    rw [List.append_nil]
    exact hown
  · rcases hr with hr | ⟨b, off, rfl, hlt, hc⟩
    · exact absurd hr h0
    · obtain ⟨g, cap, w', h2, h3, h4, h5, h6, h7⟩ := run_append_keeps (P := Tryz.prog) w 93 ty base 95 i0 (.agg #[.int .i64 0, .int .i64 0]) 2 16 Tryz.underlying93 hi0 hz0 hz1 hz2 rfl (by decide) v n (hcells xs) hown ⟨b, off, none⟩ ys.length c (hcells ys) (hcells_length ys) (hits_cells hc) (hcells_one ys) (by omega) (by unfold maxLen; omega) (by omega) hbase
      rw [hcells_append] at h3
      refine ⟨_, w', h2, h3, h4, ?_, h7⟩
      rcases h5 with h5 | h5
      · exact .inl (by rw [h5]; rfl)
      · exact .inr (by rw [h5]; rfl)

theorem wpList_append_steps {ops : Array Oper} {rest : List Oper} {o : Oper} {a : Act} {Q : Exit → Act → World → Prop} (w : World) (hgd : o.guard = none) (s x : Operand)
    (ho : o.op = .call { callee := .builtin .append, args := #[s, x], argTypes := #[93, 93] })
    (base : Nat) (v : Value) (n : Nat) (xs : List (Int × Int)) (hs : a.eval s = v) (hown : w.ownsRow base 95 2 v n (hcells xs))
    (u : Value) (ys : List (Int × Int)) (hx : a.eval x = u) (hu : ReadsH w u ys) (h63 : n + ys.length ≤ 1000000) (hbase : base ≤ w.heap.size)
    (h : ∀ v' w', w'.ownsRow base 95 2 v' (n + ys.length) (hcells (xs ++ ys)) → w.grownBy w' v.ownBlock → (v'.ownBlock = v.ownBlock ∨ v'.ownBlock = some w.heap.size) → w'.ownsRow base 95 2 v n (hcells xs) → wpList Tryz.prog ops Q rest (a.put o.dst v') w') : wpList Tryz.prog ops Q (o :: rest) a w := by
  obtain ⟨v', w', hr, h2, h3, h4, h5⟩ := run_append_steps w o.type base v n xs hown u ys hu h63 hbase
  refine wpList_plain hgd fun K hK => ?_
  unfold Oper.wp execOp
  simp only [ho, resolve, invoke, builtin, Sem.run_bind, Sem.run_pure, Result.andThen_ok, List.map_toArray, List.map_cons, List.map_nil, hs, hx, hr]
  exact hK _ _ (h v' w' h2 h3 h4 h5)

/-- append of hits, at a step of a region that draws its order. -/
theorem step_append_steps {ops : Array Oper} {o : Oper} {a : Act} {K : Act → World → Prop} {Q : Exit → Act → World → Prop} {E : Prop} (w : World) (hgd : o.guard = none) (s x : Operand)
    (ho : o.op = .call { callee := .builtin .append, args := #[s, x], argTypes := #[93, 93] })
    (base : Nat) (v : Value) (n : Nat) (xs : List (Int × Int)) (hs : a.eval s = v) (hown : w.ownsRow base 95 2 v n (hcells xs))
    (u : Value) (ys : List (Int × Int)) (hx : a.eval x = u) (hu : ReadsH w u ys) (h63 : n + ys.length ≤ 1000000) (hbase : base ≤ w.heap.size)
    (h : ∀ v' w', w'.ownsRow base 95 2 v' (n + ys.length) (hcells (xs ++ ys)) → w.grownBy w' v.ownBlock → (v'.ownBlock = v.ownBlock ∨ v'.ownBlock = some w.heap.size) → w'.ownsRow base 95 2 v n (hcells xs) → K (a.put o.dst v') w') :
    if Region.wanted o (yielded ops a.tmps) = true then Oper.wp Tryz.prog o a w K Q else E := by
  have hw : Region.wanted o (yielded ops a.tmps) = true := by simp [Region.wanted, hgd]
  rw [if_pos hw]
  obtain ⟨v', w', hr, h2, h3, h4, h5⟩ := run_append_steps w o.type base v n xs hown u ys hu h63 hbase
  unfold Oper.wp execOp
  simp only [ho, resolve, invoke, builtin, Sem.run_bind, Sem.run_pure, Result.andThen_ok, List.map_toArray, List.map_cons, List.map_nil, hs, hx, hr]
  exact h v' w' h2 h3 h4 h5

end Go.Proofs.YtdplflcaanmmiaaGreat

namespace Go.Proofs.YtdplflcaanmmiaaGreat
open Go.ChangeShapes Go.WideShapes Go.ChangeAt Go.RowKit

/-- A cost as a value; costs as cells. -/
def cN (c : Nat × Nat) : Value := .complex .f64 (fN c.1) (fN c.2)
def cNs (cs : List (Nat × Nat)) : List Value := cs.map cN
theorem cNs_length (cs : List (Nat × Nat)) : (cNs cs).length = cs.length := by simp [cNs]
theorem cNs_at (cs : List (Nat × Nat)) (i : Nat) (h : i < cs.length) : (cNs cs)[i]? = some (cN (cs[i]'h)) := by simp [cNs, h]
theorem cNs_one (cs : List (Nat × Nat)) : ∀ u ∈ cNs cs, u.oneCell' = true := by
  intro u hu
  simp only [cNs, List.mem_map] at hu
  obtain ⟨x, _, rfl⟩ := hu
  rfl

/-- Steps as pairs of numbers. -/
def asP (S : List (Nat × Nat)) : List (Int × Int) := S.map (fun h => ((h.1 : Int), (h.2 : Int)))
theorem asP_length (S : List (Nat × Nat)) : (asP S).length = S.length := by simp [asP]
theorem asP_at (S : List (Nat × Nat)) (i : Nat) (h : i < S.length) (h2 : i < (asP S).length) : (asP S)[i]'h2 = (((S[i]'h).1 : Int), ((S[i]'h).2 : Int)) := by simp [asP]
theorem asP_append (S T : List (Nat × Nat)) : asP (S ++ T) = asP S ++ asP T := by simp [asP]

/-- What each of the steps costs that doesn't lead out of the piece, with what is behind it. -/
def candT (cs S : List (Nat × Nat)) : List ((Nat × Nat) × (Nat × Nat)) := (S.filter (fun h => decide (h.2 < cs.length))).map (fun h => (h, add2 (bt (h.1 : Int)) (cs.getD h.2 (0, 0))))
theorem candT_out (cs S : List (Nat × Nat)) (h : Nat × Nat) (hh : cs.length ≤ h.2) : candT cs (S ++ [h]) = candT cs S := by
  unfold candT
  rw [List.filter_append, List.filter_cons_of_neg (by simp; exact hh), List.filter_nil, List.append_nil]
theorem candT_in (cs S : List (Nat × Nat)) (h : Nat × Nat) (hh : h.2 < cs.length) : candT cs (S ++ [h]) = candT cs S ++ [(h, add2 (bt (h.1 : Int)) (cs[h.2]'hh))] := by
  unfold candT
  rw [List.filter_append, List.filter_cons_of_pos (by simp; exact hh), List.filter_nil, List.map_append, List.map_cons, List.map_nil]
  simp [List.getD, hh]

abbrev bigN : Nat := 1099511627776

/-- The choice so far. -/
def chX (cs S : List (Nat × Nat)) : (Nat × Nat) × (Nat × Nat) := pickT ((0, 0), (bigN, bigN)) (candT cs S)

theorem chX_small (cs S : List (Nat × Nat)) (hc : ∀ c ∈ cs, c.1 ≤ 1000000 ∧ c.2 ≤ 100000000) : (chX cs S).2.1 ≤ bigN ∧ (chX cs S).2.2 ≤ bigN := by
  unfold chX
  have h2 : ∀ x ∈ candT cs S, x.2.1 ≤ bigN ∧ x.2.2 ≤ bigN := by
    intro x hx
    unfold candT at hx
    obtain ⟨h, hh, rfl⟩ := List.mem_map.1 hx
    have h3 := (List.mem_filter.1 hh).2
    simp only [decide_eq_true_eq] at h3
    have h4 := hc _ (List.getElem_mem h3)
    have h5 := bt_le (h.1 : Int)
    simp only [List.getD, List.getElem?_eq_getElem h3, Option.getD_some, add2, bigN]
    omega
  generalize candT cs S = l at h2
  have h0 : (((0, 0), (bigN, bigN)) : (Nat × Nat) × (Nat × Nat)).2.1 ≤ bigN ∧ (((0, 0), (bigN, bigN)) : (Nat × Nat) × (Nat × Nat)).2.2 ≤ bigN := ⟨Nat.le_refl _, Nat.le_refl _⟩
  generalize (((0, 0), (bigN, bigN)) : (Nat × Nat) × (Nat × Nat)) = c at h0
  induction l generalizing c with
  | nil => exact h0
  | cons x l ih =>
    rw [pickT]
    refine ih (fun y hy => h2 y (List.mem_cons_of_mem _ hy)) _ ?_
    split
    · exact h2 x (by simp)
    · exact h0

/-- A token's bits, of a number. -/
def bB (t : Nat) : Nat := bt (t : Int)
theorem bB_le (t : Nat) : bB t ≤ 40 := bt_le _

/-- What all behind each place of x costs; what x costs; the first of the tokens that keep it; all tokens; by windows of n bytes. -/
def bCs (L : List ByteArray) (x : List Nat) : List (Nat × Nat) := costsT (L.map nums) 40 bB bigN x
def bC (L : List ByteArray) (x : List Nat) : Nat × Nat := costT (L.map nums) 40 bB bigN x
def bK (L : List ByteArray) (x : List Nat) : Nat × Nat := keepT (L.map nums) 40 bB bigN x
def bA (L : List ByteArray) (x : List Nat) : List Nat := bestT (L.map nums) 40 bB bigN x
def bW (L : List ByteArray) (n : Nat) (x : List Nat) : List Nat := winT (L.map nums) 40 bB bigN n x
def bS (L : List ByteArray) (x : List Nat) : List (Nat × Nat) := chT (L.map nums) 40 x

theorem bCs_length (L : List ByteArray) (x : List Nat) : (bCs L x).length = x.length + 1 := costsT_length _ _ _ _ _
theorem bCs_at (L : List ByteArray) (x : List Nat) (k : Nat) (hk : k ≤ x.length) : (bCs L x).getD k (0, 0) = bC L (x.drop k) := costsT_at _ _ _ _ _ _ hk
theorem bCs_drop (L : List ByteArray) (x : List Nat) (k : Nat) (hk : k ≤ x.length) : (bCs L x).drop k = bCs L (x.drop k) := costsT_drop _ _ _ _ _ _ hk

/-- A text of bytes, none too long. -/
def Txt (x : List Nat) : Prop := (∀ c ∈ x, c < 256) ∧ x.length ≤ 1000
theorem Txt.drop {x : List Nat} (h : Txt x) (k : Nat) : Txt (x.drop k) := ⟨fun c hc => h.1 c (List.mem_of_mem_drop hc), by have := h.2; rw [List.length_drop]; omega⟩
theorem Txt.take {x : List Nat} (h : Txt x) (k : Nat) : Txt (x.take k) := ⟨fun c hc => h.1 c (List.mem_of_mem_take hc), by have := h.2; rw [List.length_take]; omega⟩
theorem Txt.big {x : List Nat} (h : Txt x) : x.length < bigN := by have := h.2; unfold bigN; omega
theorem txt_nums (b : ByteArray) (h : b.size ≤ 1000) : Txt (nums b) := ⟨nums_byte b, by rw [nums_length]; exact h⟩

theorem bC_small {L : List ByteArray} (hP : ∀ s ∈ L.map nums, s.length ≤ 40) {x : List Nat} (h : Txt x) : (bC L x).1 ≤ x.length ∧ (bC L x).2 ≤ 40 * x.length :=
  ⟨costT_few _ 40 hP bB bigN x h.1, costT_bits _ 40 hP bB bigN 40 bB_le x.length x (Nat.le_refl _) h.1 h.big⟩

theorem bCs_small {L : List ByteArray} (hP : ∀ s ∈ L.map nums, s.length ≤ 40) {x : List Nat} (h : Txt x) : ∀ c ∈ bCs L x, c.1 ≤ 1000 ∧ c.2 ≤ 40000 := by
  intro c hc
  obtain ⟨k, hk, e⟩ := List.mem_iff_getElem.1 hc
  have hk2 : k ≤ x.length := by rw [bCs_length] at hk; omega
  have h1 := bCs_at L x k hk2
  rw [List.getD_eq_getElem?_getD, List.getElem?_eq_getElem hk, Option.getD_some, e] at h1
  have h2 := bC_small hP (h.drop k)
  have h3 := (h.drop k).2
  rw [h1]
  omega

theorem bS_small {L : List ByteArray} (hl : L.length ≤ 100) (hP : ∀ s ∈ L.map nums, s.length ≤ 40) {x : List Nat} (h : Txt x) (hx : x ≠ []) : ∀ c ∈ bS L x, c.1 < 1000 ∧ c.2 ≤ x.length ∧ 1 ≤ c.2 := by
  rintro ⟨t, n⟩ hc
  obtain ⟨h1, h2, h3, _⟩ := chT_mem (L.map nums) 40 hP x hx h.1 t n hc
  unfold isT at h3
  rw [List.length_map] at h3
  exact ⟨by show t < _; omega, h2, h1⟩

theorem bS_few {L : List ByteArray} (x : List Nat) : (bS L x).length ≤ 41 := by
  unfold bS chT standsT
  rw [List.length_append, List.length_map, List.length_singleton]
  have h1 := List.length_filter_le (fun n => decide (x.take n ∈ L.map nums)) ((List.range' 1 (min 40 x.length)).reverse)
  rw [List.length_reverse, List.length_range'] at h1
  omega

/-- The program's choice in a piece is the first token with which the least cost is kept. -/
theorem chX_is {L : List ByteArray} (hP : ∀ s ∈ L.map nums, s.length ≤ 40) {cs : List (Nat × Nat)} {z y : List Nat} (hz : Txt z) (hne : z ≠ []) (hzy : z = y.take z.length) (hl : cs.length = z.length + 1) (hc : ∀ j, 1 ≤ j → j ≤ z.length → cs.getD j (0, 0) = bC L (z.drop j)) : chX cs (bS L y) = (bK L z, bC L z) := by
  have h0 : 1 ≤ z.length := List.length_pos_iff.2 hne
  have h1 := pickX_is (L.map nums) 40 hP bB bigN z hne hz.1 hz.big
  unfold bK bC
  rw [← h1]
  unfold chX candT pickX bS
  congr 1
  have e1 : (chT (L.map nums) 40 y).filter (fun h => decide (h.2 < cs.length)) = chT (L.map nums) 40 z := by
    rw [show chT (L.map nums) 40 z = chT (L.map nums) 40 (y.take z.length) from congrArg _ hzy, ← chT_take (L.map nums) 40 hP y z.length h0]
    refine List.filter_congr (fun h _ => ?_)
    rw [hl]
    exact decide_eq_decide.2 (by omega)
  rw [e1]
  refine List.map_congr_left (fun h hh => ?_)
  have h2 := chT_mem (L.map nums) 40 hP z hne hz.1 h.1 h.2 hh
  rw [hc h.2 h2.1 h2.2.1]
  rfl

theorem hit_cells2 {w : World} {p : Nat} {a b : Value} {t : TypeId} (h : w.heap[p]? = some (.cells #[a, b] t (0, 0))) : w.cell? ⟨p, 0, none⟩ = some a ∧ w.cell? ⟨p, 1, none⟩ = some b := by
  simp [World.cell?, h]

theorem hit_frozen {w : World} {p : Nat} {a b : Value} {t : TypeId} (h : w.heap[p]? = some (.cells #[a, b] t (0, 0))) (i : Nat) : w.frozen? ⟨p, i, none⟩ = false := by
  simp [World.frozen?, h]

/-- A pair is written over. -/
theorem pair_set {w : World} {p : Nat} {a b c d : Value} {t : TypeId} (h : w.heap[p]? = some (.cells #[a, b] t (0, 0))) : ((w.setCell ⟨p, 0, none⟩ c).setCell ⟨p, 1, none⟩ d).heap[p]? = some (.cells #[c, d] t (0, 0)) := by
  simp only [World.setCell, Array.getElem?_modify, if_true, h, Option.map_some]
  rfl

theorem pair_set_other {w : World} {p q : Nat} {c d : Value} (h : q ≠ p) : ((w.setCell ⟨p, 0, none⟩ c).setCell ⟨p, 1, none⟩ d).heap[q]? = w.heap[q]? := by
  rw [Below.heap_setCell _ _ _ _ h, Below.heap_setCell _ _ _ _ h]

theorem pair_set_below {w0 w : World} {B p : Nat} {c d : Value} (h : Below B w0 w) (hp : B ≤ p) : Below B w0 ((w.setCell ⟨p, 0, none⟩ c).setCell ⟨p, 1, none⟩ d) := (h.setCell (p := ⟨p, 0, none⟩) hp c).setCell (p := ⟨p, 1, none⟩) hp d

theorem readsH_asP {w : World} {v : Value} {S : List (Nat × Nat)} (h : ReadsH w v (asP S)) : ∃ a cap m, v = .slice a m cap ∧ m = S.length ∧ (m = 0 ∨ ∃ b off, a = some ⟨b, off, none⟩ ∧ b < w.heap.size ∧ ∀ i (hi : i < S.length), w.cell? ⟨b, off + i * 2, none⟩ = some (.int .i64 ((S[i]'hi).1 : Int)) ∧ w.cell? ⟨b, off + i * 2 + 1, none⟩ = some (.int .i64 ((S[i]'hi).2 : Int))) := by
  obtain ⟨a, cap, rfl, h⟩ := h
  refine ⟨a, cap, _, rfl, asP_length S, h.imp id ?_⟩
  rintro ⟨b, off, rfl, hlt, hc⟩
  refine ⟨b, off, rfl, hlt, fun i hi => ?_⟩
  have h1 := hc i (by rw [asP_length]; exact hi)
  rw [asP_at S i hi] at h1
  exact h1

set_option maxRecDepth 20000 in
set_option maxHeartbeats 4000000 in
theorem choose_any {w : World} {v u : Value} {S cs : List (Nat × Nat)} (hv : ReadsH w v (asP S)) (hu : Reads w u (cNs cs)) (hS : S.length ≤ 1000) (hs : ∀ h ∈ S, h.1 < 1000000 ∧ h.2 ≤ 1000000) (hc : ∀ c ∈ cs, c.1 ≤ 1000000 ∧ c.2 ≤ 100000000) :
    Calls Tryz.prog 60 #[v, u] w fun e w' => e = .returned (.tuple #[.agg #[.int .i64 ((chX cs S).1.1 : Nat), .int .i64 ((chX cs S).1.2 : Nat)], cN (chX cs S).2]) ∧ Below w.heap.size w w' := by
  have HCS := hid (fun T => chX_small cs T hc)
  obtain ⟨a, ca, m, rfl, hm, ha⟩ := readsH_asP hv
  clear hv
  obtain ⟨b, cb, rfl, hb⟩ := hu
  rw [cNs_length] at *
  obtain ⟨n, hn⟩ : ∃ n, n = cs.length := ⟨_, rfl⟩
  rw [← hm] at hS
  have HA := hid ha
  have HB := hid hb
  have HS := hid hs
  have HC := hid hc
  have HM := hid hm
  have HN := hid hn
  rw [← hn] at HB ⊢
  clear hm hn ha hb hs hc
  go_enter Tryz.func60, Tryz.ntmps60
  go_wp2_with (go_at_call 87; refine (most_any _).mono ?_; rintro e w1 ⟨rfl, rfl⟩)
  have hb0 : Below w.heap.size w ((w.alloc (.cells #[.int .i64 0, .int .i64 0] 95)).alloc (.cells #[.int .i64 0, .int .i64 0] 95)) := ((Below.refl _ _).alloc (Nat.le_refl _) _).alloc (by simp) _
  have h4 : ((w.alloc (.cells #[.int .i64 0, .int .i64 0] 95)).alloc (.cells #[.int .i64 0, .int .i64 0] 95)).heap[w.heap.size]? = some (.cells #[.int .i64 0, .int .i64 0] 95 (0, 0)) := by
    rw [Below.heap_alloc _ _ _ (by simp)]
    exact heap_alloc_new w _
  have h6 : ((w.alloc (.cells #[.int .i64 0, .int .i64 0] 95)).alloc (.cells #[.int .i64 0, .int .i64 0] 95)).heap[w.heap.size + 1]? = some (.cells #[.int .i64 0, .int .i64 0] 95 (0, 0)) := by
    have := heap_alloc_new (w.alloc (.cells #[.int .i64 0, .int .i64 0] 95)) (.cells #[.int .i64 0, .int .i64 0] 95)
    simpa using this
  obtain ⟨p6, hp6⟩ : ∃ p6, p6 = w.heap.size + 1 := ⟨_, rfl⟩
  rw [← hp6] at h6 ⊢
  have HP := hid hp6
  clear hp6
  generalize ((w.alloc (.cells #[.int .i64 0, .int .i64 0] 95)).alloc (.cells #[.int .i64 0, .int .i64 0] 95)) = w0 at hb0 h4 h6 ⊢
  go_loopw [7, 14] (fun vc vi wr => ∃ i t s x y : Nat, vi = .int .i64 i ∧ vc = .complex .f64 (fN x) (fN y) ∧ i ≤ m ∧ Hid (chX cs (S.take i) = ((t, s), (x, y))) ∧ Hid (wr.heap[w.heap.size]? = some (.cells #[.int .i64 0, .int .i64 0] 95 (0, 0))) ∧ Hid (wr.heap[p6]? = some (.cells #[.int .i64 (t : Int), .int .i64 (s : Int)] 95 (0, 0))) ∧ Hid (Below w.heap.size w wr)) (fun _ vi _ => m - (intOf vi).toNat)
  case atStart => exact ⟨0, 0, 0, bigN, bigN, rfl, rfl, by omega, rfl, h4, h6, hb0⟩
  case round =>
    clear h4 h6 hb0
    obtain ⟨i, t, s, x, y, rfl, rfl, hi, hpk, h4, h6, hB⟩ := hrel
    have hxy : x < 9007199254740992 ∧ y < 9007199254740992 := by
      have := HCS.out (S.take i)
      rw [hpk.out] at this
      simp only [bigN] at this
      omega
    by_cases hin : i < m
    · rcases HA.out with h0 | ⟨gb, o, rfl, hgb, hcell⟩
      · omega
      have hiS : i < S.length := by rw [← HM.out]; exact hin
      obtain ⟨hc0, hc1⟩ := hcell i hiS
      have hcb0 := (hB.out.cell (p := ⟨gb, o + i * 2, none⟩) hgb).trans hc0
      have hcb1 := (hB.out.cell (p := ⟨gb, o + i * 2 + 1, none⟩) hgb).trans hc1
      clear hcell hc0 hc1
      obtain ⟨T, Z, hTZ⟩ : ∃ T Z, S[i]'hiS = (T, Z) := ⟨_, _, rfl⟩
      rw [hTZ] at hcb0 hcb1
      dsimp only at hcb0 hcb1
      have hsm := HS.out _ (List.getElem_mem hiS)
      rw [hTZ] at hsm
      dsimp only at hsm
      have HTK : Hid (S.take (i + 1) = S.take i ++ [(T, Z)]) := by show _ = _; rw [List.take_succ_eq_append_getElem hiS, hTZ]
      have hx' : (decide ((0 : Int) ≤ (i : Int) ∧ (i : Int) < (m : Int))) = true := decide_eq_true ⟨by omega, by omega⟩
      clear hTZ
      have hw1 : Below wr.heap.size wr (wr.alloc (.cells #[.int .i64 (T : Int), .int .i64 (Z : Int)] 95)) := (Below.refl _ _).alloc (Nat.le_refl _) _
      have HB1 := hid (below_more hB.out hw1)
      have l4 : w.heap.size < wr.heap.size := (Array.getElem?_eq_some_iff.1 h4.out).1
      have l6 : p6 < wr.heap.size := (Array.getElem?_eq_some_iff.1 h6.out).1
      have H41 := hid ((hw1.block _ l4).trans h4.out)
      have H61 := hid ((hw1.block _ l6).trans h6.out)
      obtain ⟨c90, c91⟩ := hit_cells2 (heap_alloc_new wr (.cells #[.int .i64 (T : Int), .int .i64 (Z : Int)] 95))
      clear hw1
      by_cases hZn : n ≤ Z
      · have hge : decide ((n : Int) ≤ (Z : Int)) = true := decide_eq_true (by omega)
        clear c90 c91
        go_wp2
        go_roundw
        case rel => exact ⟨i + 1, t, s, x, y, by go_num, rfl, by omega, by show _ = _; rw [HTK.out, ← hpk.out]; unfold chX; rw [candT_out cs _ (T, Z) (by show _ ≤ Z; rw [← HN.out]; exact hZn)], H41.out, H61.out, HB1.out⟩
        case measure => simp [intOf]; omega
      · have hge : decide ((n : Int) ≤ (Z : Int)) = false := decide_eq_false (by omega)
        rcases HB.out with h0 | ⟨gc, off, rfl, hgc, hcell⟩
        · omega
        have hZc : Z < cs.length := by rw [← HN.out]; omega
        have hcc := ((HB1.out.cell (p := ⟨gc, off + Z, none⟩) hgc).trans (hcell Z (by omega))).trans (cNs_at cs Z hZc)
        have hcm := HC.out _ (List.getElem_mem hZc)
        have HTK2 := hid (candT_in cs (S.take i) (T, Z) hZc)
        dsimp only at HTK2
        obtain ⟨⟨p, q⟩, hpq⟩ : ∃ d, d = cs[Z]'hZc := ⟨_, rfl⟩
        rw [← hpq] at hcc hcm HTK2
        dsimp only [cN] at hcc hcm
        have hb1 := bt_le (T : Int)
        have hk1 := tk_in T (by omega)
        have hadd := fun (K : TypeId) (W : World) => run_complex_sum (P := Tryz.prog) W .add (Or.inl rfl) K .f64 (fN 1) (fN (bt (T : Int))) (fN p) (fN q) _ _ (cadd_fN 1 (bt (T : Int)) p q (by omega) (by omega))
        have hxz : (decide ((0 : Int) ≤ (Z : Int) ∧ (Z : Int) < (n : Int))) = true := decide_eq_true ⟨by omega, by omega⟩
        have hof := fun W => of_any (T : Int) W
        rw [hk1] at hof
        have HOF := hid hof
        clear hcell hpq hof
        go_wp2
        go_quiet ((go_at_call 54; exact Calls.quiet_of_same (HOF.out _)))
        have hw5 := drewN_below (wr.alloc (.cells #[.int .i64 (T : Int), .int .i64 (Z : Int)] 95)) nq (wr.alloc (.cells #[.int .i64 (T : Int), .int .i64 (Z : Int)] 95)).heap.size
        have HB5 := hid (below_more HB1.out hw5)
        have H45 := hid ((hw5.block _ (by simp; omega)).trans H41.out)
        have H65 := hid ((hw5.block _ (by simp; omega)).trans H61.out)
        have H95 := hid ((hw5.block _ (by simp)).trans (heap_alloc_new wr (.cells #[.int .i64 (T : Int), .int .i64 (Z : Int)] 95)))
        have HNE : Hid (p6 ≠ wr.heap.size ∧ w.heap.size ≠ p6) := ⟨by omega, by have := HP.out; omega⟩
        have HP6 : Hid (w.heap.size ≤ p6) := by have := HP.out; show _ ≤ _; omega
        clear c90 c91 hw5 H41 H61 HB1 hcc h4 h6 hB
        generalize (wr.alloc (.cells #[.int .i64 (T : Int), .int .i64 (Z : Int)] 95)).drewN nq = w5 at HB5 H45 H65 H95 ⊢
        obtain ⟨c90, c91⟩ := hit_cells2 H95.out
        obtain ⟨c60, c61⟩ := hit_cells2 H65.out
        have f60 := hit_frozen H65.out 0
        have f61 := hit_frozen H65.out 1
        have hpi : Hid (chX cs (S.take (i + 1)) = if lt2 (1 + p, bt (T : Int) + q) (x, y) then ((T, Z), (1 + p, bt (T : Int) + q)) else ((t, s), (x, y))) := by
          show _ = _
          rw [HTK.out]
          have h1 := hpk.out
          unfold chX at h1 ⊢
          rw [HTK2.out, pickT_snoc, h1]
          rfl
        by_cases hlt : lt2 (1 + p, bt (T : Int) + q) (x, y)
        · have hpi2 : Hid (chX cs (S.take (i + 1)) = ((T, Z), (1 + p, bt (T : Int) + q))) := by show _ = _; rw [hpi.out, if_pos hlt]
          have hdl : decide (1 + p < x ∨ 1 + p = x ∧ bt (T : Int) + q < y) = true := decide_eq_true hlt
          clear hpi
          go_wp2_with (go_at_call 21; refine (less_in (1 + p) (bt (T : Int) + q) x y (by omega) (by omega) (by omega) (by omega) _).mono ?_; rintro e w6 ⟨rfl, rfl⟩; rw [hdl])
          go_roundw
          case rel => exact ⟨i + 1, T, Z, 1 + p, bt (T : Int) + q, by go_num, rfl, by omega, hpi2.out, (pair_set_other HNE.out.2).trans H45.out, pair_set H65.out, pair_set_below HB5.out HP6.out⟩
          case measure => simp [intOf]; omega
        · have hpi2 : Hid (chX cs (S.take (i + 1)) = ((t, s), (x, y))) := by show _ = _; rw [hpi.out, if_neg hlt]
          have hdl : decide (1 + p < x ∨ 1 + p = x ∧ bt (T : Int) + q < y) = false := decide_eq_false hlt
          clear hpi
          go_wp2_with (go_at_call 21; refine (less_in (1 + p) (bt (T : Int) + q) x y (by omega) (by omega) (by omega) (by omega) _).mono ?_; rintro e w6 ⟨rfl, rfl⟩; rw [hdl])
          go_roundw
          case rel => exact ⟨i + 1, t, s, x, y, by go_num, rfl, by omega, hpi2.out, H45.out, H65.out, HB5.out⟩
          case measure => simp [intOf]; omega
    · obtain rfl : i = m := by omega
      obtain ⟨c60, c61⟩ := hit_cells2 h6.out
      obtain ⟨c40, c41⟩ := hit_cells2 h4.out
      have f40 := hit_frozen h4.out 0
      have f41 := hit_frozen h4.out 1
      have hfin := hpk.out
      rw [List.take_of_length_le (by rw [← HM.out]; exact Nat.le_refl _)] at hfin
      have HFIN := hid hfin
      clear hfin
      have hp4 := pair_set (c := .int .i64 (t : Int)) (d := .int .i64 (s : Int)) h4.out
      obtain ⟨d40, d41⟩ := hit_cells2 hp4
      go_wp2
      refine bodyPost_ret (v := .tuple #[.agg #[.int .i64 (t : Int), .int .i64 (s : Int)], .complex .f64 (fN x) (fN y)]) (by simp [results, Tryz.results60, go_sem, d40, d41]) rfl ⟨?_, pair_set_below hB.out (Nat.le_refl _)⟩
      rw [HFIN.out]
      rfl
end Go.Proofs.YtdplflcaanmmiaaGreat

namespace Go.Proofs.YtdplflcaanmmiaaGreat
open Go.ChangeShapes Go.WideShapes Go.ChangeAt Go.RowKit

/-- Rows of steps, one for each of n places, in a row at block g; the rows all from block B on. -/
structure LotsS (w : World) (B g n : Nat) (V : Nat → Value) (C : Nat → List (Int × Int)) : Prop where
  row : w.rowIs g 93 n V
  each : ∀ k, k < n → w.ownsRow B 95 2 (V k) (C k).length (hcells (C k))
  apart : ∀ i j, i < n → j < n → i ≠ j → (V i).ownBlock = none ∨ (V i).ownBlock ≠ (V j).ownBlock

theorem LotsS.lt {w : World} {B g n : Nat} {V : Nat → Value} {C : Nat → List (Int × Int)} (h : LotsS w B g n V C) : g < w.heap.size := h.row.lt

theorem LotsS.below {w w' : World} {B g n : Nat} {V : Nat → Value} {C : Nat → List (Int × Int)} (h : LotsS w B g n V C) (hb : Below w.heap.size w w') : LotsS w' B g n V C :=
  ⟨h.row.of_block (hb.block g h.lt), fun k hk => ownsRow_below (h.each k hk) hb, h.apart⟩

theorem LotsS.lower {w : World} {B B' g n : Nat} {V : Nat → Value} {C : Nat → List (Int × Int)} (h : LotsS w B g n V C) (hB : B' ≤ B) : LotsS w B' g n V C :=
  ⟨h.row, fun k hk => ownsRow_lower (h.each k hk) hB, h.apart⟩

/-- What it is untouched by: a change of one block that lies below. -/
theorem LotsS.kept {w w' : World} {B g n q : Nat} {V : Nat → Value} {C : Nat → List (Int × Int)} (h : LotsS w B g n V C) (hk : Kept (· = q) w w') (hq : q < B) (hg : q ≠ g) : LotsS w' B g n V C :=
  ⟨h.row.of_block (hk.block g h.lt (Ne.symm hg)), fun k hk2 => ownsRow_same (h.each k hk2) (fun b hb => hk.block b ((h.each k hk2).lt b hb).2 (by have := ((h.each k hk2).lt b hb).1; omega)), h.apart⟩

/-- A row of numbers is not the row of rows. -/
theorem LotsS.ne {w : World} {B g n : Nat} {V : Nat → Value} {C : Nat → List (Int × Int)} (h : LotsS w B g n V C) {B' m : Nat} {v : Value} {xs : List Value} (hv : w.ownsRow B' 95 2 v m xs) : v.ownBlock ≠ some g := by
  intro e
  obtain ⟨_, cur, hc⟩ := ownsRow_block hv g e
  obtain ⟨c, hg, _⟩ := h.row
  rw [hc] at hg
  injection hg with hg
  injection hg with _ h2
  exact absurd h2 (by decide)

theorem lotsS_new (w : World) (B n : Nat) : LotsS (w.alloc (.cells (madeCells #[.slice none 0 0] n) 93)) B w.heap.size n (fun _ => .slice none 0 0) (fun _ => []) :=
  ⟨World.rowIs_made w (.slice none 0 0) n 93, fun _ _ => World.ownsRow_nil _ _ _ _, fun _ _ _ _ _ => .inl rfl⟩

/-- One number more at one place: the row of it has grown, and lies in its place. -/
theorem LotsS.push {w w1 : World} {B g n i g' c m : Nat} {x : Int × Int} {V : Nat → Value} {C : Nat → List (Int × Int)} (h : LotsS w B g n V C) (hi : i < n) (hm : m = (C i).length + 1) (hown : w1.ownsRow B 95 2 (.slice (some ⟨g', 0, none⟩) m c) m (hcells (C i) ++ hcells [x])) (hgrow : w.grownBy w1 (V i).ownBlock) (hat : (V i).ownBlock = some g' ∨ g' = w.heap.size) :
    LotsS (w1.setCell ⟨g, i, none⟩ (.slice (some ⟨g', 0, none⟩) m c)) B g n (put2 V i (.slice (some ⟨g', 0, none⟩) m c)) (put2 C i (C i ++ [x])) := by
  have hgg : w1.heap[g]? = w.heap[g]? := hgrow.block g h.lt (fun e => h.ne (h.each i hi) e.symm)
  have hr1 : w1.rowIs g 93 n V := h.row.of_block hgg
  have hne : g' ≠ g := by
    rcases hat with e | e
    · intro e2
      exact h.ne (h.each i hi) (by rw [e, e2])
    · intro e2
      have := h.lt
      omega
  have hoff : ∀ k, k < n → k ≠ i → ∀ b, (V k).ownBlock = some b → b < w.heap.size ∧ some b ≠ (V i).ownBlock ∧ b ≠ g := by
    intro k hk hki b hb
    refine ⟨((h.each k hk).lt b hb).2, ?_, ?_⟩
    · intro e
      rcases h.apart k i hk hi hki with e2 | e2
      · rw [e2] at hb; cases hb
      · exact e2 (hb.trans e)
    · rintro rfl
      exact h.ne (h.each k hk) hb
  refine ⟨?_, fun k hk => ?_, fun p q hp hq hpq => ?_⟩
  · exact (hr1.set i _).congr (fun k _ => rfl)
  · by_cases e : k = i
    · subst e
      rw [put2_at, put2_at]
      refine ownsRow_same ?_ (fun b hb => Below.heap_setCell _ _ _ _ (by
        injection hb with hb
        intro e2
        exact hne (hb.trans e2)))
      rw [List.length_append]
      have e2 : hcells (C k ++ [x]) = hcells (C k) ++ hcells [x] := (hcells_append _ _).symm
      rw [e2]
      rw [hm] at hown ⊢
      exact hown
    · rw [put2_else _ _ _ e, put2_else _ _ _ e]
      refine ownsRow_same (h.each k hk) (fun b hb => ?_)
      obtain ⟨h1, h2, h3⟩ := hoff k hk e b hb
      exact (Below.heap_setCell _ _ _ _ h3).trans (hgrow.block b h1 h2)
  · by_cases e1 : p = i
    · by_cases e2 : q = i
      · omega
      · subst e1
        rw [put2_at, put2_else _ _ _ e2]
        right
        intro e
        obtain ⟨h1, h2, h3⟩ := hoff q hq e2 g' e.symm
        rcases hat with e4 | e4
        · exact h2 e4.symm
        · omega
    · by_cases e2 : q = i
      · subst e2
        rw [put2_at, put2_else _ _ _ e1]
        rcases hvb : (V p).ownBlock with _ | b
        · exact .inl rfl
        · right
          intro e
          injection e with e
          obtain ⟨h1, h2, h3⟩ := hoff p hp e1 b hvb
          rcases hat with e4 | e4
          · exact h2 (by rw [e4, e])
          · have e5 : b = g' := e
            omega
      · rw [put2_else _ _ _ e1, put2_else _ _ _ e2]
        exact h.apart p q hp hq hpq

end Go.Proofs.YtdplflcaanmmiaaGreat

namespace Go.Proofs.YtdplflcaanmmiaaGreat
open Go.ChangeShapes Go.WideShapes Go.ChangeAt Go.RowKit

theorem Tryz.infoCx : (Tryz.prog.info? 43).map (fun i => (i.zero, i.size, i.bytes)) = some (some (.complex .f64 0 0), 1, 16) := by kernel_rfl
theorem Tryz.elemCx : Tryz.prog.underlying 29 = some (.slice (Tryz.prog.elem 29)) := by kernel_rfl
theorem Tryz.sizeCx (w : World) : (sizeOf (Tryz.prog.elem 29)).run Tryz.prog w = .ok 1 w := by kernel_rfl
theorem Tryz.elemSx : Tryz.prog.underlying 59 = some (.slice (Tryz.prog.elem 59)) := by kernel_rfl
theorem Tryz.sizeSx (w : World) : (sizeOf (Tryz.prog.elem 59)).run Tryz.prog w = .ok 1 w := by kernel_rfl

theorem Tryz.infoSteps2 : (Tryz.prog.info? 93).map (fun i => (i.zero, i.size, i.bytes)) = some (some (.slice none 0 0), 1, 24) := by kernel_rfl

@[go_sem] theorem store_complexX (P : Program) (a : Addr) (k : FloatKind) (x y : Nat) (m : Mode) (w : World) : (store a (.complex k x y) m).run P w = stored P w a (.complex k x y) m := run_store P w a _ m rfl

/-- Costs from a place on. -/
theorem slice_costs (g k N : Nat) (hk : k < N) (W : World) : (Instr.slice 29 (.slice (some ⟨g, 0, none⟩) N N) (some (.int .i64 (k : Int))) none none).run Tryz.prog W = .ok (.slice (some ⟨g, k, none⟩) (N - k) (N - k)) W := by
  rw [run_slice_l W _ _ N N Tryz.elemCx .i64 (k : Int) (by omega) (by omega), Tryz.sizeCx, Int.toNat_natCast]
  by_cases h0 : k = 0
  · subst h0
    simp [Result.andThen_ok, sliced, Addr.add]
  · simp [Result.andThen_ok, sliced, if_neg (show ¬ N = k by omega), Option.map_some, Addr.add, h0]

theorem rowIs_readsX {w : World} {b : Nat} {t : TypeId} {N : Nat} {f : Nat → Value} (h : w.rowIs b t N f) (k m cap : Nat) (hk : k + m ≤ N) (xs : List Value) (hl : xs.length = m) (hx : ∀ i, i < m → xs[i]? = some (f (k + i))) : Reads w (.slice (some ⟨b, k, none⟩) m cap) xs := by
  subst hl
  refine ⟨_, cap, rfl, .inr ⟨b, k, rfl, h.lt, fun i hi => ?_⟩⟩
  rw [hx i hi, h.cell (by omega)]

theorem rowIs_ownsX {w : World} {b : Nat} {t : TypeId} {N : Nat} {f : Nat → Value} (h : w.rowIs b t N f) {B : Nat} (hB : B ≤ b) (xs : List Value) (hl : xs.length = N) (hN : N ≤ maxLen) (hx : ∀ i, i < N → xs[i]? = some (f i)) : w.ownsRow B t 1 (.slice (some ⟨b, 0, none⟩) N N) N xs := by
  obtain ⟨c, hg, hs, hc⟩ := h
  refine ⟨by omega, .inr ⟨b, N, c, rfl, hB, hg, Nat.le_refl _, hN, by omega, ?_⟩⟩
  rw [List.take_of_length_le (by rw [Array.length_toList]; omega)]
  refine List.ext_getElem? (fun i => ?_)
  by_cases hi : i < N
  · rw [hx i hi, Array.getElem?_toList, hc i hi]
  · have h1 : xs[i]? = none := List.getElem?_eq_none (by omega)
    have h2 : c.toList[i]? = none := List.getElem?_eq_none (by rw [Array.length_toList]; omega)
    rw [h1, h2]

/-- The steps at all places of a text. -/
abbrev Steps (w : World) (B g : Nat) (L : List ByteArray) (y : List Nat) (V : Nat → Value) : Prop := LotsS w B g y.length V (fun k => asP (bS L (y.drop k)))

set_option maxRecDepth 20000 in
set_option maxHeartbeats 4000000 in
theorem behind_any {w : World} {B g fr n cap : Nat} {L : List ByteArray} {y : List Nat} {V : Nat → Value} (h : Steps w B g L y V) (hl : L.length ≤ 100) (hP : ∀ s ∈ L.map nums, s.length ≤ 40) (hy : Txt y) (hfn : fr + n ≤ y.length) :
    Calls Tryz.prog 27 #[.slice (some ⟨g, fr, none⟩) n cap] w fun e w' => ∃ gc, e = .returned (.slice (some ⟨gc, 0, none⟩) (n + 1) (n + 1)) ∧ w.heap.size ≤ gc ∧ w'.rowIs gc 43 (n + 1) (fun k => cN (bC L (((y.drop fr).take n).drop k))) ∧ Below w.heap.size w w' := by
  have HS := hid h
  have HPP := hid hP
  have HY := hid hy
  have hn1 : n ≤ 1000 := by have := hy.2; omega
  have hf1 : fr ≤ 1000 := by have := hy.2; omega
  have HFN := hid hfn
  obtain ⟨x, hx⟩ : ∃ x, x = (y.drop fr).take n := ⟨_, rfl⟩
  have hxl : x.length = n := by rw [hx, List.length_take, List.length_drop]; omega
  have HX := hid hx
  have HXL := hid hxl
  have HXT : Hid (Txt x) := by show Txt x; rw [hx]; exact (hy.drop fr).take n
  rw [← hx]
  clear h hP hy hfn hx hxl
  obtain ⟨N, hN⟩ : ∃ N, N = n + 1 := ⟨_, rfl⟩
  have hNn : (n : Int) + 1 = (N : Int) := by omega
  have hmk := run_make_row' (P := Tryz.prog) 29 43 (.complex .f64 0 0) 16 Tryz.underlying29 Tryz.infoCx rfl .i64 .i64 N (by omega) (by omega)
  rw [← hN]
  have HN := hid hN
  have hN1 : N ≤ 1001 := by omega
  clear hN
  go_enter Tryz.func27, Tryz.ntmps27
  go_wp2
  have hb0 : Below w.heap.size w (w.alloc (.cells (madeCells #[.complex .f64 0 0] N) 43)) := (Below.refl _ _).alloc (Nat.le_refl _) _
  have hr0 := World.rowIs_made w (.complex .f64 0 0) N 43
  obtain ⟨G, hG⟩ : ∃ G, G = w.heap.size := ⟨_, rfl⟩
  rw [← hG] at hr0 ⊢
  have HG := hid hG
  have HB0 := hid hb0
  have HR0 : Hid ((w.alloc (.cells (madeCells #[.complex .f64 0 0] N) 43)).rowIs G 43 N (fun k => if n ≤ k then cN (bC L (x.drop k)) else cN (0, 0))) := by
    refine hr0.congr (fun k hk => ?_)
    split
    · rw [List.drop_eq_nil_of_le (by rw [HXL.out]; assumption)]
      rfl
    · rfl
  clear hr0 hb0 hG
  generalize w.alloc (.cells (madeCells #[.complex .f64 0 0] N) 43) = w1 at HB0 HR0 ⊢
  go_loopw [4] (fun vi wr => ∃ j : Nat, vi = .int .i64 ((j : Int) - 1) ∧ j ≤ n ∧ Hid (wr.rowIs G 43 N (fun k => if j ≤ k then cN (bC L (x.drop k)) else cN (0, 0))) ∧ Hid (Below w.heap.size w wr)) (fun vi _ => (intOf vi + 1).toNat)
  case atStart => exact ⟨n, rfl, Nat.le_refl _, HR0.out, HB0.out⟩
  case round =>
    clear HR0 HB0
    obtain ⟨j, rfl, hj, hR, hB⟩ := hrel
    rcases j with _ | i
    · go_wp2
      go_ret
      exact ⟨G, rfl, by rw [HG.out]; exact Nat.le_refl _, hR.out.congr (fun k _ => by rw [if_pos (Nat.zero_le _)]), hB.out⟩
    · have hi : i < n := by omega
      have hzi : (((i + 1 : Nat) : Int) - 1) = (i : Int) := by omega
      have hxi : (decide ((0 : Int) ≤ (i : Int) ∧ (i : Int) < (n : Int))) = true := decide_eq_true ⟨by omega, by omega⟩
      have hxN : (decide ((0 : Int) ≤ (i : Int) ∧ (i : Int) < (N : Int))) = true := decide_eq_true ⟨by omega, by have := HN.out; omega⟩
      have hiN : i < N := by have := HN.out; omega
      have hsl := slice_costs G i N hiN
      rw [hzi]
      have HS1 : Hid (Steps wr B g L y V) := HS.out.below hB.out
      have hfi : fr + i < y.length := by have := HFN.out; omega
      have c1 := HS1.out.row.cell hfi
      have HRS := hid (ownsRow_readsSteps (HS1.out.each _ hfi))
      obtain ⟨z, hz⟩ : ∃ z, z = x.drop i := ⟨_, rfl⟩
      have hzl : z.length = n - i := by rw [hz, List.length_drop, HXL.out]
      have hzt : Txt z := by rw [hz]; exact HXT.out.drop i
      have hzy : z = (y.drop (fr + i)).take z.length := by
        rw [hzl, hz, HX.out, List.drop_take, List.drop_drop]
      have hzne : z ≠ [] := by intro e; rw [e] at hzl; simp at hzl; omega
      have hcl : ((0, 0) :: bCs L (x.drop (i + 1))).length = z.length + 1 := by rw [List.length_cons, bCs_length, List.length_drop, HXL.out]; omega
      have hcat : ∀ k, 1 ≤ k → k ≤ z.length → ((0, 0) :: bCs L (x.drop (i + 1))).getD k (0, 0) = bC L (z.drop k) := by
        intro k h1 h2
        obtain ⟨q, rfl⟩ : ∃ q, k = q + 1 := ⟨k - 1, by omega⟩
        rw [List.getD_cons_succ, bCs_at L _ q (by rw [List.length_drop, HXL.out]; omega), List.drop_drop, hz, List.drop_drop]
        congr 2
        omega
      have hRR : Reads wr.drew (.slice (some ⟨G, i, none⟩) (N - i) (N - i)) (cNs ((0, 0) :: bCs L (x.drop (i + 1)))) := by
        refine rowIs_readsX hR.out.drew i (N - i) (N - i) (by omega) _ (by rw [cNs_length, hcl]; have := HN.out; omega) (fun k hk => ?_)
        rcases k with _ | k
        · rw [if_neg (by omega)]; rfl
        · rw [if_pos (by omega), cNs_at _ (k + 1) (by rw [hcl]; have := HN.out; omega)]
          congr 2
          have h1 := hcat (k + 1) (by omega) (by have := HN.out; omega)
          rw [List.getD_eq_getElem?_getD, List.getElem?_eq_getElem (by rw [hcl]; have := HN.out; omega), Option.getD_some] at h1
          rw [h1, hz, List.drop_drop]
      have hcs : ∀ c ∈ (0, 0) :: bCs L (x.drop (i + 1)), c.1 ≤ 1000000 ∧ c.2 ≤ 100000000 := by
        intro c hc
        rcases List.mem_cons.1 hc with rfl | hc
        · exact ⟨Nat.zero_le _, Nat.zero_le _⟩
        · have := bCs_small HPP.out (HXT.out.drop (i + 1)) c hc; omega
      have hyne : y.drop (fr + i) ≠ [] := by intro e; have := congrArg List.length e; rw [List.length_drop] at this; simp at this; omega
      have HCH := hid (choose_any (w := wr.drew) HRS.out hRR (by have := bS_few (L := L) (y.drop (fr + i)); omega) (fun c hc => by have := bS_small hl HPP.out (HY.out.drop (fr + i)) hyne c hc; have := (HY.out.drop (fr + i)).2; omega) hcs)
      rw [chX_is HPP.out hzt hzne hzy hcl hcat] at HCH
      obtain ⟨⟨p, q⟩, hpq⟩ : ∃ c, c = bC L z := ⟨_, rfl⟩
      obtain ⟨⟨t, s⟩, hts⟩ : ∃ c, c = bK L z := ⟨_, rfl⟩
      rw [← hpq, ← hts] at HCH
      dsimp only [cN] at HCH
      have HPQ : Hid (bC L (x.drop i) = (p, q)) := by show _ = _; rw [← hz, hpq]
      have HGl := hid hR.out.lt
      have hwd : Below wr.heap.size wr wr.drew := (Below.refl _ _).drew
      have HBd := hid (below_more hB.out hwd)
      clear hzl hzt hzy hzne hcl hcat hRR hcs hyne hpq hts hz HRS HS1 hwd
      go_wp2
      go_region_law ((go_simp; go_at_call 60; refine (HCH.out).mono ?_; rintro e w2 ⟨rfl, hb2⟩; have hR2 := (hR.out.drew).of_block (hb2.block G HGl.out); have f2 := hR2.frozen i; have c2 := hR2.cell hiN; have HR2 := hid hR2; have HB2 := hid (below_more HBd.out hb2); clear hR2 hb2))
      have HR3 : Hid ((w2.setCell ⟨G, i, none⟩ (.complex .f64 (fN p) (fN q))).rowIs G 43 N (fun k => if i ≤ k then cN (bC L (x.drop k)) else cN (0, 0))) := by
        refine (HR2.out.set i _).congr (fun k hk => ?_)
        by_cases e : k = i
        · subst e
          rw [if_pos rfl, if_pos (Nat.le_refl _), HPQ.out]
          rfl
        · rw [if_neg e]
          by_cases e2 : i ≤ k
          · rw [if_pos e2, if_pos (by omega)]
          · rw [if_neg e2, if_neg (by omega)]
      have HB3 : Hid (Below w.heap.size w (w2.setCell ⟨G, i, none⟩ (.complex .f64 (fN p) (fN q)))) := HB2.out.setCell (p := ⟨G, i, none⟩) (by show _ ≤ G; rw [HG.out]; exact Nat.le_refl _) _
      clear f2 c2 HR2 HB2
      generalize w2.setCell ⟨G, i, none⟩ (.complex .f64 (fN p) (fN q)) = w3 at HR3 HB3 ⊢
      go_wp2
      go_roundw
      case rel => exact ⟨i, rfl, by omega, HR3.out, HB3.out⟩
      case measure => simp [intOf]
end Go.Proofs.YtdplflcaanmmiaaGreat

namespace Go.Proofs.YtdplflcaanmmiaaGreat
open Go.ChangeShapes Go.WideShapes Go.ChangeAt Go.RowKit

set_option maxRecDepth 20000 in
/-- A phrase that stands there is found. -/
theorem findV_ok {w : World} {d : Value} {L : List ByteArray} (h : DictV w d L) (hL : Fine L) (b : ByteArray) (i n : Nat) (hm : ((nums b).drop i).take n ∈ L.map nums) :
    Calls Tryz.prog 59 #[d, .string (b.extract i (i + n))] w fun e w' => e = .returned (.tuple #[.int .i64 ((L.map nums).idxOf (((nums b).drop i).take n) : Nat), .bool true]) ∧ w' = w := by
  obtain ⟨hk, e⟩ := text_of_id hm
  rcases h with ⟨rfl, rfl⟩ | ⟨B, p, rfl, h⟩
  · simp at hm
  · have e2 : L[(L.map nums).idxOf (((nums b).drop i).take n)]'hk = b.extract i (i + n) := nums_inj _ _ (by rw [e, nums_amid])
    have hF := First.of_nodup ((fine_iff L).1 hL).2.2.2 _ hk
    rw [e2] at hF
    exact find_in h (by have := hL.1; omega) hF

/-- The phrases that stand at the beginning of x as steps. -/
def sT (L : List ByteArray) (x : List Nat) : List (Nat × Nat) := (standsT (L.map nums) 40 x).map (fun n => (tokT (L.map nums) x n, n))
theorem bS_split (L : List ByteArray) (x : List Nat) : bS L x = sT L x ++ [(x.headD 0, 1)] := rfl
theorem sT_length (L : List ByteArray) (x : List Nat) : (sT L x).length = (standsT (L.map nums) 40 x).length := by simp [sT]

/-- What steps has laid so far. -/
def StUpto (L : List ByteArray) (y : List Nat) (n i j : Nat) (C : Nat → List (Int × Int)) : Prop := ∀ k, k < n → C k = if k < i then asP (bS L (y.drop k)) else if k = i then asP ((sT L (y.drop i)).take j) else []

theorem StUpto.push {L : List ByteArray} {y : List Nat} {C : Nat → List (Int × Int)} {n i j : Nat} (h : StUpto L y n i j C) (hj : j < (sT L (y.drop i)).length) : StUpto L y n i (j + 1) (put2 C i (C i ++ [((((sT L (y.drop i))[j]'hj).1 : Int), (((sT L (y.drop i))[j]'hj).2 : Int))])) := by
  intro k hk
  by_cases e : k = i
  · subst e
    rw [put2_at, h k hk, if_neg (by omega), if_pos rfl, if_neg (by omega), if_pos rfl, List.take_succ_eq_append_getElem hj, asP_append]
    rfl
  · rw [put2_else _ _ _ e, h k hk]
    by_cases e2 : k < i
    · rw [if_pos e2, if_pos e2]
    · rw [if_neg e2, if_neg e2, if_neg e, if_neg e]

theorem StUpto.next {L : List ByteArray} {y : List Nat} {C : Nat → List (Int × Int)} {n i j : Nat} (h : StUpto L y n i j C) (hj : (sT L (y.drop i)).length ≤ j) : StUpto L y n (i + 1) 0 (put2 C i (C i ++ [((((y.drop i).headD 0 : Nat) : Int), (1 : Int))])) := by
  intro k hk
  by_cases e : k = i
  · subst e
    rw [put2_at, h k hk, if_neg (by omega), if_pos rfl, if_pos (by omega), List.take_of_length_le hj, bS_split, asP_append]
    rfl
  · rw [put2_else _ _ _ e, h k hk]
    by_cases e2 : k < i
    · rw [if_pos e2, if_pos (by omega)]
    · rw [if_neg e2, if_neg e, if_neg (by omega)]
      by_cases e3 : k = i + 1
      · rw [if_pos e3]; simp [asP]
      · rw [if_neg e3]

set_option maxRecDepth 20000 in
set_option maxHeartbeats 4000000 in
theorem steps_any {w : World} {d : Value} {L : List ByteArray} (h : DictV w d L) (hL : Fine L) (b : ByteArray) (hb : b.size ≤ 1000) :
    Calls Tryz.prog 25 #[d, .string b] w fun e w' => ∃ (g : Nat) (V : Nat → Value), e = .returned (.slice (some ⟨g, 0, none⟩) b.size b.size) ∧ Steps w' w.heap.size g L (nums b) V ∧ w.heap.size ≤ g ∧ Below w.heap.size w w' := by
  obtain ⟨i1, hi1, hy0, hy1, hy2⟩ := info_parts Tryz.infoSteps
  obtain ⟨ad, rfl⟩ := h.pointer
  have HD := hid h
  have HF := hid hL
  clear h hL
  obtain ⟨n, hn⟩ : ∃ n, n = b.size := ⟨_, rfl⟩
  have hn1 : n ≤ 1000 := by omega
  have HN := hid hn
  have hmk := run_make_row' (P := Tryz.prog) 59 93 (.slice none 0 0) 24 Tryz.underlying59 Tryz.infoSteps2 rfl .i64 .i64 n (by omega) (by omega)
  unfold Steps
  rw [nums_length]
  rw [← hn] at hb ⊢
  have hbn : (b.size : Int) = (n : Int) := by omega
  clear hn
  have HLN := fun B : Nat => hid (lotsS_new w B n)
  have HW0 : Hid (∀ o : Obj, Below w.heap.size w (w.alloc o)) := fun o => (Below.refl _ _).alloc (Nat.le_refl _) o
  have HDa := fun o : Obj => hid (HD.out.below (HW0.out o))
  go_enter Tryz.func25, Tryz.ntmps25
  go_wp2_with (first
    | (go_at_call 58; refine (lengths_any (HDa _).out HF.out b (by omega)).mono ?_; rintro e w6 ⟨g6, VS, C6, CS, rfl, hl6, hg6, hat6, hb6⟩; have HS6 := hid hl6; have HG6 := hid hg6; have HA6 := hid hat6; have HB6 := hid (below_more (HW0.out _) hb6); have HLN6 := fun B : Nat => hid ((HLN B).out.below hb6); have HGW := hid (Nat.lt_of_lt_of_le (show w.heap.size < (w.alloc (.cells (madeCells #[.slice none 0 0] n) 93)).heap.size by simp) hb6.size); clear hl6 hg6 hat6 hb6))
  obtain ⟨BS, hBS⟩ : ∃ BS, BS = (w.alloc (.cells (madeCells #[.slice none 0 0] n) 93)).heap.size := ⟨_, rfl⟩
  rw [← hBS] at HS6 HG6
  have HGB : Hid (w.heap.size < BS) := by show _ < _; rw [hBS]; simp
  clear hBS HW0 HDa HLN hmk
  have HG0 : Hid (w.heap.size ≤ w.heap.size) := Nat.le_refl _
  obtain ⟨G, hG⟩ : ∃ G, G = w.heap.size := ⟨_, rfl⟩
  rw [show (⟨w.heap.size, 0, none⟩ : Addr) = ⟨G, 0, none⟩ by rw [hG]] at *
  have HGw := hid hG
  have HLG : Hid (∀ B, LotsS w6 B G n (fun _ => .slice none 0 0) (fun _ => [])) := fun B => by rw [hG]; exact (HLN6 B).out
  clear HLN6 hG
  have HC6 : Hid (∀ k, k < n → C6 k = standsT (L.map nums) 40 ((nums b).drop k) ∧ w6.ownsRow BS 3 1 (VS k) (sT L ((nums b).drop k)).length (numsI (standsT (L.map nums) 40 ((nums b).drop k)))) := fun k hk => by
    have hk2 : k < b.size := by omega
    have h1 : C6 k = standsT (L.map nums) 40 ((nums b).drop k) := by rw [(HA6.out k hk2).2, atOf_ids HF.out (fun h => Iff.rfl) (HA6.out k hk2).1 (by omega), idsT_lens HF.out]
    have h2 := HS6.out.each k hk2
    rw [h1] at h2
    rw [sT_length]
    exact ⟨h1, h2⟩
  have HR6 : Hid (w6.rowIs g6 27 n VS) := by have := HS6.out.row; rw [show b.size = n by omega] at this; exact this
  clear HS6 HA6
  go_loopw [19] (fun vi wr => ∃ (i : Nat) (V : Nat → Value) (C : Nat → List (Int × Int)), vi = .int .i64 i ∧ i ≤ n ∧ Hid (LotsS wr w6.heap.size G n V C) ∧ Hid (StUpto L (nums b) n i 0 C) ∧ Hid (Kept (· = G) w6 wr)) (fun vi _ => n - (intOf vi).toNat)
  case atStart => exact ⟨0, _, _, rfl, by omega, HLG.out _, fun k _ => by simp [asP], Kept.refl _ _⟩
  case round =>
    obtain ⟨i, V0, C0, rfl, hi, hLt, hAt, hK⟩ := hrel
    by_cases hin : i < n
    · obtain ⟨av, cv, hV⟩ := ownsRow_slice (HC6.out i hin).2
      have hR6 : wr.rowIs g6 27 n VS := HR6.out.of_block (hK.out.block g6 HR6.out.lt (by have h1 := HGB.out; have h2 := HG6.out; have h3 := HGw.out; show g6 ≠ G; omega))
      have c1 := hR6.cell hin
      rw [hV] at c1
      have hxa : (decide ((0 : Int) ≤ (i : Int) ∧ (i : Int) < (n : Int))) = true := decide_eq_true ⟨by omega, by omega⟩
      have hxb : (decide ((0 : Int) ≤ (i : Int) ∧ (i : Int) < (b.size : Int))) = true := decide_eq_true ⟨by omega, by omega⟩
      obtain ⟨m, hm⟩ : ∃ m, m = (sT L ((nums b).drop i)).length := ⟨_, rfl⟩
      rw [← hm] at hV c1
      have hm1 : m ≤ 1000 := by have h1 := bS_few (L := L) ((nums b).drop i); rw [bS_split, List.length_append] at h1; omega
      have HV := hid hV
      have HM := hid hm
      clear hV hm hR6
      go_wp2
      go_loopw [26] (fun vj wr2 => ∃ (j : Nat) (V : Nat → Value) (C : Nat → List (Int × Int)), vj = .int .i64 j ∧ j ≤ m ∧ Hid (LotsS wr2 w6.heap.size G n V C) ∧ Hid (StUpto L (nums b) n i j C) ∧ Hid (Kept (· = G) w6 wr2)) (fun vj _ => m - (intOf vj).toNat)
      case atStart => exact ⟨0, V0, C0, rfl, by omega, hLt.out, hAt.out, hK.out⟩
      case round =>
        clear hLt hAt hK c1
        obtain ⟨j, V, C, rfl, hj, hLt, hAt, hK⟩ := hrel
        have HBK := hid (HB6.out.trans (hK.out.below HB6.out.size (by rintro k rfl; rw [HGw.out]; exact Nat.le_refl _)))
        by_cases hjm : j < m
        · have hjC : j < (sT L ((nums b).drop i)).length := by rw [← HM.out]; exact hjm
          have hjS : j < (standsT (L.map nums) 40 ((nums b).drop i)).length := by rw [← sT_length]; exact hjC
          have hown := ownsRow_same (HC6.out i hin).2 (fun k hk => hK.out.block k ((HC6.out i hin).2.lt k hk).2 (by have h1 := ((HC6.out i hin).2.lt k hk).1; have h2 := HGB.out; have h3 := HGw.out; show k ≠ G; omega))
          rw [HV.out, ← HM.out] at hown
          obtain ⟨gi, capi, hvi, _, _⟩ := hown.form (by omega)
          injection hvi with e1 e2 e3
          subst e1
          have ci := hown.cellAt j (by omega)
          rw [numsI_at _ j hjS] at ci
          obtain ⟨x, hx⟩ : ∃ x, x = (standsT (L.map nums) 40 ((nums b).drop i))[j]'hjS := ⟨_, rfl⟩
          rw [← hx] at ci
          have hxm := (standsT_mem (L.map nums) 40 (phrases_short HF.out) ((nums b).drop i) x).1 (by rw [hx]; exact List.getElem_mem _)
          obtain ⟨hx1, hx2, hx3⟩ := hxm
          rw [List.length_drop, nums_length] at hx2
          have HPU := hid (hAt.out.push hjC)
          have hst : (sT L ((nums b).drop i))[j]'hjC = (256 + (L.map nums).idxOf (((nums b).drop i).take x), x) := by
            simp only [sT, List.getElem_map]
            rw [← hx]
            unfold tokT
            rw [if_pos hx3]
          rw [hst] at HPU
          dsimp only at HPU
          have HFI := fun W (hW : DictV W (.pointer ad) L) => hid (findV_ok hW HF.out b i x hx3)
          have hidl : (L.map nums).idxOf (((nums b).drop i).take x) < L.length := by have := List.idxOf_lt_length_of_mem hx3; rwa [List.length_map] at this
          have hL100 := HF.out.1
          obtain ⟨id, hid0⟩ : ∃ id, id = (L.map nums).idxOf (((nums b).drop i).take x) := ⟨_, rfl⟩
          rw [← hid0] at HPU hidl
          simp only [← hid0] at HFI
          obtain ⟨i2, hi2⟩ : ∃ i2, i2 = i + x := ⟨_, rfl⟩
          have hsum : (i : Int) + (x : Int) = (i2 : Int) := by omega
          have hsl := fun W => slice_amid b i i2 (by omega) (by omega) W
          rw [← hi2] at HFI
          have hxj : (decide ((0 : Int) ≤ (j : Int) ∧ (j : Int) < (m : Int))) = true := decide_eq_true ⟨by omega, by omega⟩
          have hsum2 : (256 : Int) + (id : Int) = ((256 + id : Nat) : Int) := by omega
          obtain ⟨tk, htk⟩ : ∃ tk, tk = 256 + id := ⟨_, rfl⟩
          rw [← htk] at HPU hsum2
          have htk1 : tk ≤ 1000 := by omega
          have hCi : (C i).length ≤ 1000 := by
            rw [hAt.out i hin, if_neg (by omega), if_pos rfl, asP_length, List.length_take]
            omega
          obtain ⟨au, cu, hU⟩ := ownsRow_slice (hLt.out.each i hin)
          have c2 := hLt.out.row.cell hin
          rw [hU] at c2
          have hDd : DictV wr (.pointer ad) L := HD.out.below HBK.out
          have HFI2 := HFI _ hDd
          clear hown hid0 hx hAt hjC e2 e3 hst hi2 htk HFI hDd hx3
          have HE7 : Hid ((V i).ownBlock = (Value.slice au (C i).length cu).ownBlock) := congrArg Value.ownBlock hU
          have hwa : Below wr.heap.size wr (wr.alloc (.cells #[.int .i64 (tk : Int), .int .i64 (x : Int)] 95)) := (Below.refl _ _).alloc (Nat.le_refl _) _
          have HL2 := hid (hLt.out.below hwa)
          have HO2 : Hid ((wr.alloc (.cells #[.int .i64 (tk : Int), .int .i64 (x : Int)] 95)).ownsRow w6.heap.size 95 2 (.slice au (C i).length cu) (C i).length (hcells (C i))) := by
            have h1 := HL2.out.each i hin
            rw [hU] at h1
            exact h1
          have HSZ : Hid (w6.heap.size ≤ (wr.alloc (.cells #[.int .i64 (tk : Int), .int .i64 (x : Int)] 95)).heap.size) := Nat.le_trans hK.out.size hwa.size
          clear hU hwa
          go_wp2_with (first
            | (go_at_call 59; refine (HFI2.out).mono ?_; rintro e wr ⟨rfl, rfl⟩)
            | (at_builtin; refine wpList_append_steps _ rfl (.tmp 46) (.tmp 51) rfl w6.heap.size (.slice au (C i).length cu) (C i).length (C i) rfl HO2.out _ [((tk : Int), (x : Int))] rfl (readsH_built wr 95 (tk : Int) (x : Int)) (by simp; omega) HSZ.out ?_; intro v4 w4 hown4 hgrow4 hat4 hold4; obtain ⟨g4, cap4, rfl, _, _⟩ := hown4.form (by simp); have HOW := hid hown4; have HGR := hid hgrow4; have HAT := hid hat4; have hr4 := HL2.out.row.of_block (hgrow4.block _ HL2.out.lt (fun e => HL2.out.ne (HL2.out.each i hin) (HE7.out.trans e.symm))); have f4 := hr4.frozen i; have c4 := hr4.cell hin; clear hr4 hown4 hgrow4 hat4 hold4))
          have hgr : (wr.alloc (.cells #[.int .i64 (tk : Int), .int .i64 (x : Int)] 95)).grownBy w4 (V i).ownBlock := by rw [HE7.out]; exact HGR.out
          have hp7 := hid (HL2.out.push (x := ((tk : Int), (x : Int))) (g' := g4) (c := cap4) (m := (C i).length + 1) hin rfl (by rw [hcells_append]; exact HOW.out) hgr (by
            rw [HE7.out]
            rcases HAT.out with e | e
            · exact .inl e.symm
            · exact .inr (by injection e)))
          have hk7 : Hid (Kept (· = G) w6 (w4.setCell ⟨G, i, none⟩ (.slice (some ⟨g4, 0, none⟩) ((C i).length + 1) cap4))) := by
            have h1 : Kept (· = G) w6 (wr.alloc (.cells #[.int .i64 (tk : Int), .int .i64 (x : Int)] 95)) := hK.out.alloc _
            refine Kept.setCell ⟨hgr.os.trans h1.os, hgr.tape.trans h1.tape, hgr.output.trans h1.output, Nat.le_trans h1.size hgr.size, fun k hk hn => ?_⟩ G i _ rfl
            refine (hgr.block k (Nat.lt_of_lt_of_le hk h1.size) (fun e => ?_)).trans (h1.block k hk hn)
            have := ((hLt.out.each i hin).lt k e.symm).1
            omega
          clear hgr f4 c4 HOW HGR HAT
          generalize w4.setCell ⟨G, i, none⟩ (.slice (some ⟨g4, 0, none⟩) ((C i).length + 1) cap4) = w8 at hp7 hk7 ⊢
          go_roundw
          case rel => exact ⟨j + 1, _, _, by go_num, by omega, hp7.out, HPU.out, hk7.out⟩
          case measure => simp [intOf]; omega
        · have hjC : (sT L ((nums b).drop i)).length ≤ j := by rw [← HM.out]; omega
          have HPU := hid (hAt.out.next hjC)
          have hib : i < b.size := by omega
          obtain ⟨c, hc⟩ : ∃ c, c = ((nums b).drop i).headD 0 := ⟨_, rfl⟩
          have hcb : ((b[i]'hib).toNat : Int) = (c : Int) := by
            rw [hc]
            have h1 : (nums b).drop i = (b[i]'hib).toNat :: (nums b).drop (i + 1) := by
              rw [List.drop_eq_getElem_cons (by rw [nums_length]; exact hib), nums_at b i hib]
            rw [h1]
            rfl
          have hc1 : c < 256 := by have := (b[i]'hib).toNat_lt; omega
          have hbi := fun W => byte_index b i hib W
          rw [hcb] at hbi
          rw [← hc] at HPU
          have hCi : (C i).length ≤ 1000 := by
            rw [hAt.out i hin, if_neg (by omega), if_pos rfl, asP_length, List.length_take]
            have := HM.out
            omega
          obtain ⟨au, cu, hU⟩ := ownsRow_slice (hLt.out.each i hin)
          have c2 := hLt.out.row.cell hin
          rw [hU] at c2
          have HE7 : Hid ((V i).ownBlock = (Value.slice au (C i).length cu).ownBlock) := congrArg Value.ownBlock hU
          have hwc := Go.IntWalk.i64_in (c : Int) (by omega)
          have hwa : Below wr.heap.size wr (wr.alloc (.cells #[.int .i64 (c : Int), .int .i64 1] 95)).drew := ((Below.refl wr.heap.size wr).alloc (Nat.le_refl wr.heap.size) _).drew
          have HL2 := hid (hLt.out.below hwa)
          have HO2 : Hid ((wr.alloc (.cells #[.int .i64 (c : Int), .int .i64 1] 95)).drew.ownsRow w6.heap.size 95 2 (.slice au (C i).length cu) (C i).length (hcells (C i))) := by
            have h1 := HL2.out.each i hin
            rw [hU] at h1
            exact h1
          have HSZ : Hid (w6.heap.size ≤ (wr.alloc (.cells #[.int .i64 (c : Int), .int .i64 1] 95)).drew.heap.size) := Nat.le_trans hK.out.size hwa.size
          have HRB : Hid (ReadsH (wr.alloc (.cells #[.int .i64 (c : Int), .int .i64 1] 95)).drew (.slice (some ⟨wr.heap.size, 0, none⟩) 1 1) [((c : Int), (1 : Int))]) := (readsH_built wr 95 (c : Int) 1).below (Below.refl _ _).drew
          have c3 := fun o : Obj => keeps ((Below.refl wr.heap.size wr).alloc (Nat.le_refl _) o) _ _ c2
          have h106 : (C i).length + [((c : Int), (1 : Int))].length ≤ 1000000 := by simp; omega
          clear hc hcb hjC hAt hU hwa
          go_wp2
          go_region_law (first
            | (refine step_append_steps _ (by rfl) (.tmp 60) (.tmp 66) (by rfl) w6.heap.size (.slice au (C i).length cu) (C i).length (C i) (by simp [Act.eval]) HO2.out (.slice (some ⟨wr.heap.size, 0, none⟩) 1 1) [((c : Int), (1 : Int))] (by simp [Act.eval]) HRB.out h106 HSZ.out ?_; intro v4 w4 hown4 hgrow4 hat4 hold4; obtain ⟨g4, cap4, rfl, _, _⟩ := hown4.form (by simp); have HOW := hid hown4; have HGR := hid hgrow4; have HAT := hid hat4; have hr4 := HL2.out.row.of_block (hgrow4.block _ HL2.out.lt (fun e => HL2.out.ne (HL2.out.each i hin) (HE7.out.trans e.symm))); have f4 := hr4.frozen i; have c4 := hr4.cell hin; clear hr4 hown4 hgrow4 hat4 hold4))
          all_goals
            have hgr : (wr.alloc (.cells #[.int .i64 (c : Int), .int .i64 1] 95)).drew.grownBy w4 (V i).ownBlock := by rw [HE7.out]; exact HGR.out
            have hp7 := hid (HL2.out.push (x := ((c : Int), (1 : Int))) (g' := g4) (c := cap4) (m := (C i).length + 1) hin rfl (by rw [hcells_append]; exact HOW.out) hgr (by
              rw [HE7.out]
              rcases HAT.out with e | e
              · exact .inl e.symm
              · exact .inr (by injection e)))
            have hk7 : Hid (Kept (· = G) w6 (w4.setCell ⟨G, i, none⟩ (.slice (some ⟨g4, 0, none⟩) ((C i).length + 1) cap4))) := by
              have h1 : Kept (· = G) w6 (wr.alloc (.cells #[.int .i64 (c : Int), .int .i64 1] 95)).drew := (hK.out.alloc _).trans (Kept.drewN _ _ 1)
              refine Kept.setCell ⟨hgr.os.trans h1.os, hgr.tape.trans h1.tape, hgr.output.trans h1.output, Nat.le_trans h1.size hgr.size, fun k hk hn => ?_⟩ G i _ rfl
              refine (hgr.block k (Nat.lt_of_lt_of_le hk h1.size) (fun e => ?_)).trans (h1.block k hk hn)
              have := ((hLt.out.each i hin).lt k e.symm).1
              omega
            clear hgr f4 c4 HOW HGR HAT c2 c3
            generalize w4.setCell ⟨G, i, none⟩ (.slice (some ⟨g4, 0, none⟩) ((C i).length + 1) cap4) = w8 at hp7 hk7 ⊢
            go_wp2
            go_roundw
            case rel => exact ⟨i + 1, _, _, by go_num, by omega, hp7.out, HPU.out, hk7.out⟩
            case measure => simp [intOf]; omega
    · obtain rfl : i = n := by omega
      go_wp2
      go_ret
      refine ⟨G, V0, rfl, ⟨hLt.out.row, fun k hk => ?_, hLt.out.apart⟩, by rw [HGw.out]; exact Nat.le_refl _, HB6.out.trans (hK.out.below HB6.out.size (by rintro k rfl; rw [HGw.out]; exact Nat.le_refl _))⟩
      have h1 := ownsRow_lower (hLt.out.each k hk) HB6.out.size
      rw [hAt.out k hk, if_pos hk] at h1
      exact h1
end Go.Proofs.YtdplflcaanmmiaaGreat

namespace Go.Proofs.YtdplflcaanmmiaaGreat
open Go.ChangeShapes Go.WideShapes Go.ChangeAt Go.RowKit

theorem wpList_append_intsG {ops : Array Oper} {rest : List Oper} {o : Oper} {a : Act} {w : World} {Q : Exit → Act → World → Prop} (hgd : o.guard = none) (s x : Operand)
    (ho : o.op = .call { callee := .builtin .append, args := #[s, x], argTypes := #[27, 27] })
    (base : Nat) (v : Value) (xs : List Int) (hs : a.eval s = v) (hown : w.ownsRow base 3 1 v xs.length (nats xs)) (u : Value) (ys : List Int) (hx : a.eval x = u) (hu : Reads w u (nats ys)) (hfew : xs.length + ys.length ≤ 1000000) (hbase : base ≤ w.heap.size)
    (h : ∀ v' w', w'.ownsRow base 3 1 v' (xs ++ ys).length (nats (xs ++ ys)) → w.grownBy w' v.ownBlock → wpList Tryz.prog ops Q rest (a.put o.dst v') w') : wpList Tryz.prog ops Q (o :: rest) a w := by
  obtain ⟨i0, hi0, hz0, hz1, hz2⟩ := info_parts Tryz.infoInt
  have hny := nats_length ys
  obtain ⟨v', w', hr, h2, h3, _, _⟩ := run_append_reads (P := Tryz.prog) w 27 o.type base 3 i0 (.int .i64 0) 8 Tryz.underlying27 hi0 hz0 hz1 hz2 rfl v xs.length (nats xs) hown u (nats ys) hu (nats_one ys) (by rw [hny]; unfold maxLen; omega) (by rw [hny]; omega) hbase
  rw [nats_append, hny, ← List.length_append] at h2
  refine wpList_plain hgd fun K hK => ?_
  unfold Oper.wp execOp
  simp only [ho, resolve, invoke, builtin, Sem.run_bind, Sem.run_pure, Result.andThen_ok, List.map_toArray, List.map_cons, List.map_nil, hs, hx, hr]
  exact hK _ _ (h v' w' h2 h3)

theorem bA_nil (L : List ByteArray) : bA L [] = [] := rfl
theorem bA_cons {L : List ByteArray} (hP : ∀ s ∈ L.map nums, s.length ≤ 40) {x : List Nat} (h : Txt x) (hx : x ≠ []) : bA L x = (bK L x).1 :: bA L (x.drop (bK L x).2) := bestT_cons _ 40 hP bB bigN x hx h.1 h.big
theorem bK_in {L : List ByteArray} (hl : L.length ≤ 100) (hP : ∀ s ∈ L.map nums, s.length ≤ 40) {x : List Nat} (h : Txt x) (hx : x ≠ []) : 1 ≤ (bK L x).2 ∧ (bK L x).2 ≤ x.length ∧ (bK L x).1 < 1000 := by
  obtain ⟨h1, h2, h3, _⟩ := keepT_mem (L.map nums) 40 hP bB bigN x hx h.1 h.big
  unfold isT at h3
  rw [List.length_map] at h3
  exact ⟨h1, h2, by unfold bK; omega⟩
theorem bA_few {L : List ByteArray} (hP : ∀ s ∈ L.map nums, s.length ≤ 40) {x : List Nat} (h : Txt x) : (bA L x).length ≤ x.length := by
  have h1 := bestT_length (L.map nums) 40 hP bB bigN x h.1 h.big
  have h2 := (bC_small hP h).1
  unfold bA
  unfold bC at h2
  omega

set_option maxRecDepth 20000 in
set_option maxHeartbeats 4000000 in
theorem cheapest_any {w : World} {B g fr n cap : Nat} {L : List ByteArray} {y : List Nat} {V : Nat → Value} (h : Steps w B g L y V) (hl : L.length ≤ 100) (hP : ∀ s ∈ L.map nums, s.length ≤ 40) (hy : Txt y) (hfn : fr + n ≤ y.length) :
    Calls Tryz.prog 26 #[.slice (some ⟨g, fr, none⟩) n cap] w fun e w' => ∃ v', e = .returned v' ∧ w'.ownsRow w.heap.size 3 1 v' (ints (bA L ((y.drop fr).take n))).length (nats (ints (bA L ((y.drop fr).take n)))) ∧ Below w.heap.size w w' := by
  have HBH := hid (behind_any (cap := cap) h hl hP hy hfn)
  have HS := hid h
  have HPP := hid hP
  have HY := hid hy
  have hn1 : n ≤ 1000 := by have := hy.2; omega
  have hf1 : fr ≤ 1000 := by have := hy.2; omega
  have HFN := hid hfn
  obtain ⟨x, hx⟩ : ∃ x, x = (y.drop fr).take n := ⟨_, rfl⟩
  have hxl : x.length = n := by rw [hx, List.length_take, List.length_drop]; omega
  have HX := hid hx
  have HXL := hid hxl
  have HXT : Hid (Txt x) := by show Txt x; rw [hx]; exact (hy.drop fr).take n
  rw [← hx] at HBH ⊢
  clear h hP hy hfn hx hxl
  obtain ⟨N, hN⟩ : ∃ N, N = n + 1 := ⟨_, rfl⟩
  rw [← hN] at HBH
  have HN := hid hN
  have hN1 : N ≤ 1001 := by omega
  clear hN
  go_enter Tryz.func26, Tryz.ntmps26
  go_wp2_with (go_at_call 27; refine (HBH.out).mono ?_; rintro e w1 ⟨G, rfl, hG, hR, hb1⟩; have HG := hid hG; have HR := hid hR; have HB1 := hid hb1; have HSZ1 := hid hb1.size; have HS1 : Hid (Steps w1 B g L y V) := HS.out.below hb1; clear hG hR hb1)
  clear HBH
  go_loopw [3, 5] (fun u vi wr => ∃ (a : Nat) (ts : List Nat), vi = .int .i64 a ∧ a ≤ n ∧ ts.length ≤ a ∧ Hid (wr.ownsRow w1.heap.size 3 1 u (ints ts).length (nats (ints ts))) ∧ Hid (ts ++ bA L (x.drop a) = bA L x) ∧ Hid (Below w1.heap.size w1 wr)) (fun _ vi _ => n - (intOf vi).toNat)
  case atStart => exact ⟨0, [], rfl, by omega, by simp, World.ownsRow_nil _ _ _ _, by show _ = _; simp, Below.refl _ _⟩
  case round =>
    obtain ⟨a, ts, rfl, ha, hts, hown, heq, hB⟩ := hrel
    by_cases hin : a < n
    · have hHS : Hid (Steps wr B g L y V) := HS1.out.below hB.out
      have hfi : fr + a < y.length := by have := HFN.out; omega
      have c1 := hHS.out.row.cell hfi
      have HRS := hid (ownsRow_readsSteps (hHS.out.each _ hfi))
      obtain ⟨z, hz⟩ : ∃ z, z = x.drop a := ⟨_, rfl⟩
      have hzl : z.length = n - a := by rw [hz, List.length_drop, HXL.out]
      have hzt : Txt z := by rw [hz]; exact HXT.out.drop a
      have hzy : z = (y.drop (fr + a)).take z.length := by
        rw [hzl, hz, HX.out, List.drop_take, List.drop_drop]
      have hzne : z ≠ [] := by intro e; rw [e] at hzl; simp at hzl; omega
      have hcl : (bCs L z).length = z.length + 1 := bCs_length L z
      have hcat : ∀ k, 1 ≤ k → k ≤ z.length → (bCs L z).getD k (0, 0) = bC L (z.drop k) := fun k _ h2 => bCs_at L z k h2
      have haN : a < N := by have := HN.out; omega
      have hRw : wr.rowIs G 43 N (fun k => cN (bC L (x.drop k))) := HR.out.of_block (hB.out.block G HR.out.lt)
      have hRR : Reads wr (.slice (some ⟨G, a, none⟩) (N - a) (N - a)) (cNs (bCs L z)) := by
        refine rowIs_readsX hRw a (N - a) (N - a) (by omega) _ (by rw [cNs_length, hcl]; have := HN.out; omega) (fun k hk => ?_)
        rw [cNs_at _ k (by rw [hcl]; have := HN.out; omega)]
        congr 2
        have h1 := bCs_at L z k (by have := HN.out; omega)
        rw [List.getD_eq_getElem?_getD, List.getElem?_eq_getElem (by rw [hcl]; have := HN.out; omega), Option.getD_some] at h1
        rw [h1, hz, List.drop_drop]
      have hcs : ∀ c ∈ bCs L z, c.1 ≤ 1000000 ∧ c.2 ≤ 100000000 := fun c hc => by have := bCs_small HPP.out hzt c hc; omega
      have hyne : y.drop (fr + a) ≠ [] := by intro e; have := congrArg List.length e; rw [List.length_drop] at this; simp at this; omega
      have HCH := fun (W : World) (hW : Below wr.heap.size wr W) => hid (choose_any (w := W) (HRS.out.below hW) (hRR.below hW) (by have := bS_few (L := L) (y.drop (fr + a)); omega) (fun c hc => by have := bS_small hl HPP.out (HY.out.drop (fr + a)) hyne c hc; have := (HY.out.drop (fr + a)).2; omega) hcs)
      simp only [chX_is HPP.out hzt hzne hzy hcl hcat] at HCH
      have hk := bK_in hl HPP.out hzt hzne
      have he := heq.out
      rw [← hz, bA_cons HPP.out hzt hzne, hz, List.drop_drop, ← hz] at he
      rw [hzl] at hk
      obtain ⟨⟨p, q⟩, hpq⟩ : ∃ c, c = bC L z := ⟨_, rfl⟩
      obtain ⟨⟨t, s⟩, hts2⟩ : ∃ c, c = bK L z := ⟨_, rfl⟩
      simp only [← hpq, ← hts2] at HCH
      rw [← hts2] at he hk
      dsimp only [cN] at HCH he hk
      obtain ⟨hk1, hk2, hk3⟩ := hk
      have HE : Hid ((ts ++ [t]) ++ bA L (x.drop (a + s)) = bA L x) := by show _ = _; rw [List.append_assoc]; exact he
      have hxa : (decide ((0 : Int) ≤ (a : Int) ∧ (a : Int) < (n : Int))) = true := decide_eq_true ⟨by omega, by omega⟩
      have hsl := slice_costs G a N haN
      have hwd : Below wr.heap.size wr wr.drew := (Below.refl _ _).drew
      have hwa : Below wr.heap.size wr (wr.alloc (.cells #[.int .i64 0, .int .i64 0] 95)).drew := ((Below.refl _ _).alloc (Nat.le_refl _) _).drew
      have HCD := HCH _ hwd
      have HCA := HCH _ hwa
      have HBd := hid (below_more hB.out hwd)
      have HBa := hid (below_more hB.out hwa)
      have HOd := hid (ownsRow_below hown.out hwd)
      have HOa := hid (ownsRow_below hown.out hwa)
      have HNW : Hid ((wr.alloc (.cells #[.int .i64 0, .int .i64 0] 95)).drew.heap[wr.heap.size]? = some (.cells #[.int .i64 0, .int .i64 0] 95 (0, 0))) := heap_alloc_new wr _
      have HNL : Hid (wr.heap.size < (wr.alloc (.cells #[.int .i64 0, .int .i64 0] 95)).drew.heap.size) := by show _ < (wr.alloc (.cells #[.int .i64 0, .int .i64 0] 95)).heap.size; simp
      have HOL := hid (fun q hq => (hown.out.lt q hq).2)
      have HWL : Hid (w1.heap.size ≤ wr.heap.size) := hB.out.size
      have c3 := fun o : Obj => keeps ((Below.refl wr.heap.size wr).alloc (Nat.le_refl _) o) _ _ c1
      clear hzl hzt hzy hzne hcl hcat hRR hcs hyne hpq hts2 hz HRS hHS hwd hwa hRw he heq HCH
      go_wp2
      go_region_law (first
        | (go_simp; go_at_call 60; refine (HCD.out).mono ?_; rintro e w2 ⟨rfl, hb2⟩; have HSZ2 := hid hb2.size; have HB2 := hid (below_more HBd.out hb2); have HO2 := hid (ownsRow_below HOd.out hb2); clear hb2)
        | (go_simp; go_at_call 60; refine (HCA.out).mono ?_; rintro e w2 ⟨rfl, hb2⟩; have HB2 := hid (below_more HBa.out hb2); have HO2 := hid (ownsRow_below HOa.out hb2); have hn2 := (hb2.block _ HNL.out).trans HNW.out; have HN2 := hid hn2; have f60 := hit_frozen hn2 0; have f61 := hit_frozen hn2 1; obtain ⟨c60, c61⟩ := hit_cells2 hn2; clear hb2 hn2))
      · have HP3 : Hid ((w2.alloc (.cells #[.int .i64 (t : Int), .int .i64 (s : Int)] 95)).heap[w2.heap.size]? = some (.cells #[.int .i64 (t : Int), .int .i64 (s : Int)] 95 (0, 0))) := heap_alloc_new w2 _
        have HB3 : Hid (Below w1.heap.size w1 (w2.alloc (.cells #[.int .i64 (t : Int), .int .i64 (s : Int)] 95))) := HB2.out.alloc HB2.out.size _
        have HO3 := hid (ownsRow_below HO2.out ((Below.refl _ _).alloc (Nat.le_refl _) (.cells #[.int .i64 (t : Int), .int .i64 (s : Int)] 95)))
        have HLT := hid (fun q hq => Nat.ne_of_lt (Nat.lt_of_lt_of_le (HOL.out q hq) HSZ2.out))
        generalize w2.alloc (.cells #[.int .i64 (t : Int), .int .i64 (s : Int)] 95) = w3 at HP3 HB3 HO3 ⊢
        generalize w2.heap.size = p6 at HP3 HLT ⊢
        obtain ⟨c60, c61⟩ := hit_cells2 HP3.out
        have hw3 : w1.heap.size ≤ w3.heap.size := HB3.out.size
        have HQ3 := fun o : Obj => hid ((Below.heap_alloc w3 o p6 (Array.getElem?_eq_some_iff.1 HP3.out).1).trans HP3.out)
        have HL3 : Hid (p6 < w3.heap.size) := (Array.getElem?_eq_some_iff.1 HP3.out).1
        clear hown
        go_wp2_with (first
          | (at_builtin; refine wpList_append_intsG rfl (.tmp 25) (.tmp 28) rfl w1.heap.size _ (ints ts) rfl (HO3.out.alloc _) _ [(t : Int)] rfl (reads_built _ #[.int .i64 (t : Int)] _ 1 rfl) (by rw [ints_length]; simp; omega) (by simp; omega) ?_; intro v' w4 hown4 hgr4; have HOW := hid hown4; have HGR := hid hgr4; obtain ⟨d60, d61⟩ := hit_cells2 ((hgr4.block p6 (by have := HL3.out; simp; omega) (fun e => HLT.out p6 e.symm rfl)).trans (HQ3 _).out); clear hown4 hgr4))
        have HB4 : Hid (Below w1.heap.size w1 w4) := (HB3.out.alloc HB3.out.size _).grown HGR.out (by simp; omega) (fun g hg => (HO3.out.lt g hg).1)
        have HO4 : Hid (w4.ownsRow w1.heap.size 3 1 v' (ints (ts ++ [t])).length (nats (ints (ts ++ [t])))) := by
          have e : ints (ts ++ [t]) = ints ts ++ [(t : Int)] := by simp [ints]
          show World.ownsRow _ _ _ _ _ _ _
          rw [e]; exact HOW.out
        go_roundw
        case rel => exact ⟨a + s, ts ++ [t], by go_num, by omega, by simp; omega, HO4.out, HE.out, HB4.out⟩
        case measure => simp [intOf]; omega
      · have HP3 : Hid (((w2.setCell ⟨wr.heap.size, 0, none⟩ (.int .i64 (t : Int))).setCell ⟨wr.heap.size, 1, none⟩ (.int .i64 (s : Int))).heap[wr.heap.size]? = some (.cells #[.int .i64 (t : Int), .int .i64 (s : Int)] 95 (0, 0))) := pair_set HN2.out
        have HB3 : Hid (Below w1.heap.size w1 ((w2.setCell ⟨wr.heap.size, 0, none⟩ (.int .i64 (t : Int))).setCell ⟨wr.heap.size, 1, none⟩ (.int .i64 (s : Int)))) := pair_set_below HB2.out HWL.out
        have HO3 := hid (ownsRow_same HO2.out (w' := (w2.setCell ⟨wr.heap.size, 0, none⟩ (.int .i64 (t : Int))).setCell ⟨wr.heap.size, 1, none⟩ (.int .i64 (s : Int))) (fun g hg => pair_set_other (Nat.ne_of_lt (HOL.out g hg))))
        have HLT := hid (fun q hq => Nat.ne_of_lt (HOL.out q hq))
        generalize (w2.setCell ⟨wr.heap.size, 0, none⟩ (.int .i64 (t : Int))).setCell ⟨wr.heap.size, 1, none⟩ (.int .i64 (s : Int)) = w3 at HP3 HB3 HO3 ⊢
        generalize wr.heap.size = p6 at HP3 HLT ⊢
        obtain ⟨c60, c61⟩ := hit_cells2 HP3.out
        have hw3 : w1.heap.size ≤ w3.heap.size := HB3.out.size
        have HQ3 := fun o : Obj => hid ((Below.heap_alloc w3 o p6 (Array.getElem?_eq_some_iff.1 HP3.out).1).trans HP3.out)
        have HL3 : Hid (p6 < w3.heap.size) := (Array.getElem?_eq_some_iff.1 HP3.out).1
        clear hown
        go_wp2_with (first
          | (at_builtin; refine wpList_append_intsG rfl (.tmp 25) (.tmp 28) rfl w1.heap.size _ (ints ts) rfl (HO3.out.alloc _) _ [(t : Int)] rfl (reads_built _ #[.int .i64 (t : Int)] _ 1 rfl) (by rw [ints_length]; simp; omega) (by simp; omega) ?_; intro v' w4 hown4 hgr4; have HOW := hid hown4; have HGR := hid hgr4; obtain ⟨d60, d61⟩ := hit_cells2 ((hgr4.block p6 (by have := HL3.out; simp; omega) (fun e => HLT.out p6 e.symm rfl)).trans (HQ3 _).out); clear hown4 hgr4))
        have HB4 : Hid (Below w1.heap.size w1 w4) := (HB3.out.alloc HB3.out.size _).grown HGR.out (by simp; omega) (fun g hg => (HO3.out.lt g hg).1)
        have HO4 : Hid (w4.ownsRow w1.heap.size 3 1 v' (ints (ts ++ [t])).length (nats (ints (ts ++ [t])))) := by
          have e : ints (ts ++ [t]) = ints ts ++ [(t : Int)] := by simp [ints]
          show World.ownsRow _ _ _ _ _ _ _
          rw [e]; exact HOW.out
        go_roundw
        case rel => exact ⟨a + s, ts ++ [t], by go_num, by omega, by simp; omega, HO4.out, HE.out, HB4.out⟩
        case measure => simp [intOf]; omega
      · have HP3 : Hid (((w2.setCell ⟨wr.heap.size, 0, none⟩ (.int .i64 (t : Int))).setCell ⟨wr.heap.size, 1, none⟩ (.int .i64 (s : Int))).heap[wr.heap.size]? = some (.cells #[.int .i64 (t : Int), .int .i64 (s : Int)] 95 (0, 0))) := pair_set HN2.out
        have HB3 : Hid (Below w1.heap.size w1 ((w2.setCell ⟨wr.heap.size, 0, none⟩ (.int .i64 (t : Int))).setCell ⟨wr.heap.size, 1, none⟩ (.int .i64 (s : Int)))) := pair_set_below HB2.out HWL.out
        have HO3 := hid (ownsRow_same HO2.out (w' := (w2.setCell ⟨wr.heap.size, 0, none⟩ (.int .i64 (t : Int))).setCell ⟨wr.heap.size, 1, none⟩ (.int .i64 (s : Int))) (fun g hg => pair_set_other (Nat.ne_of_lt (HOL.out g hg))))
        have HLT := hid (fun q hq => Nat.ne_of_lt (HOL.out q hq))
        generalize (w2.setCell ⟨wr.heap.size, 0, none⟩ (.int .i64 (t : Int))).setCell ⟨wr.heap.size, 1, none⟩ (.int .i64 (s : Int)) = w3 at HP3 HB3 HO3 ⊢
        generalize wr.heap.size = p6 at HP3 HLT ⊢
        obtain ⟨c60, c61⟩ := hit_cells2 HP3.out
        have hw3 : w1.heap.size ≤ w3.heap.size := HB3.out.size
        have HQ3 := fun o : Obj => hid ((Below.heap_alloc w3 o p6 (Array.getElem?_eq_some_iff.1 HP3.out).1).trans HP3.out)
        have HL3 : Hid (p6 < w3.heap.size) := (Array.getElem?_eq_some_iff.1 HP3.out).1
        clear hown
        go_wp2_with (first
          | (at_builtin; refine wpList_append_intsG rfl (.tmp 25) (.tmp 28) rfl w1.heap.size _ (ints ts) rfl (HO3.out.alloc _) _ [(t : Int)] rfl (reads_built _ #[.int .i64 (t : Int)] _ 1 rfl) (by rw [ints_length]; simp; omega) (by simp; omega) ?_; intro v' w4 hown4 hgr4; have HOW := hid hown4; have HGR := hid hgr4; obtain ⟨d60, d61⟩ := hit_cells2 ((hgr4.block p6 (by have := HL3.out; simp; omega) (fun e => HLT.out p6 e.symm rfl)).trans (HQ3 _).out); clear hown4 hgr4))
        have HB4 : Hid (Below w1.heap.size w1 w4) := (HB3.out.alloc HB3.out.size _).grown HGR.out (by simp; omega) (fun g hg => (HO3.out.lt g hg).1)
        have HO4 : Hid (w4.ownsRow w1.heap.size 3 1 v' (ints (ts ++ [t])).length (nats (ints (ts ++ [t])))) := by
          have e : ints (ts ++ [t]) = ints ts ++ [(t : Int)] := by simp [ints]
          show World.ownsRow _ _ _ _ _ _ _
          rw [e]; exact HOW.out
        go_roundw
        case rel => exact ⟨a + s, ts ++ [t], by go_num, by omega, by simp; omega, HO4.out, HE.out, HB4.out⟩
        case measure => simp [intOf]; omega
    · obtain rfl : a = n := by omega
      have hd : x.drop a = [] := List.drop_eq_nil_of_le (by rw [HXL.out]; omega)
      have he := heq.out
      rw [hd, bA_nil, List.append_nil] at he
      subst he
      go_wp2
      go_ret
      exact ⟨_, rfl, ownsRow_lower hown.out HSZ1.out, below_more HB1.out hB.out⟩

/-- A part of the rows of steps. -/
theorem slice_steps (g fr k N : Nat) (hf : fr < N) (hk : fr + k ≤ N) (j : Nat) (hj : j = fr + k) (W : World) : (Instr.slice 59 (.slice (some ⟨g, 0, none⟩) N N) (some (.int .i64 (fr : Int))) (some (.int .i64 (j : Int))) none).run Tryz.prog W = .ok (.slice (some ⟨g, fr, none⟩) k (N - fr)) W := by
  subst hj
  rw [run_slice_lh W _ _ N N Tryz.elemSx .i64 .i64 (fr : Int) ((fr + k : Nat) : Int) (by omega) (by omega) (by omega), Tryz.sizeSx, Int.toNat_natCast, Int.toNat_natCast]
  have h1 : fr + k - fr = k := by omega
  by_cases h0 : fr = 0
  · subst h0
    simp [Result.andThen_ok, sliced, Addr.add]
  · simp [Result.andThen_ok, sliced, if_neg (show ¬ N = fr by omega), Option.map_some, Addr.add, h0, h1]

theorem bW_nil (L : List ByteArray) (n : Nat) : bW L n [] = [] := winT_nil _ _ _ _ _
theorem bW_cons (L : List ByteArray) (n : Nat) (hn : 0 < n) (x : List Nat) (hx : x ≠ []) : bW L n x = bA L (x.take n) ++ bW L n (x.drop n) := winT_cons _ _ _ _ n hn x hx

theorem parseB_off (w : World) (d : Value) (b : ByteArray) (n : Int) (hb : b.size ≤ 1000) (h : n < 1 ∨ 1024 < n) :
    Calls Tryz.prog 7 #[d, .string b, .int .i64 n] w fun e w' => e = .returned (.slice none 0 0) ∧ w' = w := by
  have h0 : decide ((1024 : Int) < (b.size : Int)) = false := decide_eq_false (by omega)
  by_cases h1 : n < 1
  · have hd1 : decide (n < 1) = true := decide_eq_true h1
    go_enter Tryz.func7, Tryz.ntmps7
    go_wp2
    go_ret
    exact ⟨rfl, rfl⟩
  · have hd1 : decide (n < 1) = false := decide_eq_false h1
    have hd2 : decide (1024 < n) = true := decide_eq_true (by omega)
    go_enter Tryz.func7, Tryz.ntmps7
    go_wp2
    go_ret
    exact ⟨rfl, rfl⟩

set_option maxRecDepth 20000 in
set_option maxHeartbeats 4000000 in
theorem parseB_any {w : World} {d : Value} {L : List ByteArray} (h : DictV w d L) (hL : Fine L) (b : ByteArray) (hb : b.size ≤ 1000) (n : Nat) (hn : 1 ≤ n) (hn2 : n ≤ 1024) :
    Calls Tryz.prog 7 #[d, .string b, .int .i64 (n : Int)] w fun e w' => ∃ v', e = .returned v' ∧ w'.ownsRow w.heap.size 3 1 v' (ints (bW L n (nums b))).length (nats (ints (bW L n (nums b)))) ∧ Below w.heap.size w w' := by
  have HST := hid (steps_any h hL b hb)
  have hP := phrases_short hL
  have hl := hL.1
  have HP := hid hP
  have HT := hid (txt_nums b hb)
  have h0 : decide ((1024 : Int) < (b.size : Int)) = false := decide_eq_false (by omega)
  have hd1 : decide ((n : Int) < 1) = false := decide_eq_false (by omega)
  have hd2 : decide ((1024 : Int) < (n : Int)) = false := decide_eq_false (by omega)
  clear h hP hL
  go_enter Tryz.func7, Tryz.ntmps7
  go_wp2_with (go_at_call 25; refine (HST.out).mono ?_; rintro e w1 ⟨g, V, rfl, hs1, hg1, hb1⟩; have HS1 := hid hs1; have HB1 := hid hb1; have HSZ := hid hb1.size; clear hs1 hg1 hb1)
  clear HST
  go_loopw [7, 9] (fun u vi wr => ∃ (a : Nat) (ts : List Nat), vi = .int .i64 a ∧ a ≤ b.size + n ∧ ts.length ≤ min a b.size ∧ Hid (wr.ownsRow w1.heap.size 3 1 u (ints ts).length (nats (ints ts))) ∧ Hid (ts ++ bW L n ((nums b).drop a) = bW L n (nums b)) ∧ Hid (Below w1.heap.size w1 wr)) (fun _ vi _ => b.size - (intOf vi).toNat)
  case atStart => exact ⟨0, [], rfl, by omega, by simp, World.ownsRow_nil _ _ _ _, by show _ = _; simp, Below.refl _ _⟩
  case round =>
    obtain ⟨a, ts, rfl, ha, hts, hown, heq, hB⟩ := hrel
    by_cases hin : a < b.size
    · have hd3 : decide ((a : Int) < (b.size : Int)) = true := decide_eq_true (by omega)
      have hne : (nums b).drop a ≠ [] := by
        intro e
        have := congrArg List.length e
        rw [List.length_drop, nums_length] at this
        simp at this
        omega
      obtain ⟨k, hk⟩ : ∃ k, k = min n (b.size - a) := ⟨_, rfl⟩
      have he := heq.out
      rw [bW_cons L n (by omega) _ hne, List.drop_drop] at he
      have hte : ((nums b).drop a).take n = ((nums b).drop a).take k := by
        by_cases hc : n ≤ b.size - a
        · rw [hk, Nat.min_eq_left hc]
        · rw [List.take_of_length_le (by rw [List.length_drop, nums_length]; omega), List.take_of_length_le (by rw [List.length_drop, nums_length, hk]; omega)]
      rw [hte] at he
      have hfew := bA_few HP.out ((HT.out.drop a).take k)
      rw [List.length_take, List.length_drop, nums_length] at hfew
      have HCH := hid (cheapest_any (cap := b.size - a) (HS1.out.below hB.out) hl HP.out HT.out (fr := a) (n := k) (by rw [nums_length]; omega))
      obtain ⟨ys, hys⟩ : ∃ ys, ys = bA L (((nums b).drop a).take k) := ⟨_, rfl⟩
      rw [← hys] at he hfew HCH
      have HE : Hid ((ts ++ ys) ++ bW L n ((nums b).drop (a + n)) = bW L n (nums b)) := by show _ = _; rw [List.append_assoc]; exact he
      obtain ⟨j, hj⟩ : ∃ j, j = a + k := ⟨_, rfl⟩
      have hsl := slice_steps g a k b.size hin (by omega) j hj
      have hw1 : w1.heap.size ≤ wr.heap.size := hB.out.size
      obtain ⟨e0, he0⟩ : ∃ e0, e0 = a + n := ⟨_, rfl⟩
      have hsum : (a : Int) + (n : Int) = (e0 : Int) := by omega
      have HK := hid hk
      have HJ := hid hj
      have HE0 := hid he0
      have hmn : min (e0 : Int) (b.size : Int) = (j : Int) := by omega
      have hkb : k ≤ b.size := by omega
      have hjk : a + k ≤ b.size := by omega
      have hak : min a b.size + k ≤ min (a + n) b.size := by omega
      clear he heq hne hte hys hk hj he0
      go_wp2_with (first
        | (go_at_call 26; refine (HCH.out).mono ?_; rintro e w2 ⟨v2, rfl, ho2, hb2⟩; have HR2 := hid (ownsRow_reads ho2); have HO2 := hid (ownsRow_below hown.out hb2); have HB2 := hid (below_more hB.out hb2); have hz2 := HB2.out.size; clear ho2 hb2)
        | (at_builtin; refine wpList_append_ints rfl (.tmp 31) (.tmp 41) rfl w1.heap.size _ (ints ts) rfl HO2.out _ (ints ys) rfl HR2.out (by rw [ints_length, ints_length]; omega) (by omega) ?_; intro v' w4 hown4 hb4))
      have HB4 : Hid (Below w1.heap.size w1 w4) := HB2.out.trans hb4
      have HO4 : Hid (w4.ownsRow w1.heap.size 3 1 v' (ints (ts ++ ys)).length (nats (ints (ts ++ ys)))) := by
        have e : ints (ts ++ ys) = ints ts ++ ints ys := by simp [ints]
        show World.ownsRow _ _ _ _ _ _ _
        rw [e]; exact hown4
      clear hown4 hb4 hown hB
      go_roundw
      case rel => exact ⟨a + n, ts ++ ys, by rw [← HE0.out], by omega, by rw [List.length_append]; omega, HO4.out, HE.out, HB4.out⟩
      case measure => have := HE0.out; simp [intOf]; omega
    · have hd : (nums b).drop a = [] := List.drop_eq_nil_of_le (by rw [nums_length]; omega)
      have he := heq.out
      rw [hd, bW_nil, List.append_nil] at he
      subst he
      go_wp2
      go_ret
      exact ⟨_, rfl, ownsRow_lower hown.out HSZ.out, below_more HB1.out hB.out⟩

set_option maxRecDepth 20000 in
set_option maxHeartbeats 4000000 in
theorem costsB_any {w : World} {d : Value} {L : List ByteArray} (h : DictV w d L) (hL : Fine L) (b : ByteArray) (hb : b.size ≤ 1000) :
    Calls Tryz.prog 8 #[d, .string b] w fun e w' => ∃ v', e = .returned v' ∧ w'.ownsRow w.heap.size 43 1 v' (b.size + 1) (cNs (bCs L (nums b))) ∧ Below w.heap.size w w' := by
  have HST := hid (steps_any h hL b hb)
  have hP := phrases_short hL
  have hl := hL.1
  have HP := hid hP
  have HT := hid (txt_nums b hb)
  have h0 : decide ((1024 : Int) < (b.size : Int)) = false := decide_eq_false (by omega)
  have hy : (((nums b).drop 0).take b.size) = nums b := by rw [List.drop_zero, List.take_of_length_le (by rw [nums_length]; exact Nat.le_refl _)]
  have HY := hid hy
  clear h hP hL hy
  go_enter Tryz.func8, Tryz.ntmps8
  go_wp2_with (first
    | (go_at_call 25; refine (HST.out).mono ?_; rintro e w1 ⟨g, V, rfl, hs1, hg1, hb1⟩; have HS1 := hid hs1; have HB1 := hid hb1; have HSZ := hid hb1.size; clear hs1 hg1 hb1)
    | (go_at_call 27; refine (behind_any (cap := b.size) HS1.out hl HP.out HT.out (fr := 0) (n := b.size) (by rw [nums_length]; omega)).mono ?_; rintro e w2 ⟨G, rfl, hG, hR, hb2⟩; have HR := hid hR; have HG := hid hG; have HB2 := hid hb2; clear hG hR hb2))
  go_ret
  refine ⟨_, rfl, ?_, below_more HB1.out HB2.out⟩
  have hr := HR.out
  rw [HY.out] at hr
  refine rowIs_ownsX hr (Nat.le_trans HSZ.out HG.out) _ (by rw [cNs_length, bCs_length, nums_length]) (by unfold maxLen; omega) (fun i hi => ?_)
  have hl2 : i < (bCs L (nums b)).length := by rw [bCs_length, nums_length]; exact hi
  rw [cNs_at _ i hl2]
  congr 2
  have h1 := bCs_at L (nums b) i (by rw [nums_length]; omega)
  rw [List.getD_eq_getElem?_getD, List.getElem?_eq_getElem hl2, Option.getD_some] at h1
  exact h1
end Go.Proofs.YtdplflcaanmmiaaGreat
