/-
  Texts as lists of numbers, and back. No Go here. What calls leave of memory: nothing but some blocks has turned, new ones may have come; and what of that outlasts what. Slices: what they read as; rows of a call's own, what is appended to them, and what of them outlasts what. Lists of texts as cells: what the proofs of this seat share. Numbers as bytes of seven bits, the lowest first: how many there are, which they are, and what bytes tell, byte by byte. No Go here: numbers and lists alone. Dictionaries as lists of texts: which may be, what bytes they have, and how bytes are cut into phrases. No Go here: lists and numbers alone. Lists of numbers as cells: bytes, ints.
-/
import Derived.Laws.BitsLemmas
import Derived.WalkKit
import Derived.Laws.BytesArg
import Derived.ProofKit
import Derived.OpenShut
import Derived.Below
import Derived.Deep.QuietTactic
import Derived.BigQuiet
import Derived.Deep.OwnRows
import Derived.Deep.AppendLies
import Derived.Laws.Concat
import Derived.Test.YtdplflcaanmmiaaGreatRows
import Derived.WalkSmall
import Derived.Handy
import Derived.RegionTactic
import Derived.Deep.RegionWith
import Derived.Deep.RegionLaw
import Derived.Deep.RegionHeldLaw
import Derived.BigRegion
namespace Go.Proofs.YtdplflcaanmmiaaGreat

/-- A text as the numbers of its bytes, and back. -/
def nums (b : ByteArray) : List Nat := b.data.toList.map UInt8.toNat
def bytesOf (xs : List Nat) : ByteArray := ⟨(xs.map UInt8.ofNat).toArray⟩

theorem nums_length (b : ByteArray) : (nums b).length = b.size := by unfold nums; rw [List.length_map, Array.length_toList]; rfl

theorem nums_byte (b : ByteArray) : ∀ x ∈ nums b, x < 256 := by
  intro x hx
  simp only [nums, List.mem_map] at hx
  obtain ⟨y, _, rfl⟩ := hx
  exact UInt8.toNat_lt y

theorem nums_append (a b : ByteArray) : nums (a ++ b) = nums a ++ nums b := by unfold nums; rw [ByteArray.data_append, Array.toList_append, List.map_append]

theorem bytesOf_nums (b : ByteArray) : bytesOf (nums b) = b := by
  apply ByteArray.ext
  simp [bytesOf, nums, List.map_map, Function.comp_def]

theorem nums_bytesOf (xs : List Nat) (h : ∀ x ∈ xs, x < 256) : nums (bytesOf xs) = xs := by
  simp only [bytesOf, nums, List.map_map, Function.comp_def]
  induction xs with
  | nil => rfl
  | cons x xs ih =>
    rw [List.map_cons, ih (fun y hy => h y (List.mem_cons_of_mem _ hy))]
    rw [UInt8.toNat_ofNat', Nat.mod_eq_of_lt (h x List.mem_cons_self)]

theorem nums_inj (a b : ByteArray) (h : nums a = nums b) : a = b := by rw [← bytesOf_nums a, ← bytesOf_nums b, h]

theorem bytesOf_size (xs : List Nat) : (bytesOf xs).size = xs.length := by simp [bytesOf, ByteArray.size]

theorem bytesOf_append (xs ys : List Nat) : bytesOf xs ++ bytesOf ys = bytesOf (xs ++ ys) := by
  apply ByteArray.ext
  simp [bytesOf]

theorem bytesOf_strs (xs : List Nat) : strOfNums (xs.map fun x : Nat => (x : Int)) = bytesOf xs := by
  simp [strOfNums, bytesOf, List.map_map, Function.comp_def]

theorem nums_extract (b : ByteArray) (i j : Nat) : nums (b.extract i j) = ((nums b).drop i).take (j - i) := by
  simp [nums, List.map_take, List.map_drop, ByteArray.data_extract]

theorem nums_at (b : ByteArray) (i : Nat) (h : i < b.size) : (nums b)[i]'(by rw [nums_length]; exact h) = (b[i]'h).toNat := by
  simp [nums]
  rfl

theorem drop_nums (b : ByteArray) (i : Nat) (h : i < b.size) : (nums b).drop i = (b[i]'h).toNat :: (nums b).drop (i + 1) := by
  rw [List.drop_eq_getElem_cons (by rw [nums_length]; exact h), nums_at b i h]

theorem take_nums (b : ByteArray) (i : Nat) (h : i < b.size) : (nums b).take (i + 1) = (nums b).take i ++ [(b[i]'h).toNat] := by
  rw [List.take_succ_eq_append_getElem (by rw [nums_length]; exact h), nums_at b i h]

theorem take_all (b : ByteArray) : (nums b).take b.size = nums b := List.take_of_length_le (by rw [nums_length]; exact Nat.le_refl _)
end Go.Proofs.YtdplflcaanmmiaaGreat

namespace Go.Proofs.YtdplflcaanmmiaaGreat
open Go.ChangeShapes Go.WideShapes Go.ChangeAt Go.RowKit

/-- Nothing but the blocks of S has turned; new blocks may have come. -/
structure Kept (S : Nat → Prop) (w w' : World) : Prop where
  os : w'.os = w.os
  tape : w'.tape = w.tape
  output : w'.output = w.output
  size : w.heap.size ≤ w'.heap.size
  block : ∀ k, k < w.heap.size → ¬ S k → w'.heap[k]? = w.heap[k]?

theorem Kept.refl (S : Nat → Prop) (w : World) : Kept S w w := ⟨rfl, rfl, rfl, Nat.le_refl _, fun _ _ _ => rfl⟩

theorem Kept.drewN (S : Nat → Prop) (w : World) (n : Nat) : Kept S w (w.drewN n) := by
  induction n generalizing w with
  | zero => exact Kept.refl S w
  | succ n ih => have h := ih w.drew; exact ⟨h.os, h.tape, h.output, h.size, h.block⟩

theorem Kept.trans {S : Nat → Prop} {a b c : World} (h : Kept S a b) (k : Kept S b c) : Kept S a c :=
  ⟨k.os.trans h.os, k.tape.trans h.tape, k.output.trans h.output, Nat.le_trans h.size k.size, fun i hi hn => (k.block i (Nat.lt_of_lt_of_le hi h.size) hn).trans (h.block i hi hn)⟩

theorem Kept.alloc {S : Nat → Prop} {w w' : World} (h : Kept S w w') (o : Obj) : Kept S w (w'.alloc o) :=
  h.trans ⟨rfl, rfl, rfl, by simp, fun k hk _ => Below.heap_alloc _ _ _ hk⟩

theorem Kept.setCell {S : Nat → Prop} {w w' : World} (h : Kept S w w') (p o : Nat) (v : Value) (hp : S p) : Kept S w (w'.setCell ⟨p, o, none⟩ v) :=
  ⟨h.os, h.tape, h.output, by have := h.size; simp only [World.setCell, Array.size_modify]; exact this, fun k hk hn => by
    rw [Below.heap_setCell _ _ _ _ (by intro e; exact hn (by simpa [e] using hp))]
    exact h.block k hk hn⟩

/-- What a call leaves of memory below its own blocks. -/
theorem Kept.below {S : Nat → Prop} {w w' : World} (h : Kept S w w') {B : Nat} (hB : B ≤ w.heap.size) (hS : ∀ k, S k → B ≤ k) : Below B w w' :=
  ⟨h.os, h.tape, h.output, h.size, fun k hk => h.block k (Nat.lt_of_lt_of_le hk hB) (fun hs => by have := hS k hs; omega)⟩

theorem drewN_below (w : World) (n B : Nat) : Below B w (w.drewN n) := by
  have h := Kept.drewN (fun _ => False) w n
  have e : (w.drewN n).heap = w.heap := by
    clear h
    induction n generalizing w with
    | zero => rfl
    | succ n ih => exact ih (w := w.drew)
  exact ⟨h.os, h.tape, h.output, h.size, fun k _ => by rw [e]⟩

theorem below_kept {w w' : World} (h : Below w.heap.size w w') (S : Nat → Prop) : Kept S w w' :=
  ⟨h.os, h.tape, h.output, h.size, fun k hk _ => h.block k hk⟩

theorem below_then {w x y : World} {p : Nat} (h : Below w.heap.size w x) (k : Kept (· = p) x y) (hp : w.heap.size ≤ p) : Below w.heap.size w y :=
  h.trans (k.below h.size (by rintro q rfl; exact hp))

theorem below_more {w x y : World} (h : Below w.heap.size w x) (k : Below x.heap.size x y) : Below w.heap.size w y := h.trans (k.mono h.size)
end Go.Proofs.YtdplflcaanmmiaaGreat

namespace Go.Proofs.YtdplflcaanmmiaaGreat
open Go.ChangeShapes Go.WideShapes Go.ChangeAt Go.RowKit

theorem hid {p : Prop} (h : p) : Hid p := h

/-- A slice whose elements, of one cell each, read as these. -/
def Reads (w : World) (v : Value) (cs : List Value) : Prop :=
  ∃ a cap, v = .slice a cs.length cap ∧ (cs.length = 0 ∨ ∃ b off, a = some ⟨b, off, none⟩ ∧ b < w.heap.size ∧ ∀ i, i < cs.length → w.cell? ⟨b, off + i, none⟩ = cs[i]?)

theorem Reads.same {w w' : World} {v : Value} {cs : List Value} (h : Reads w v cs) (hs : w.heap.size ≤ w'.heap.size) (hb : ∀ a n c, v = .slice (some a) n c → n ≠ 0 → w'.heap[a.block]? = w.heap[a.block]?) : Reads w' v cs := by
  obtain ⟨a, cap, rfl, h0 | ⟨b, off, rfl, hlt, hc⟩⟩ := h
  · exact ⟨a, cap, rfl, .inl h0⟩
  · by_cases h0 : cs.length = 0
    · exact ⟨_, cap, rfl, .inl h0⟩
    · refine ⟨_, cap, rfl, .inr ⟨b, off, rfl, by omega, fun i hi => ?_⟩⟩
      exact (World.cell?_of_block (w := w) (a := ⟨b, off + i, none⟩) (hb ⟨b, off, none⟩ _ _ rfl h0)).trans (hc i hi)

theorem Reads.below {w w' : World} {v : Value} {cs : List Value} (h : Reads w v cs) (hb : Below w.heap.size w w') : Reads w' v cs := by
  obtain ⟨a, cap, rfl, h0 | ⟨b, off, rfl, hlt, hc⟩⟩ := h
  · exact ⟨a, cap, rfl, .inl h0⟩
  · exact ⟨_, cap, rfl, .inr ⟨b, off, rfl, Nat.lt_of_lt_of_le hlt hb.size, fun i hi => by rw [hb.cell (p := ⟨b, off + i, none⟩) hlt]; exact hc i hi⟩⟩

theorem Reads.drew {w : World} {v : Value} {cs : List Value} (h : Reads w v cs) : Reads w.drew v cs := h

theorem reads_nil (w : World) : Reads w (.slice none 0 0) [] := ⟨none, 0, rfl, .inl rfl⟩

/-- A slice that was just built of values. -/
theorem reads_built (w : World) (c : Array Value) (t : TypeId) (n : Nat) (hn : c.size = n) : Reads (w.alloc (.cells c t)) (.slice (some ⟨w.heap.size, 0, none⟩) n n) c.toList := by
  have hh : (w.alloc (.cells c t)).heap[w.heap.size]? = some (.cells c t (0, 0)) := heap_alloc_new w _
  refine ⟨_, n, by rw [Array.length_toList, hn], .inr ⟨w.heap.size, 0, rfl, by simp, fun i _ => ?_⟩⟩
  rw [Nat.zero_add, cell_of_row _ _ _ _ _ _ hh]
  simp

/-- A row of one's own reads as what it holds. -/
theorem ownsRow_reads {w : World} {base : Nat} {e : TypeId} {v : Value} {n : Nat} {xs : List Value} (h : w.ownsRow base e 1 v n xs) : Reads w v xs := by
  have hl : xs.length = n := by have := h.1; omega
  rcases h.2 with ⟨rfl, rfl⟩ | ⟨g, cap, cur, rfl, hb, hg, hnc, hcm, hcs, ht⟩
  · exact ⟨none, 0, by rw [hl], .inl hl⟩
  · refine ⟨_, cap, by rw [hl], .inr ⟨g, 0, rfl, (Array.getElem?_eq_some_iff.1 hg).1, fun i hi => ?_⟩⟩
    rw [Nat.zero_add]
    exact World.ownsRow.cellAt h i (by omega)

theorem ownsRow_slice {w : World} {base : Nat} {e : TypeId} {size : Nat} {v : Value} {n : Nat} {xs : List Value} (h : w.ownsRow base e size v n xs) : ∃ ao cap, v = .slice ao n cap := by
  rcases h.2 with ⟨rfl, rfl⟩ | ⟨g, cap, cur, rfl, _⟩
  · exact ⟨_, _, rfl⟩
  · exact ⟨_, _, rfl⟩

theorem ownsRow_same {w w' : World} {base : Nat} {e : TypeId} {size : Nat} {v : Value} {n : Nat} {xs : List Value} (h : w.ownsRow base e size v n xs) (hs : ∀ g, v.ownBlock = some g → w'.heap[g]? = w.heap[g]?) : w'.ownsRow base e size v n xs := by
  refine ⟨h.1, ?_⟩
  rcases h.2 with hn | ⟨g, cap, cur, rfl, hb, hh, r⟩
  · exact .inl hn
  · exact .inr ⟨g, cap, cur, rfl, hb, (hs g rfl).trans hh, r⟩

theorem ownsRow_below {w w' : World} {base : Nat} {e : TypeId} {size : Nat} {v : Value} {n : Nat} {xs : List Value} (h : w.ownsRow base e size v n xs) (hb : Below w.heap.size w w') : w'.ownsRow base e size v n xs :=
  ownsRow_same h (fun g hg => hb.block g (h.lt g hg).2)

theorem ownsRow_lower {w : World} {base base' : Nat} {e : TypeId} {size : Nat} {v : Value} {n : Nat} {xs : List Value} (h : w.ownsRow base e size v n xs) (hb : base' ≤ base) : w.ownsRow base' e size v n xs := by
  refine ⟨h.1, ?_⟩
  rcases h.2 with hn | ⟨g, cap, cur, rfl, hbb, r⟩
  · exact .inl hn
  · exact .inr ⟨g, cap, cur, rfl, Nat.le_trans hb hbb, r⟩

/-- The block of a row of one's own holds elements of that type. -/
theorem ownsRow_block {w : World} {base : Nat} {e : TypeId} {size : Nat} {v : Value} {n : Nat} {xs : List Value} (h : w.ownsRow base e size v n xs) : ∀ g, v.ownBlock = some g → base ≤ g ∧ ∃ cur, w.heap[g]? = some (.cells cur e (0, 0)) := by
  intro g hg
  rcases h.2 with ⟨rfl, _⟩ | ⟨g', cap, cur, rfl, hb, hh, _⟩
  · simp [Value.ownBlock] at hg
  · simp [Value.ownBlock] at hg
    subst hg
    exact ⟨hb, cur, hh⟩

section
variable {P : Program} (w : World)

/-- append of at least one element to a row of one's own: where the new one lies, and that the elder value reads as ever. -/
theorem run_append_keeps (t ty : TypeId) (base : Nat) (e : TypeId) (i : TypeInfo) (z : Value) (size bytes : Nat) (ht : P.underlying t = some (.slice e)) (hi : P.info? e = some i) (hz : i.zero = some z)
    (hsize : i.size = size) (hby : i.bytes = bytes) (hzs : z.cells.size = size) (hsz : 0 < size)
    (v : Value) (n : Nat) (xs : List Value) (hown : w.ownsRow base e size v n xs)
    (ad : Addr) (m c : Nat) (news : List Value) (hl : news.length = m * size) (hnews : ∀ j u, news[j]? = some u → w.cell? (ad.add j) = some u) (h1 : ∀ u ∈ news, u.oneCell' = true)
    (hm : 0 < m) (h63 : n + m ≤ maxLen) (hbytes : (n + m) * bytes ≤ 140737488355328) (hbase : base ≤ w.heap.size) :
    ∃ g cap w', (Builtin.append_ #[t, t] ty #[v, .slice (some ad) m c]).run P w = .ok (.slice (some ⟨g, 0, none⟩) (n + m) cap) w' ∧
      w'.ownsRow base e size (.slice (some ⟨g, 0, none⟩) (n + m) cap) (n + m) (xs ++ news) ∧ w.grownBy w' v.ownBlock ∧ (v.ownBlock = some g ∨ g = w.heap.size) ∧ g < w'.heap.size ∧ w'.ownsRow base e size v n xs := by
  subst hsize
  subst hby
  have hsmall : n + m ≤ 9223372036854775807 := by simp only [maxLen] at h63; omega
  obtain ⟨g, cap, w', hr, h2, h3, h4, h5⟩ := run_append_lies (P := P) w t ty base e i z i.size i.bytes ht hi hz rfl rfl hzs hsz v n xs hown ad m c news hl hnews h1 hm h63 hbytes hbase _ rfl
  refine ⟨g, cap, w', hr, h2, h3, h4, h5, ?_⟩
  rcases hown.2 with ⟨rfl, rfl⟩ | ⟨g0, cap0, cur, rfl, hbg, hg, hnc, hcm, hcs, htake⟩
  · exact ⟨hown.1, .inl ⟨rfl, rfl⟩⟩
  · by_cases hroom : n + m ≤ cap0
    · have hfit : n * i.size + news.length ≤ cur.size := by rw [hl, hcs, ← Nat.add_mul]; exact Nat.mul_le_mul_right _ hroom
      have hr2 := run_append_room (P := P) w t ty e i ht hi g0 n cap0 cur hg ad m c news hl hnews h1 hroom hfit
      rw [hr] at hr2
      injection hr2 with hv hw
      subst hw
      refine ⟨hown.1, .inr ⟨g0, cap0, _, rfl, hbg, setRow_heap w g0 cur _ e _ hg, hnc, hcm, ?_, ?_⟩⟩
      · simp only [List.size_toArray, List.length_append, List.length_take, List.length_drop, Array.length_toList]
        omega
      · have hx := hown.1
        rw [List.append_assoc, htake, ← hx]
        exact List.take_left
    · have holds : ∀ j u, xs[j]? = some u → w.cell? ((⟨g0, 0, none⟩ : Addr).add j) = some u := hown.cells (g := g0) rfl
      have hr2 := run_append_grow (P := P) w t ty e i z ht hi hz ⟨g0, 0, none⟩ n cap0 xs hown.1 holds ad m c news hl hnews (by omega) (by omega) (growslice_fits (by omega) hbytes)
      rw [hr] at hr2
      injection hr2 with hv hw
      subst hw
      exact ⟨hown.1, .inr ⟨g0, cap0, cur, rfl, hbg, (Below.heap_alloc w.drew _ g0 (Array.getElem?_eq_some_iff.1 hg).1).trans hg, hnc, hcm, hcs, htake⟩⟩

/-- append of nothing to a row of one's own is that row. -/
theorem run_append_zero (t ty : TypeId) (base : Nat) (e : TypeId) (i : TypeInfo) (size : Nat) (ht : P.underlying t = some (.slice e)) (hi : P.info? e = some i)
    (v : Value) (n : Nat) (xs : List Value) (hown : w.ownsRow base e size v n xs) (ao : Option Addr) (c : Nat) :
    (Builtin.append_ #[t, t] ty #[v, .slice ao 0 c]).run P w = .ok v w := by
  rcases hown.2 with ⟨rfl, rfl⟩ | ⟨g, cap, cur, rfl, _, _, hnc, _⟩
  · cases ao <;> simp [Builtin.append_, run_underlying ht, sizeOf, typeInfo, hi, Builtin.lenOf, Builtin.firstCells, loadCells, loadCellsFrom]
  · cases ao <;> simp [Builtin.append_, run_underlying ht, sizeOf, typeInfo, hi, Builtin.lenOf, Builtin.firstCells, hnc, storeCells, loadCells, loadCellsFrom]

/-- append of what a slice reads as, to a row of one's own. -/
theorem run_append_reads (t ty : TypeId) (base : Nat) (e : TypeId) (i : TypeInfo) (z : Value) (bytes : Nat) (ht : P.underlying t = some (.slice e)) (hi : P.info? e = some i) (hz : i.zero = some z)
    (hsize : i.size = 1) (hby : i.bytes = bytes) (hzs : z.cells.size = 1)
    (v : Value) (n : Nat) (xs : List Value) (hown : w.ownsRow base e 1 v n xs)
    (u : Value) (news : List Value) (hu : Reads w u news) (h1 : ∀ u ∈ news, u.oneCell' = true)
    (h63 : n + news.length ≤ maxLen) (hbytes : (n + news.length) * bytes ≤ 140737488355328) (hbase : base ≤ w.heap.size) :
    ∃ v' w', (Builtin.append_ #[t, t] ty #[v, u]).run P w = .ok v' w' ∧
      w'.ownsRow base e 1 v' (n + news.length) (xs ++ news) ∧ w.grownBy w' v.ownBlock ∧ (v'.ownBlock = v.ownBlock ∨ v'.ownBlock = some w.heap.size) ∧ w'.ownsRow base e 1 v n xs := by
  obtain ⟨a, c, rfl, hr⟩ := hu
  by_cases h0 : news.length = 0
  · have hn : news = [] := List.eq_nil_of_length_eq_zero h0
    subst hn
    refine ⟨v, w, run_append_zero (P := P) w t ty base e i 1 ht hi v n xs hown a c, ?_, ⟨rfl, rfl, rfl, Nat.le_refl _, fun _ _ _ => rfl⟩, .inl rfl, hown⟩
    simpa using hown
  · rcases hr with hr | ⟨b, off, rfl, hlt, hc⟩
    · exact absurd hr h0
    · obtain ⟨g, cap, w', h2, h3, h4, h5, h6, h7⟩ := run_append_keeps (P := P) w t ty base e i z 1 bytes ht hi hz hsize hby hzs (by decide) v n xs hown ⟨b, off, none⟩ news.length c news (by simp) (fun j x hx => by
        have hj : j < news.length := by
          rcases Nat.lt_or_ge j news.length with h | h
          · exact h
          · rw [List.getElem?_eq_none h] at hx; cases hx
        rw [Go.WideShapes.add_plain, hc j hj]; exact hx) h1 (by omega) h63 hbytes hbase
      refine ⟨_, w', h2, h3, h4, ?_, h7⟩
      rcases h5 with h5 | h5
      · exact .inl (by rw [h5]; rfl)
      · exact .inr (by rw [h5]; rfl)

theorem wpList_append_reads {ops : Array Oper} {rest : List Oper} {o : Oper} {a : Act} {Q : Exit → Act → World → Prop} (hgd : o.guard = none) (s x : Operand) (t : TypeId)
    (ho : o.op = .call { callee := .builtin .append, args := #[s, x], argTypes := #[t, t] })
    (base : Nat) (e : TypeId) (i : TypeInfo) (z : Value) (bytes : Nat) (ht : P.underlying t = some (.slice e)) (hi : P.info? e = some i) (hz : i.zero = some z)
    (hsize : i.size = 1) (hby : i.bytes = bytes) (hzs : z.cells.size = 1)
    (v : Value) (n : Nat) (xs : List Value) (hs : a.eval s = v) (hown : w.ownsRow base e 1 v n xs)
    (u : Value) (news : List Value) (hx : a.eval x = u) (hu : Reads w u news) (h1 : ∀ u ∈ news, u.oneCell' = true)
    (h63 : n + news.length ≤ maxLen) (hbytes : (n + news.length) * bytes ≤ 140737488355328) (hbase : base ≤ w.heap.size)
    (h : ∀ v' w', w'.ownsRow base e 1 v' (n + news.length) (xs ++ news) → w.grownBy w' v.ownBlock → (v'.ownBlock = v.ownBlock ∨ v'.ownBlock = some w.heap.size) → w'.ownsRow base e 1 v n xs → wpList P ops Q rest (a.put o.dst v') w') : wpList P ops Q (o :: rest) a w := by
  obtain ⟨v', w', hr, h2, h3, h4, h5⟩ := run_append_reads (P := P) w t o.type base e i z bytes ht hi hz hsize hby hzs v n xs hown u news hu h1 h63 hbytes hbase
  refine wpList_plain hgd fun K hK => ?_
  unfold Oper.wp execOp
  simp only [ho, resolve, invoke, builtin, Sem.run_bind, Sem.run_pure, Result.andThen_ok, List.map_toArray, List.map_cons, List.map_nil, hs, hx, hr]
  exact hK _ _ (h v' w' h2 h3 h4 h5)

/-- At the operation. -/
theorem wp_append_keeps {o : Oper} {a : Act} {K : Act → World → Prop} {Q : Exit → Act → World → Prop} (s x : Operand) (t : TypeId)
    (ho : o.op = .call { callee := .builtin .append, args := #[s, x], argTypes := #[t, t] })
    (base : Nat) (e : TypeId) (i : TypeInfo) (z : Value) (size bytes : Nat) (ht : P.underlying t = some (.slice e)) (hi : P.info? e = some i) (hz : i.zero = some z)
    (hsize : i.size = size) (hby : i.bytes = bytes) (hzs : z.cells.size = size) (hsz : 0 < size)
    (v : Value) (n : Nat) (xs : List Value) (hs : a.eval s = v) (hown : w.ownsRow base e size v n xs)
    (ad : Addr) (m c : Nat) (news : List Value) (hx : a.eval x = .slice (some ad) m c) (hl : news.length = m * size) (hnews : ∀ j u, news[j]? = some u → w.cell? (ad.add j) = some u) (h1 : ∀ u ∈ news, u.oneCell' = true)
    (hm : 0 < m) (h63 : n + m ≤ maxLen) (hbytes : (n + m) * bytes ≤ 140737488355328) (hbase : base ≤ w.heap.size)
    (h : ∀ g cap w', w'.ownsRow base e size (.slice (some ⟨g, 0, none⟩) (n + m) cap) (n + m) (xs ++ news) → w.grownBy w' v.ownBlock → (v.ownBlock = some g ∨ g = w.heap.size) → g < w'.heap.size → w'.ownsRow base e size v n xs → K (a.put o.dst (.slice (some ⟨g, 0, none⟩) (n + m) cap)) w') : o.wp P a w K Q := by
  obtain ⟨g, cap, w', hr, h2, h3, h4, h5, h6⟩ := run_append_keeps (P := P) w t o.type base e i z size bytes ht hi hz hsize hby hzs hsz v n xs hown ad m c news hl hnews h1 hm h63 hbytes hbase
  unfold Oper.wp execOp
  simp only [ho, resolve, invoke, builtin, Sem.run_bind, Sem.run_pure, Result.andThen_ok, List.map_toArray, List.map_cons, List.map_nil, hs, hx, hr]
  exact h g cap w' h2 h3 h4 h5 h6

/-- In a plain region. -/
theorem wpList_append_keeps {ops : Array Oper} {rest : List Oper} {o : Oper} {a : Act} {Q : Exit → Act → World → Prop} (hgd : o.guard = none) (s x : Operand) (t : TypeId)
    (ho : o.op = .call { callee := .builtin .append, args := #[s, x], argTypes := #[t, t] })
    (base : Nat) (e : TypeId) (i : TypeInfo) (z : Value) (size bytes : Nat) (ht : P.underlying t = some (.slice e)) (hi : P.info? e = some i) (hz : i.zero = some z)
    (hsize : i.size = size) (hby : i.bytes = bytes) (hzs : z.cells.size = size) (hsz : 0 < size)
    (v : Value) (n : Nat) (xs : List Value) (hs : a.eval s = v) (hown : w.ownsRow base e size v n xs)
    (ad : Addr) (m c : Nat) (news : List Value) (hx : a.eval x = .slice (some ad) m c) (hl : news.length = m * size) (hnews : ∀ j u, news[j]? = some u → w.cell? (ad.add j) = some u) (h1 : ∀ u ∈ news, u.oneCell' = true)
    (hm : 0 < m) (h63 : n + m ≤ maxLen) (hbytes : (n + m) * bytes ≤ 140737488355328) (hbase : base ≤ w.heap.size)
    (h : ∀ g cap w', w'.ownsRow base e size (.slice (some ⟨g, 0, none⟩) (n + m) cap) (n + m) (xs ++ news) → w.grownBy w' v.ownBlock → (v.ownBlock = some g ∨ g = w.heap.size) → g < w'.heap.size → w'.ownsRow base e size v n xs → wpList P ops Q rest (a.put o.dst (.slice (some ⟨g, 0, none⟩) (n + m) cap)) w') : wpList P ops Q (o :: rest) a w :=
  wpList_plain hgd fun _ hK => wp_append_keeps w s x t ho base e i z size bytes ht hi hz hsize hby hzs hsz v n xs hs hown ad m c news hx hl hnews h1 hm h63 hbytes hbase fun g cap w' h2 h3 h4 h5 h6 => hK _ _ (h g cap w' h2 h3 h4 h5 h6)

/-- At a step of a region that draws its order. -/
theorem step_append_keeps {ops : Array Oper} {o : Oper} {a : Act} {K : Act → World → Prop} {Q : Exit → Act → World → Prop} {E : Prop} (hgd : o.guard = none) (s x : Operand) (t : TypeId)
    (ho : o.op = .call { callee := .builtin .append, args := #[s, x], argTypes := #[t, t] })
    (base : Nat) (e : TypeId) (i : TypeInfo) (z : Value) (size bytes : Nat) (ht : P.underlying t = some (.slice e)) (hi : P.info? e = some i) (hz : i.zero = some z)
    (hsize : i.size = size) (hby : i.bytes = bytes) (hzs : z.cells.size = size) (hsz : 0 < size)
    (v : Value) (n : Nat) (xs : List Value) (hs : a.eval s = v) (hown : w.ownsRow base e size v n xs)
    (ad : Addr) (m c : Nat) (news : List Value) (hx : a.eval x = .slice (some ad) m c) (hl : news.length = m * size) (hnews : ∀ j u, news[j]? = some u → w.cell? (ad.add j) = some u) (h1 : ∀ u ∈ news, u.oneCell' = true)
    (hm : 0 < m) (h63 : n + m ≤ maxLen) (hbytes : (n + m) * bytes ≤ 140737488355328) (hbase : base ≤ w.heap.size)
    (h : ∀ g cap w', w'.ownsRow base e size (.slice (some ⟨g, 0, none⟩) (n + m) cap) (n + m) (xs ++ news) → w.grownBy w' v.ownBlock → (v.ownBlock = some g ∨ g = w.heap.size) → g < w'.heap.size → w'.ownsRow base e size v n xs → K (a.put o.dst (.slice (some ⟨g, 0, none⟩) (n + m) cap)) w') :
    if Region.wanted o (yielded ops a.tmps) = true then Oper.wp P o a w K Q else E := by
  have hw : Region.wanted o (yielded ops a.tmps) = true := by simp [Region.wanted, hgd]
  rw [if_pos hw]
  exact wp_append_keeps w s x t ho base e i z size bytes ht hi hz hsize hby hzs hsz v n xs hs hown ad m c news hx hl hnews h1 hm h63 hbytes hbase h

end
end Go.Proofs.YtdplflcaanmmiaaGreat

namespace Go.Proofs.YtdplflcaanmmiaaGreat
open Go.ChangeShapes Go.WideShapes Go.ChangeAt Go.RowKit

theorem toList_inj {a b : ByteArray} (h : a.toList = b.toList) : a = b := by
  rw [ByteArray.toList_eq, ByteArray.toList_eq] at h
  exact ByteArray.ext (Array.toList_inj.mp h)
theorem text_eq {a b : ByteArray} (h : a = b) : (a.toList == b.toList) = true := by rw [h]; simp
theorem text_ne {a b : ByteArray} (h : a ≠ b) : (a.toList == b.toList) = false := beq_false_of_ne (fun e => h (toList_inj e))

/-- Texts as cells. -/
def strs (xs : List ByteArray) : List Value := xs.map Value.string
theorem strs_length (xs : List ByteArray) : (strs xs).length = xs.length := by simp [strs]
theorem strs_at (xs : List ByteArray) (i : Nat) (h : i < xs.length) : (strs xs)[i]? = some (.string (xs[i]'h)) := by simp [strs, h]

theorem strs_one (xs : List ByteArray) : ∀ u ∈ strs xs, u.oneCell' = true := by
  intro u hu
  simp only [strs, List.mem_map] at hu
  obtain ⟨x, _, rfl⟩ := hu
  rfl

theorem Tryz.infoStr : (Tryz.prog.info? 9).map (fun i => (i.zero, i.size, i.bytes)) = some (some (.string ⟨#[]⟩), 1, 16) := by kernel_rfl
theorem strs_append (xs ys : List ByteArray) : strs xs ++ strs ys = strs (xs ++ ys) := by simp [strs]

/-- Old cells are as they were. -/
theorem keeps {w w' : World} (hb : Below w.heap.size w w') (p : Addr) (v : Value) (h : w.cell? p = some v) : w'.cell? p = some v := by
  rw [hb.cell (World.block_lt_of_cell? w p h)]; exact h
end Go.Proofs.YtdplflcaanmmiaaGreat

namespace Go.Proofs.YtdplflcaanmmiaaGreat

/-- How many bytes a number takes. -/
def vlen (n : Nat) : Nat := if n < 128 then 1 else vlen (n / 128) + 1
  termination_by n
  decreasing_by omega

/-- Which bytes they are. -/
def vb (n : Nat) : List Nat := if n < 128 then [n] else (n % 128 + 128) :: vb (n / 128)
  termination_by n
  decreasing_by omega

/-- What bytes tell, from the byte at place i on, if those before it tell a. -/
def vgo : List Nat → Nat → Nat → Nat × Nat × Nat
  | [], _, _ => (0, 0, 2)
  | c :: l, i, a => if i = 4 ∧ 15 < c then (0, 0, 4) else if 128 ≤ c then vgo l (i + 1) (a + c % 128 * 128 ^ i) else if c = 0 ∧ 0 < i then (0, 0, 3) else (a + c % 128 * 128 ^ i, i + 1, 0)

theorem vlen_lt (n : Nat) (h : n < 128) : vlen n = 1 := by rw [vlen, if_pos h]
theorem vlen_ge (n : Nat) (h : 128 ≤ n) : vlen n = vlen (n / 128) + 1 := by rw [vlen, if_neg (by omega)]
theorem vb_lt (n : Nat) (h : n < 128) : vb n = [n] := by rw [vb, if_pos h]
theorem vb_ge (n : Nat) (h : 128 ≤ n) : vb n = (n % 128 + 128) :: vb (n / 128) := by rw [vb, if_neg (by omega)]

theorem vlen_pos (n : Nat) : 1 ≤ vlen n := by
  rw [vlen]; split <;> omega

theorem vb_length (n : Nat) : (vb n).length = vlen n := by
  induction n using Nat.strongRecOn with
  | ind n ih =>
    by_cases h : n < 128
    · rw [vb_lt n h, vlen_lt n h]; rfl
    · rw [vb_ge n (by omega), vlen_ge n (by omega), List.length_cons, ih _ (by omega)]

theorem vb_byte (n : Nat) : ∀ x ∈ vb n, x < 256 := by
  induction n using Nat.strongRecOn with
  | ind n ih =>
    by_cases h : n < 128
    · rw [vb_lt n h]; intro x hx; simp at hx; omega
    · rw [vb_ge n (by omega)]; intro x hx
      rcases List.mem_cons.1 hx with rfl | hx
      · omega
      · exact ih _ (by omega) x hx

theorem vlen_mono (n m : Nat) (h : n ≤ m) : vlen n ≤ vlen m := by
  induction m using Nat.strongRecOn generalizing n with
  | ind m ih =>
    by_cases hn : n < 128
    · rw [vlen_lt n hn]; exact vlen_pos m
    · rw [vlen_ge n (by omega), vlen_ge m (by omega)]
      have := ih (m / 128) (by omega) (n / 128) (Nat.div_le_div_right h)
      omega

theorem vlen_five (n : Nat) (h : n < 34359738368) : vlen n ≤ 5 := by
  have h1 := vlen_mono n 34359738367 (by omega)
  rw [vlen_ge 34359738367 (by decide), vlen_ge (34359738367 / 128) (by decide), vlen_ge (34359738367 / 128 / 128) (by decide), vlen_ge (34359738367 / 128 / 128 / 128) (by decide), vlen_lt (34359738367 / 128 / 128 / 128 / 128) (by decide)] at h1
  exact h1

theorem vlen_one (n : Nat) : vlen n = 1 ↔ n < 128 := by
  by_cases h : n < 128
  · rw [vlen_lt n h]; simp [h]
  · rw [vlen_ge n (by omega)]
    have := vlen_pos (n / 128)
    omega

/-- The bytes of a number, with whatever behind them, tell the number. -/
theorem vgo_vb (m : Nat) : ∀ (r : List Nat) (i a : Nat), (m ≠ 0 ∨ i = 0) → i ≤ 4 → m * 128 ^ i < 4294967296 → vgo (vb m ++ r) i a = (a + m * 128 ^ i, i + vlen m, 0) := by
  induction m using Nat.strongRecOn with
  | ind m ih =>
    intro r i a h0 hi hm
    by_cases h : m < 128
    · rw [vb_lt m h, vlen_lt m h, List.singleton_append, vgo, if_neg (by rintro ⟨rfl, h15⟩; omega), if_neg (by omega), if_neg (by omega), Nat.mod_eq_of_lt h]
    · have hne : i ≠ 4 := by rintro rfl; omega
      have hd : m / 128 * 128 ^ (i + 1) + m % 128 * 128 ^ i = m * 128 ^ i := by
        rw [Nat.pow_succ, Nat.mul_comm (128 ^ i) 128, ← Nat.mul_assoc, ← Nat.add_mul, Nat.mul_comm (m / 128) 128, Nat.div_add_mod]
      rw [vb_ge m (by omega), vlen_ge m (by omega), List.cons_append, vgo, if_neg (by omega), if_pos (by omega), ih (m / 128) (by omega) r (i + 1) _ (by omega) (by omega) (by omega)]
      rw [show (m % 128 + 128) % 128 = m % 128 by omega]
      have e1 : a + m % 128 * 128 ^ i + m / 128 * 128 ^ (i + 1) = a + m * 128 ^ i := by omega
      have e2 : i + 1 + vlen (m / 128) = i + (vlen (m / 128) + 1) := by omega
      rw [e1, e2]

theorem vgo_put (n : Nat) (hn : n < 4294967296) (r : List Nat) : vgo (vb n ++ r) 0 0 = (n, vlen n, 0) := by
  rw [vgo_vb n r 0 0 (.inr rfl) (by omega) (by simpa using hn)]
  simp

theorem vb_inj (n m : Nat) (hn : n < 4294967296) (hm : m < 4294967296) (h : vb n = vb m) : n = m := by
  have a := vgo_put n hn []
  have b := vgo_put m hm []
  rw [h, b] at a
  exact (congrArg Prod.fst a).symm

/-- Beside an error nothing is told. -/
theorem vgo_err (l : List Nat) : ∀ (i a : Nat), (vgo l i a).2.2 ≠ 0 → (vgo l i a).1 = 0 ∧ (vgo l i a).2.1 = 0 := by
  induction l with
  | nil => intro i a _; simp [vgo]
  | cons c l ih =>
    intro i a
    rw [vgo]
    split
    · simp
    · split
      · exact ih _ _
      · split
        · simp
        · simp

/-- Bytes that tell a number are just that number's, and fewer of them are none. -/
theorem vgo_ok (l : List Nat) : (∀ x ∈ l, x < 256) → ∀ (i a : Nat), i ≤ 4 → (vgo l i a).2.2 = 0 → ∃ m, vgo l i a = (a + m * 128 ^ i, i + vlen m, 0) ∧ vb m = l.take (vlen m) ∧ vlen m ≤ l.length ∧ (m ≠ 0 ∨ i = 0) ∧ (m + 1) * 128 ^ i ≤ 4294967296 ∧ ∀ j, j < vlen m → vgo (l.take j) i a = (0, 0, 2) := by
  induction l with
  | nil => intro _ i a _ h; simp [vgo] at h
  | cons c l ih =>
    intro hx i a hi
    rw [vgo]
    split
    · intro h; simp at h
    · rename_i h4
      split
      · rename_i h128
        intro h
        have hi3 : i ≤ 3 := by omega
        obtain ⟨m, he, hv, hl, hm, hb, hj⟩ := ih (fun x h => hx x (List.mem_cons_of_mem _ h)) (i + 1) _ (by omega) h
        have hm0 : m ≠ 0 := by omega
        by_cases hc : c < 256
        · have hd : (c % 128 + 128 * m) / 128 = m := by omega
          have hr : (c % 128 + 128 * m) % 128 = c % 128 := by omega
          have hp : (c % 128 + 128 * m) * 128 ^ i = c % 128 * 128 ^ i + m * 128 ^ (i + 1) := by
            rw [Nat.add_mul, Nat.pow_succ, Nat.mul_comm (128 ^ i) 128, ← Nat.mul_assoc m, Nat.mul_comm m 128]
          have hq : (c % 128 + 128 * m + 1) * 128 ^ i ≤ (m + 1) * 128 ^ (i + 1) := by
            rw [Nat.pow_succ, Nat.mul_comm (128 ^ i) 128, ← Nat.mul_assoc]
            exact Nat.mul_le_mul_right _ (by omega)
          refine ⟨c % 128 + 128 * m, ?_, ?_, ?_, .inl (by omega), by omega, ?_⟩
          · rw [he, hp, vlen_ge (c % 128 + 128 * m) (by omega), hd]
            have e1 : a + c % 128 * 128 ^ i + m * 128 ^ (i + 1) = a + (c % 128 * 128 ^ i + m * 128 ^ (i + 1)) := by omega
            have e2 : i + 1 + vlen m = i + (vlen m + 1) := by omega
            rw [e1, e2]
          · rw [vlen_ge _ (by omega), vb_ge _ (by omega), hd, hr, hv, List.take_succ_cons]
            congr 1
            omega
          · rw [vlen_ge _ (by omega), hd, List.length_cons]
            omega
          · intro j hjl
            rw [vlen_ge _ (by omega), hd] at hjl
            cases j with
            | zero => simp [vgo]
            | succ j => rw [List.take_succ_cons, vgo, if_neg h4, if_pos h128, hj j (by omega)]
        · exact absurd (hx c List.mem_cons_self) hc
      · rename_i h128
        split
        · intro h; simp at h
        · rename_i h0
          intro _
          refine ⟨c, ?_, ?_, ?_, by omega, ?_, ?_⟩
          · rw [vlen_lt c (by omega), Nat.mod_eq_of_lt (by omega)]
          · rw [vlen_lt c (by omega), vb_lt c (by omega)]; simp
          · rw [vlen_lt c (by omega)]; simp
          · rcases (show i = 0 ∨ i = 1 ∨ i = 2 ∨ i = 3 ∨ i = 4 by omega) with rfl | rfl | rfl | rfl | rfl <;> omega
          · intro j hj
            rw [vlen_lt c (by omega)] at hj
            obtain rfl : j = 0 := by omega
            simp [vgo]

/-- The bytes one by one. -/
theorem vb_at (n : Nat) : ∀ j, j < vlen n → (vb n)[j]? = some (n / 128 ^ j % 128 + if j + 1 < vlen n then 128 else 0) := by
  induction n using Nat.strongRecOn with
  | ind n ih =>
    intro j hj
    by_cases h : n < 128
    · rw [vlen_lt n h] at hj
      obtain rfl : j = 0 := by omega
      rw [vb_lt n h, vlen_lt n h, if_neg (by omega)]
      simp
      omega
    · rw [vlen_ge n (by omega)] at hj ⊢
      rw [vb_ge n (by omega)]
      have := vlen_pos (n / 128)
      cases j with
      | zero => rw [if_pos (by omega)]; simp
      | succ j =>
        rw [List.getElem?_cons_succ, ih (n / 128) (by omega) j (by omega), Nat.div_div_eq_div_mul, Nat.pow_succ, Nat.mul_comm 128]
        simp only [Nat.add_lt_add_iff_right]

theorem nums_vb (n : Nat) : nums (bytesOf (vb n)) = vb n := nums_bytesOf _ (vb_byte n)

/-- What a text tells, and the number's text. -/
def vget (b : ByteArray) : Nat × Nat × Nat := vgo (nums b) 0 0
def vtext (n : Nat) : ByteArray := bytesOf (vb n)

theorem vtext_size (n : Nat) : (vtext n).size = vlen n := by rw [vtext, bytesOf_size, vb_length]

theorem vget_text (n : Nat) (hn : n < 4294967296) (b : ByteArray) : vget (vtext n ++ b) = (n, vlen n, 0) := by
  rw [vget, nums_append, vtext, nums_vb, vgo_put n hn]

theorem vtext_inj (n m : Nat) (hn : n < 4294967296) (hm : m < 4294967296) (h : vtext n = vtext m) : n = m := by
  apply vb_inj n m hn hm
  rw [← nums_vb n, ← nums_vb m]
  exact congrArg nums h

theorem vget_err (b : ByteArray) (h : (vget b).2.2 ≠ 0) : (vget b).1 = 0 ∧ (vget b).2.1 = 0 := vgo_err _ _ _ h

theorem nums_first (b : ByteArray) (j : Nat) : nums (b.extract 0 j) = (nums b).take j := by
  simp [nums, List.map_take]

/-- A text that tells a number begins with that number's text; fewer of its bytes are none. -/
theorem vget_ok (b : ByteArray) (h : (vget b).2.2 = 0) : ∃ n, n < 4294967296 ∧ vget b = (n, vlen n, 0) ∧ vtext n = b.extract 0 (vlen n) ∧ vlen n ≤ b.size ∧ ∀ j, j < vlen n → vget (b.extract 0 j) = (0, 0, 2) := by
  obtain ⟨m, he, hv, hl, _, hb, hj⟩ := vgo_ok (nums b) (nums_byte b) 0 0 (by omega) h
  refine ⟨m, by omega, ?_, ?_, by rwa [nums_length] at hl, fun j hjl => ?_⟩
  · rw [vget, he]; simp
  · apply nums_inj
    rw [vtext, nums_vb, hv, nums_first]
  · rw [vget, nums_first]; exact hj j hjl

end Go.Proofs.YtdplflcaanmmiaaGreat

namespace Go.Proofs.YtdplflcaanmmiaaGreat

/-- The bytes of all phrases together. -/
def total (L : List ByteArray) : Nat := (L.map ByteArray.size).sum
theorem total_nil : total [] = 0 := rfl
theorem total_snoc (A : List ByteArray) (s : ByteArray) : total (A ++ [s]) = total A + s.size := by simp [total]
theorem total_append (A B : List ByteArray) : total (A ++ B) = total A + total B := by simp [total]
theorem total_cons (A : List ByteArray) (s : ByteArray) : total (s :: A) = s.size + total A := by simp [total]

open Classical in
/-- Why a text may not be the next phrase behind those of A; 0: it may. -/
noncomputable def step (A : List ByteArray) (s : ByteArray) : Nat :=
  if s.size = 0 then 5 else if 40 < s.size ∨ 1000 < total A + s.size then 10 else if s ∈ A then 5 else 0

/-- Phrases that may be; and a code and a place where they may not. -/
def Fine (L : List ByteArray) : Prop := L.length ≤ 100 ∧ ∀ j (h : j < L.length), step (L.take j) (L[j]'h) = 0
def Bad (L : List ByteArray) (c a : Nat) : Prop :=
  (100 < L.length ∧ c = 10 ∧ a = 100) ∨ (L.length ≤ 100 ∧ ∃ h : a < L.length, (∀ j (hj : j < a), step (L.take j) (L[j]'(Nat.lt_trans hj h)) = 0) ∧ step (L.take a) (L[a]'h) = c ∧ c ≠ 0)

theorem fine_or_bad (L : List ByteArray) : Fine L ∨ ∃ c a, Bad L c a := by
  by_cases hl : L.length ≤ 100
  · have key : ∀ n, n ≤ L.length → (∀ j (h : j < L.length), j < n → step (L.take j) (L[j]'h) = 0) ∨ ∃ c a, Bad L c a := by
      intro n
      induction n with
      | zero => intro _; exact .inl (fun j h h0 => by omega)
      | succ n ih =>
        intro hn
        rcases ih (by omega) with h | h
        · by_cases h0 : step (L.take n) (L[n]'(by omega)) = 0
          · refine .inl (fun j hj hjn => ?_)
            by_cases e : j = n
            · subst e; exact h0
            · exact h j hj (by omega)
          · exact .inr ⟨_, n, .inr ⟨hl, by omega, fun j hj => h j _ hj, rfl, h0⟩⟩
        · exact .inr h
    rcases key L.length (Nat.le_refl _) with h | h
    · exact .inl ⟨hl, fun j hj => h j hj hj⟩
    · exact .inr h
  · exact .inr ⟨10, 100, .inl ⟨by omega, rfl, rfl⟩⟩

theorem step_codes (A : List ByteArray) (s : ByteArray) : step A s = 0 ∨ step A s = 5 ∨ step A s = 10 := by
  unfold step; split
  · simp
  · split
    · simp
    · split <;> simp

theorem Bad.code {L : List ByteArray} {c a : Nat} (h : Bad L c a) : (c = 5 ∨ c = 10) ∧ a ≤ 100 := by
  rcases h with ⟨_, rfl, rfl⟩ | ⟨hl, ha, _, h1, h2⟩
  · simp
  · rcases step_codes (L.take a) (L[a]'ha) with h | h | h <;> omega

theorem not_both {L : List ByteArray} {c a : Nat} (h : Bad L c a) : ¬ Fine L := by
  rintro ⟨h1, h2⟩
  rcases h with ⟨h3, _⟩ | ⟨_, ha, _, h4, h5⟩
  · omega
  · exact h5 (h4 ▸ h2 a ha)

theorem bad_one {L : List ByteArray} {c a c' a' : Nat} (h : Bad L c a) (h' : Bad L c' a') : c = c' ∧ a = a' := by
  rcases h with ⟨h1, rfl, rfl⟩ | ⟨h1, ha, h2, h3, h4⟩
  · rcases h' with ⟨_, rfl, rfl⟩ | ⟨h5, _⟩
    · exact ⟨rfl, rfl⟩
    · omega
  · rcases h' with ⟨h5, _⟩ | ⟨_, ha', h6, h7, h8⟩
    · omega
    · rcases Nat.lt_trichotomy a a' with h | h | h
      · exact absurd (h6 a h) (by rw [h3]; exact h4)
      · subst h; exact ⟨h3.symm.trans h7, rfl⟩
      · exact absurd (h2 a' h) (by rw [h7]; exact h8)

theorem step_zero {A : List ByteArray} {s : ByteArray} (h : step A s = 0) : 0 < s.size ∧ s.size ≤ 40 ∧ total A + s.size ≤ 1000 ∧ s ∉ A := by
  unfold step at h
  split at h
  · omega
  · split at h
    · omega
    · split at h
      · omega
      · rename_i h1 h2 h3
        exact ⟨by omega, by omega, by omega, h3⟩

theorem step_is_zero {A : List ByteArray} {s : ByteArray} (h1 : 0 < s.size) (h2 : s.size ≤ 40) (h3 : total A + s.size ≤ 1000) (h4 : s ∉ A) : step A s = 0 := by
  unfold step
  rw [if_neg (by omega), if_neg (by omega), if_neg h4]

theorem total_take (L : List ByteArray) : ∀ j, total (L.take j) ≤ total L := by
  induction L with
  | nil => intro j; simp [total]
  | cons s L ih =>
    intro j
    cases j with
    | zero => simp [total]
    | succ j => have := ih j; rw [List.take_succ_cons, total_cons, total_cons]; omega

theorem size_le_total {L : List ByteArray} {s : ByteArray} (h : s ∈ L) : s.size ≤ total L := by
  induction L with
  | nil => cases h
  | cons t L ih =>
    rw [total_cons]
    rcases List.mem_cons.1 h with rfl | h
    · omega
    · have := ih h; omega

/-- What phrases that may be are, the order apart. -/
theorem fine_iff (L : List ByteArray) : Fine L ↔ L.length ≤ 100 ∧ (∀ s ∈ L, 0 < s.size ∧ s.size ≤ 40) ∧ total L ≤ 1000 ∧ L.Nodup := by
  constructor
  · rintro ⟨hl, h⟩
    refine ⟨hl, fun s hs => ?_, ?_, ?_⟩
    · obtain ⟨j, hj, rfl⟩ := List.getElem_of_mem hs
      have := step_zero (h j hj)
      exact ⟨this.1, this.2.1⟩
    · have key : ∀ n, n ≤ L.length → total (L.take n) ≤ 1000 := by
        intro n
        induction n with
        | zero => intro _; simp [total]
        | succ n _ =>
          intro hn
          rw [List.take_succ_eq_append_getElem (by omega), total_snoc]
          exact (step_zero (h n (by omega))).2.2.1
      have := key L.length (Nat.le_refl _)
      rwa [List.take_length] at this
    · unfold List.Nodup
      rw [List.pairwise_iff_getElem]
      intro i j hi hj hij e
      have h1 := (step_zero (h j hj)).2.2.2
      apply h1
      rw [← e, List.mem_take_iff_getElem]
      exact ⟨i, by omega, rfl⟩
  · rintro ⟨hl, h1, h2, h3⟩
    refine ⟨hl, fun j hj => step_is_zero (h1 _ (List.getElem_mem hj)).1 (h1 _ (List.getElem_mem hj)).2 ?_ ?_⟩
    · rw [← total_snoc, ← List.take_succ_eq_append_getElem hj]
      exact Nat.le_trans (total_take L _) h2
    · intro hm
      rw [List.mem_take_iff_getElem] at hm
      obtain ⟨i, hi, e⟩ := hm
      unfold List.Nodup at h3
      exact (List.pairwise_iff_getElem.1 h3) i j (by omega) hj (by omega) e

theorem fine_take {L : List ByteArray} (h : Fine L) (j : Nat) : Fine (L.take j) := by
  refine ⟨by rw [List.length_take]; have := h.1; omega, fun i hi => ?_⟩
  rw [List.length_take] at hi
  rw [List.take_take, Nat.min_eq_left (by omega), List.getElem_take]
  exact h.2 i (by omega)

/-- The bytes of phrases, and of a dictionary. -/
def body (L : List ByteArray) : List Nat := L.flatMap (fun s => vb s.size ++ nums s)
theorem body_nil : body [] = [] := rfl
theorem body_cons (s : ByteArray) (L : List ByteArray) : body (s :: L) = vb s.size ++ nums s ++ body L := by simp [body]
theorem body_snoc (L : List ByteArray) (s : ByteArray) : body (L ++ [s]) = body L ++ vb s.size ++ nums s := by simp [body]
def enc (L : List ByteArray) : ByteArray := bytesOf (vb L.length ++ body L)

theorem body_byte (L : List ByteArray) : ∀ x ∈ body L, x < 256 := by
  intro x hx
  simp only [body, List.mem_flatMap, List.mem_append] at hx
  obtain ⟨s, _, h | h⟩ := hx
  · exact vb_byte _ x h
  · exact nums_byte _ x h

theorem nums_enc (L : List ByteArray) : nums (enc L) = vb L.length ++ body L := by
  apply nums_bytesOf
  intro x hx
  rcases List.mem_append.1 hx with h | h
  · exact vb_byte _ x h
  · exact body_byte L x h

theorem enc_size (L : List ByteArray) : (enc L).size = vlen L.length + (body L).length := by rw [← nums_length, nums_enc, List.length_append, vb_length]

/-- How bytes are cut: n phrases from a place on, behind those of acc. -/
def cutF (b : ByteArray) : Nat → Nat → List ByteArray → List ByteArray × Nat × Nat
  | 0, p, acc => if p < b.size then ([], 13, p) else (acc, 0, 0)
  | n + 1, p, acc =>
    if (vget (b.extract p b.size)).2.2 ≠ 0 then ([], (vget (b.extract p b.size)).2.2, p)
    else if b.size < p + (vget (b.extract p b.size)).2.1 + (vget (b.extract p b.size)).1 then ([], 2, p + (vget (b.extract p b.size)).2.1)
    else cutF b n (p + (vget (b.extract p b.size)).2.1 + (vget (b.extract p b.size)).1) (acc ++ [b.extract (p + (vget (b.extract p b.size)).2.1) (p + (vget (b.extract p b.size)).2.1 + (vget (b.extract p b.size)).1)])

def cutW (b : ByteArray) : List ByteArray × Nat × Nat :=
  if (vget b).2.2 ≠ 0 then ([], (vget b).2.2, 0) else cutF b (vget b).1 (vget b).2.1 []

theorem vget_drop (b : ByteArray) (p : Nat) : vget (b.extract p b.size) = vgo ((nums b).drop p) 0 0 := by
  rw [vget, nums_extract, List.take_of_length_le (by rw [List.length_drop, nums_length]; omega)]

theorem vgo_code (l : List Nat) : ∀ (i a : Nat), (vgo l i a).2.2 ≤ 4 := by
  induction l with
  | nil => intro i a; simp [vgo]
  | cons c l ih =>
    intro i a
    rw [vgo]
    split
    · simp
    · split
      · exact ih _ _
      · split <;> simp
theorem vget_code (b : ByteArray) : (vget b).2.2 ≤ 4 := vgo_code _ _ _

theorem body_length_ge (L : List ByteArray) : L.length ≤ (body L).length := by
  induction L with
  | nil => simp
  | cons s L ih =>
    rw [body_cons, List.length_append, List.length_append, vb_length, List.length_cons]
    have := vlen_pos s.size
    omega

/-- Cutting goes over whole phrases. -/
theorem cutF_over (b : ByteArray) (R : List ByteArray) : ∀ (pre rest : List Nat) (acc : List ByteArray), (∀ s ∈ R, s.size < 4294967296) → nums b = pre ++ (body R ++ rest) →
    ∀ n, cutF b (R.length + n) pre.length acc = cutF b n (pre.length + (body R).length) (acc ++ R) := by
  induction R with
  | nil => intro pre rest acc _ _ n; simp [body]
  | cons s R ih =>
    intro pre rest acc hs hb n
    have hv : vget (b.extract pre.length b.size) = (s.size, vlen s.size, 0) := by
      rw [vget_drop, hb, List.drop_left, body_cons, List.append_assoc, List.append_assoc, vgo_put _ (hs s (by simp))]
    have hsz : b.size = pre.length + ((body (s :: R)).length + rest.length) := by rw [← nums_length, hb]; simp
    have hbl : (body (s :: R)).length = vlen s.size + s.size + (body R).length := by rw [body_cons]; simp [vb_length, nums_length]; omega
    have e : (s :: R).length + n = (R.length + n) + 1 := by simp; omega
    rw [e, cutF, hv]
    simp only [ne_eq, not_true_eq_false, if_false]
    rw [if_neg (by omega)]
    have hx : b.extract (pre.length + vlen s.size) (pre.length + vlen s.size + s.size) = s := by
      apply nums_inj
      rw [nums_extract, hb, body_cons, Nat.add_sub_cancel_left]
      have : pre ++ (vb s.size ++ nums s ++ body R ++ rest) = (pre ++ vb s.size) ++ (nums s ++ (body R ++ rest)) := by simp
      rw [this, List.drop_left' (by simp [vb_length]), List.take_left' (by rw [nums_length])]
    rw [hx]
    have := ih (pre ++ (vb s.size ++ nums s)) rest (acc ++ [s]) (fun t ht => hs t (by simp [ht])) (by rw [hb, body_cons]; simp) n
    have hl : (pre ++ (vb s.size ++ nums s)).length = pre.length + vlen s.size + s.size := by simp [vb_length, nums_length]; omega
    rw [hl] at this
    rw [this, hbl]
    congr 1
    · omega
    · simp

theorem vget_enc (L : List ByteArray) (hl : L.length < 4294967296) (b : ByteArray) : vget (enc L ++ b) = (L.length, vlen L.length, 0) := by
  rw [vget, nums_append, nums_enc, List.append_assoc, vgo_put _ hl]

/-- A dictionary's bytes are cut into its phrases. -/
theorem cut_enc (L : List ByteArray) (hl : L.length < 4294967296) (hs : ∀ s ∈ L, s.size < 4294967296) : cutW (enc L) = (L, 0, 0) := by
  have hv := vget_enc L hl ⟨#[]⟩
  have h0 : enc L ++ ⟨#[]⟩ = enc L := by apply nums_inj; rw [nums_append]; simp [nums]
  rw [h0] at hv
  have := cutF_over (enc L) L (vb L.length) [] [] hs (by rw [nums_enc]; simp) 0
  rw [cutW, hv]
  simp only [ne_eq, not_true_eq_false, if_false]
  rw [Nat.add_zero, vb_length] at this
  rw [this, cutF, if_neg (by rw [enc_size]; omega)]
  simp

theorem enc_inj (L M : List ByteArray) (hl : L.length < 4294967296) (hs : ∀ s ∈ L, s.size < 4294967296) (hm : M.length < 4294967296) (ht : ∀ s ∈ M, s.size < 4294967296) (h : enc L = enc M) : L = M := by
  have a := cut_enc L hl hs
  have b := cut_enc M hm ht
  rw [h, b] at a
  exact (congrArg Prod.fst a).symm

/-- Bytes behind a dictionary's. -/
theorem cut_more (L : List ByteArray) (hl : L.length < 4294967296) (hs : ∀ s ∈ L, s.size < 4294967296) (b : ByteArray) (hb : 0 < b.size) : cutW (enc L ++ b) = ([], 13, (enc L).size) := by
  have hv := vget_enc L hl b
  have := cutF_over (enc L ++ b) L (vb L.length) (nums b) [] hs (by rw [nums_append, nums_enc]; simp) 0
  rw [cutW, hv]
  simp only [ne_eq, not_true_eq_false, if_false]
  rw [Nat.add_zero, vb_length] at this
  have hz : (enc L ++ b).size = (enc L).size + b.size := by rw [← nums_length, nums_append, List.length_append, nums_length, nums_length]
  rw [this, cutF, if_pos (by rw [hz, enc_size]; omega), enc_size]

/-- Fewer bytes than a number has tell none. -/
theorem vgo_short (n : Nat) (hn : n < 4294967296) (j : Nat) (hj : j < vlen n) : vgo ((vb n).take j) 0 0 = (0, 0, 2) := by
  have h := vget_text n hn ⟨#[]⟩
  obtain ⟨m, hm, e, ht, _, hk⟩ := vget_ok (vtext n ++ ⟨#[]⟩) (by rw [h])
  rw [h] at e
  have en : n = m := congrArg Prod.fst e
  subst en
  have := hk j hj
  rw [vget, nums_first, nums_append, vtext, nums_vb] at this
  rw [List.take_append_of_le_length (by rw [vb_length]; omega)] at this
  exact this

theorem cutF_short (b : ByteArray) (R : List ByteArray) : ∀ (pre : List Nat) (j : Nat) (acc : List ByteArray), (∀ s ∈ R, s.size < 4294967296) → j < (body R).length → nums b = pre ++ (body R).take j →
    ∃ a, cutF b R.length pre.length acc = ([], 2, a) ∧ a ≤ b.size := by
  induction R with
  | nil => intro pre j acc _ hj; simp [body] at hj
  | cons s R ih =>
    intro pre j acc hs hj hb
    have hbl : (body (s :: R)).length = vlen s.size + s.size + (body R).length := by rw [body_cons]; simp [vb_length, nums_length]; omega
    have hsz : b.size = pre.length + j := by rw [← nums_length, hb, List.length_append, List.length_take]; omega
    have hd : vget (b.extract pre.length b.size) = vgo ((body (s :: R)).take j) 0 0 := by rw [vget_drop, hb, List.drop_left]
    rw [List.length_cons, cutF]
    by_cases h1 : j < vlen s.size
    · have : vget (b.extract pre.length b.size) = (0, 0, 2) := by
        rw [hd, body_cons, List.append_assoc, List.take_append_of_le_length (by rw [vb_length]; omega)]
        exact vgo_short _ (hs s (by simp)) j h1
      rw [this]
      exact ⟨pre.length, by simp, by omega⟩
    · have : vget (b.extract pre.length b.size) = (s.size, vlen s.size, 0) := by
        have e : (body (s :: R)).take j = vb s.size ++ (nums s ++ body R).take (j - vlen s.size) := by
          rw [body_cons, List.append_assoc, List.take_append, vb_length, List.take_of_length_le (by rw [vb_length]; omega)]
        rw [hd, e, vgo_put _ (hs s (by simp))]
      rw [this]
      simp only [ne_eq, not_true_eq_false, if_false]
      by_cases h2 : j < vlen s.size + s.size
      · rw [if_pos (by omega)]
        exact ⟨_, rfl, by omega⟩
      · rw [if_neg (by omega)]
        have := ih (pre ++ (vb s.size ++ nums s)) (j - (vlen s.size + s.size)) (acc ++ [b.extract (pre.length + vlen s.size) (pre.length + vlen s.size + s.size)]) (fun t ht => hs t (by simp [ht])) (by omega) (by
          rw [hb, body_cons, List.take_append, List.take_of_length_le (by simp [vb_length, nums_length]; omega)]
          simp [vb_length, nums_length])
        have hl : (pre ++ (vb s.size ++ nums s)).length = pre.length + vlen s.size + s.size := by simp [vb_length, nums_length]; omega
        rw [hl] at this
        exact this

/-- A dictionary's bytes, cut off. -/
theorem cut_short (L : List ByteArray) (hl : L.length < 4294967296) (hs : ∀ s ∈ L, s.size < 4294967296) (j : Nat) (hj : j < (enc L).size) : ∃ a, cutW ((enc L).extract 0 j) = ([], 2, a) ∧ a ≤ j := by
  have hsz : ((enc L).extract 0 j).size = j := by rw [← nums_length, nums_first, List.length_take, nums_length]; omega
  have hn : nums ((enc L).extract 0 j) = (vb L.length ++ body L).take j := by rw [nums_first, nums_enc]
  rw [enc_size] at hj
  by_cases h1 : j < vlen L.length
  · have : vget ((enc L).extract 0 j) = (0, 0, 2) := by
      rw [vget, hn, List.take_append_of_le_length (by rw [vb_length]; omega)]
      exact vgo_short _ hl j h1
    rw [cutW, this]
    exact ⟨0, by simp, by omega⟩
  · have e : (vb L.length ++ body L).take j = vb L.length ++ (body L).take (j - vlen L.length) := by
      rw [List.take_append, vb_length, List.take_of_length_le (by rw [vb_length]; omega)]
    have : vget ((enc L).extract 0 j) = (L.length, vlen L.length, 0) := by
      rw [vget, hn, e, vgo_put _ hl]
    rw [cutW, this]
    simp only [ne_eq, not_true_eq_false, if_false]
    have := cutF_short ((enc L).extract 0 j) L (vb L.length) (j - vlen L.length) [] hs (by omega) (by rw [hn, e])
    rw [vb_length, hsz] at this
    exact this

/-- Bytes that are cut are just those of the phrases. -/
theorem cutF_back (b : ByteArray) : ∀ (n p : Nat) (acc L : List ByteArray), p ≤ b.size → cutF b n p acc = (L, 0, 0) → ∃ R, L = acc ++ R ∧ R.length = n ∧ (nums b).drop p = body R := by
  intro n
  induction n with
  | zero =>
    intro p acc L hp h
    rw [cutF] at h
    split at h
    · simp at h
    · rename_i h1
      refine ⟨[], by simpa using (congrArg Prod.fst h).symm, rfl, ?_⟩
      rw [List.drop_of_length_le (by rw [nums_length]; omega)]; rfl
  | succ n ih =>
    intro p acc L hp h
    rw [cutF] at h
    split at h
    · rename_i h1
      exact absurd (congrArg (fun x => x.2.1) h) h1
    · rename_i h1
      have h1 : (vget (b.extract p b.size)).2.2 = 0 := by omega
      obtain ⟨m, hm, e, ht, hle, _⟩ := vget_ok _ h1
      rw [e] at h
      simp only at h
      split at h
      · simp at h
      · rename_i h2
        obtain ⟨R, hR, hRl, hb⟩ := ih _ _ _ (by omega) h
        refine ⟨b.extract (p + vlen m) (p + vlen m + m) :: R, by rw [hR]; simp, by simp [hRl], ?_⟩
        have hsz : (b.extract (p + vlen m) (p + vlen m + m)).size = m := by
          rw [← nums_length, nums_extract, List.length_take, List.length_drop, nums_length]; omega
        rw [body_cons, hsz, ← hb, nums_extract, Nat.add_sub_cancel_left]
        have h3 : vb m = ((nums b).drop p).take (vlen m) := by
          have := congrArg nums ht
          rw [vtext, nums_vb, nums_first, nums_extract, List.take_of_length_le (l := (nums b).drop p) (by rw [List.length_drop, nums_length]; omega)] at this
          exact this
        rw [h3, List.append_assoc, ← List.drop_drop (l := nums b) (i := m), List.take_append_drop, ← List.drop_drop (l := nums b), List.take_append_drop]

theorem cut_back (b : ByteArray) (L : List ByteArray) (h : cutW b = (L, 0, 0)) : enc L = b ∧ L.length < 4294967296 := by
  rw [cutW] at h
  split at h
  · rename_i h1
    exact absurd (congrArg (fun x => x.2.1) h) h1
  · rename_i h1
    have h1 : (vget b).2.2 = 0 := by omega
    obtain ⟨m, hm, e, ht, hle, _⟩ := vget_ok _ h1
    rw [e] at h
    obtain ⟨R, hR, hRl, hb⟩ := cutF_back b _ _ _ _ hle h
    rw [List.nil_append] at hR
    subst hR
    refine ⟨?_, by omega⟩
    apply nums_inj
    rw [nums_enc, hRl, ← hb]
    have := congrArg nums ht
    rw [vtext, nums_vb, nums_first] at this
    rw [this]
    exact List.take_append_drop _ _
end Go.Proofs.YtdplflcaanmmiaaGreat

namespace Go.Proofs.YtdplflcaanmmiaaGreat

/-- Bytes as cells. -/
def octs (xs : List Nat) : List Value := xs.map fun x : Nat => Value.int .u8 (x : Int)
theorem octs_length (xs : List Nat) : (octs xs).length = xs.length := by simp [octs]
theorem octs_snoc (xs : List Nat) (y : Nat) : octs xs ++ [.int .u8 (y : Int)] = octs (xs ++ [y]) := by simp [octs]

/-- Numbers as cells. -/
def numsI (xs : List Nat) : List Value := xs.map fun x : Nat => Value.int .i64 (x : Int)
theorem numsI_length (xs : List Nat) : (numsI xs).length = xs.length := by simp [numsI]
theorem numsI_at (xs : List Nat) (i : Nat) (h : i < xs.length) : (numsI xs)[i]? = some (.int .i64 ((xs[i]'h : Nat) : Int)) := by simp [numsI, h]
theorem numsI_one (xs : List Nat) : ∀ u ∈ numsI xs, u.oneCell' = true := by
  intro u hu
  simp only [numsI, List.mem_map] at hu
  obtain ⟨x, _, rfl⟩ := hu
  rfl
end Go.Proofs.YtdplflcaanmmiaaGreat
