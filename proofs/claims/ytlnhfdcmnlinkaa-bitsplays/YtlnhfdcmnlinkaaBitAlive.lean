/-
  The first call of every statement of this layer: alive answers true; and how what a Reader or a Writer holds outlasts what others do.
-/
import Derived.Test.YtlnhfdcmnlinkaaBitWrite
namespace Go.Proofs.Ytlnhfdcmnlinkaa
open Go.ChangeShapes Go.WideShapes Go.ChangeAt Go.RowKit

theorem RdAt.kept {S : Nat → Prop} {w w' : World} {p : Nat} {b : ByteArray} {g : Nat} (h : RdAt w p b g) (hk : Kept S w w') (hp : ¬ S p) : RdAt w' p b g :=
  ⟨(hk.block p (Array.getElem?_eq_some_iff.1 h.1).1 hp).trans h.1, h.2⟩

theorem RdAt.lt {w : World} {p : Nat} {b : ByteArray} {g : Nat} (h : RdAt w p b g) : p < w.heap.size := (Array.getElem?_eq_some_iff.1 h.1).1

theorem RdAt.alloc {w : World} {p : Nat} {b : ByteArray} {g : Nat} (h : RdAt w p b g) (o : Obj) : RdAt (w.alloc o) p b g :=
  ⟨(Below.heap_alloc w o p h.lt).trans h.1, h.2⟩

theorem RdAt.below {B : Nat} {w w' : World} {p : Nat} {b : ByteArray} {g : Nat} (h : RdAt w p b g) (hb : Below B w w') (hp : p < B) : RdAt w' p b g :=
  ⟨(hb.block p hp).trans h.1, h.2⟩

theorem WrAt.lt {B : Nat} {w : World} {p : Nat} {v : Value} {N L : Nat} (h : WrAt B w p v N L) : p < w.heap.size := (Array.getElem?_eq_some_iff.1 h.cells).1

theorem WrAt.own {B : Nat} {w : World} {p : Nat} {v : Value} {N L : Nat} (h : WrAt B w p v N L) : ∀ g, v.ownBlock = some g → B ≤ g ∧ g < w.heap.size := h.row.lt

theorem WrAt.kept {S : Nat → Prop} {B : Nat} {w w' : World} {p : Nat} {v : Value} {N L : Nat} (h : WrAt B w p v N L) (hk : Kept S w w') (hp : ¬ S p) (hv : ∀ g, v.ownBlock = some g → ¬ S g) : WrAt B w' p v N L :=
  ⟨(hk.block p h.lt hp).trans h.cells, ownsRow_same h.row (fun g hg => hk.block g (h.own g hg).2 (hv g hg)), h.base, h.apart, h.fits, h.small⟩

theorem WrAt.below {B C : Nat} {w w' : World} {p : Nat} {v : Value} {N L : Nat} (h : WrAt B w p v N L) (hb : Below C w w') (hC : w.heap.size ≤ C) : WrAt B w' p v N L :=
  ⟨(hb.block p (Nat.lt_of_lt_of_le h.lt hC)).trans h.cells, ownsRow_same h.row (fun g hg => hb.block g (Nat.lt_of_lt_of_le (h.own g hg).2 hC)), h.base, h.apart, h.fits, h.small⟩

theorem WrAt.drewN {B : Nat} {w : World} {p : Nat} {v : Value} {N L : Nat} (h : WrAt B w p v N L) (n : Nat) : WrAt B (w.drewN n) p v N L :=
  h.kept (Kept.drewN (fun _ => False) w n) id (fun _ _ => id)

theorem WrAt.alloc {B : Nat} {w : World} {p : Nat} {v : Value} {N L : Nat} (h : WrAt B w p v N L) (o : Obj) : WrAt B (w.alloc o) p v N L :=
  h.kept ((Kept.refl (fun _ => False) w).alloc o) id (fun _ _ => id)

theorem WrAt.new {B : Nat} (w : World) (hB : B ≤ w.heap.size) : WrAt B (w.alloc (.cells #[.slice none 0 0, .int .i64 0, .int .i64 0] 27)) w.heap.size (.slice none 0 0) 0 0 :=
  ⟨heap_alloc_new w _, World.ownsRow_nil _ _ _ _, hB, by simp [Value.ownBlock], by decide, by decide⟩

/-- What a Reader's calls leave of memory below it. -/
theorem Kept.below {S : Nat → Prop} {w w' : World} (h : Kept S w w') {B : Nat} (hB : B ≤ w.heap.size) (hS : ∀ k, S k → B ≤ k) : Below B w w' :=
  ⟨h.os, h.tape, h.output, h.size, fun k hk => h.block k (Nat.lt_of_lt_of_le hk hB) (fun hs => by have := hS k hs; omega)⟩

theorem drewN_below (w : World) (n B : Nat) : Below B w (w.drewN n) := by
  have h := Kept.drewN (fun _ => False) w n
  have e : (w.drewN n).heap = w.heap := by
    clear h
    induction n generalizing w with
    | zero => rfl
    | succ n ih => exact ih (w := w.drew)
  exact ⟨h.os, h.tape, h.output, h.size, fun k _ => by rw [e]⟩

/-- But for what was drawn the world is the same. -/
def Same (w w' : World) : Prop := ∃ n, w' = w.drewN n

theorem Same.below {w w' : World} (h : Same w w') (B : Nat) : Below B w w' := by obtain ⟨n, rfl⟩ := h; exact drewN_below w n B
theorem Same.kept {w w' : World} (h : Same w w') (S : Nat → Prop) : Kept S w w' := by obtain ⟨n, rfl⟩ := h; exact Kept.drewN S w n
theorem Same.size {w w' : World} (h : Same w w') : w'.heap.size = w.heap.size := by
  obtain ⟨n, rfl⟩ := h
  induction n generalizing w with
  | zero => rfl
  | succ n ih => exact ih (w := w.drew)
theorem RdAt.same {w w' : World} {p : Nat} {b : ByteArray} {g : Nat} (h : RdAt w p b g) (hs : Same w w') : RdAt w' p b g := h.kept (hs.kept (fun _ => False)) id
theorem WrAt.same {B : Nat} {w w' : World} {p : Nat} {v : Value} {N L : Nat} (h : WrAt B w p v N L) (hs : Same w w') : WrAt B w' p v N L := h.kept (hs.kept (fun _ => False)) id (fun _ _ => id)

theorem WrAt.foot {B : Nat} {w : World} {p : Nat} {v : Value} {N L : Nat} (h : WrAt B w p v N L) : ∀ k, Foot p v k → B ≤ k := by
  intro k hk
  rcases hk with rfl | hk
  · exact h.base
  · exact (h.own k hk).1

/-- A Writer's row stays off a block that was there. -/
theorem own_far {v v' : Value} {w : World} {q : Nat} (ho : v'.ownBlock = v.ownBlock ∨ ∃ g, v'.ownBlock = some g ∧ w.heap.size ≤ g) (hne : ∀ g, v.ownBlock = some g → g ≠ q) (hq : q < w.heap.size) : ∀ g, v'.ownBlock = some g → g ≠ q := by
  intro g hg
  rcases ho with h | ⟨g', h, hge⟩
  · exact hne g (by rw [← h, hg])
  · rw [h] at hg; injection hg with hg; omega

theorem not_foot {p q : Nat} {v : Value} (hp : q ≠ p) (hne : ∀ g, v.ownBlock = some g → g ≠ q) : ¬ Foot p v q := by
  rintro (h | h)
  · exact hp h
  · exact hne _ h rfl

theorem num_160 : num ⟨#[160]⟩ 0 3 = 5 := by decide
theorem pack_160 : packB 5 3 = ⟨#[160]⟩ := by decide +kernel
theorem rest_160 : num ⟨#[160]⟩ 3 5 = 0 := by decide

theorem alive_any (w : World) : Calls Try.prog 9 #[] w fun e w' => e = .returned (.bool true) ∧ Below w.heap.size w w' := by
  have hW := WrAt.new (B := w.heap.size) w (Nat.le_refl _)
  have hR := RdAt.new ⟨#[160]⟩ (by decide) (w.alloc (.cells #[.slice none 0 0, .int .i64 0, .int .i64 0] 27))
  have hW1 := hW.alloc (.cells #[.string ⟨#[160]⟩, .int .i64 0] 48)
  have hb := ((Below.refl w.heap.size w).alloc (Nat.le_refl _) (.cells #[.slice none 0 0, .int .i64 0, .int .i64 0] 27)).alloc (by simp) (.cells #[.string ⟨#[160]⟩, .int .i64 0] 48)
  rw [show (w.alloc (.cells #[.slice none 0 0, .int .i64 0, .int .i64 0] 27)).heap.size = w.heap.size + 1 by simp] at hR
  have n1 := num_160
  have n2 := pack_160
  have n3 := rest_160
  go_enter Try.func9, Try.ntmps9
  go_wp2_with (first
    | (go_at_call 10; refine (newReader_any _ _).mono ?_; rintro e w2 ⟨rfl, rfl⟩)
    | (go_at_call 12; refine (get_any hR 3 (by decide) (by decide)).mono ?_; rintro e w3 ⟨rfl, hR3, hk3⟩; have hW3 := hW1.kept hk3 (by simp) (by simp [Value.ownBlock]); have hs3 := hk3.size; rw [show (0 + 3) = 3 from rfl] at hR3)
    | (go_at_call 11; refine (put_any hW3 5 3 (by decide) (by decide) (by decide)).mono ?_; rintro e w4 ⟨rfl, v', hW4, hk4, ho4⟩; have hR4 := hR3.kept hk4 (by simp [Foot, Value.ownBlock]); rw [show (0 * 2 ^ 3 + 5) = 5 from rfl, show 0 + 3 = 3 from rfl] at hW4)
    | (go_at_call 16; refine (bytes_any hW4).mono ?_; rintro e w5 ⟨rfl, hb5⟩; have hW5 := hW4.below hb5 (Nat.le_refl _); have hR5 := hR4.below hb5 hR4.lt)
    | (go_at_call 15; refine (len_any hW5).mono ?_; rintro e w6 ⟨rfl, k6, rfl⟩)
    | (go_at_call 18; refine (left_any (hR5.drewN k6)).mono ?_; rintro e w7 ⟨rfl, k7, rfl⟩)
    | (go_at_call 19; refine (rest_any (hR5.drewN (k6 + k7))).mono ?_; rintro e w8 ⟨rfl, k8, rfl⟩))
  go_ret
  have hs : w.heap.size + 1 < w3.heap.size := hR3.lt
  have hs4 := hk4.size
  exact ⟨rfl, hb.trans ((hk3.below (by simp; omega) (fun k hk => by omega)).trans ((hk4.below (by omega) hW3.foot).trans ((hb5.mono (by omega)).trans (drewN_below _ _ _))))⟩

end Go.Proofs.Ytlnhfdcmnlinkaa
