/-
  Contracts of package bits' Writer: what Put, Len and Bytes answer, and what they leave in memory, for every number of bits that fits in memory.
-/
import Derived.Test.YtlnhfdcmnlinkaaBitRead
import Derived.Deep.AppendLies
import Derived.Laws.BytesArg
import Derived.Laws.Concat
import Derived.Deep.RegionLaw
import Derived.BigRegion
namespace Go.Proofs.Ytlnhfdcmnlinkaa
open Go.ChangeShapes Go.WideShapes Go.ChangeAt Go.RowKit

/-- Bytes as cells. -/
def octs (xs : List Nat) : List Value := xs.map fun x : Nat => Value.int .u8 (x : Int)

theorem octs_length (xs : List Nat) : (octs xs).length = xs.length := by simp [octs]

/-- The Writer at block p, whose bytes lie where v tells: L bits, together the number N. -/
structure WrAt (B : Nat) (w : World) (p : Nat) (v : Value) (N L : Nat) : Prop where
  cells : w.heap[p]? = some (.cells #[v, .int .i64 (N % 2 ^ (L % 8) : Nat), .int .i64 (L % 8 : Nat)] 27 (0, 0))
  row : w.ownsRow B 5 1 v (L / 8) (octs (be (N / 2 ^ (L % 8)) (L / 8)))
  base : B ≤ p
  apart : v.ownBlock ≠ some p
  fits : N < 2 ^ L
  small : L ≤ 562949953421312

/-- The blocks that a Writer has. -/
def Foot (p : Nat) (v : Value) (k : Nat) : Prop := k = p ∨ v.ownBlock = some k

theorem ownsRow_slice {w : World} {base : Nat} {e : TypeId} {size : Nat} {v : Value} {n : Nat} {xs : List Value} (h : w.ownsRow base e size v n xs) : ∃ ao cap, v = .slice ao n cap := by
  rcases h.2 with ⟨rfl, rfl⟩ | ⟨g, cap, cur, rfl, _⟩
  · exact ⟨_, _, rfl⟩
  · exact ⟨_, _, rfl⟩

theorem Try.infoByte : (Try.prog.info? 5).map (fun i => (i.zero, i.size, i.bytes)) = some (some (.int .u8 0), 1, 1) := by kernel_rfl

theorem ownsRow_same {w w' : World} {base : Nat} {e : TypeId} {size : Nat} {v : Value} {n : Nat} {xs : List Value} (h : w.ownsRow base e size v n xs) (hs : ∀ g, v.ownBlock = some g → w'.heap[g]? = w.heap[g]?) : w'.ownsRow base e size v n xs := by
  refine ⟨h.1, ?_⟩
  rcases h.2 with hn | ⟨g, cap, cur, rfl, hb, hh, r⟩
  · exact .inl hn
  · exact .inr ⟨g, cap, cur, rfl, hb, (hs g rfl).trans hh, r⟩

theorem Kept.setCell {S : Nat → Prop} {w w' : World} (h : Kept S w w') {a : Addr} (ha : S a.block) (u : Value) : Kept S w (w'.setCell a u) :=
  h.trans ⟨rfl, rfl, rfl, by simp [World.setCell], fun k _ hn => Below.heap_setCell _ _ _ _ (fun e => hn (e ▸ ha))⟩

theorem Kept.alloc {S : Nat → Prop} {w w' : World} (h : Kept S w w') (o : Obj) : Kept S w (w'.alloc o) :=
  h.trans ⟨rfl, rfl, rfl, by simp, fun k hk _ => Below.heap_alloc _ _ _ hk⟩

theorem Kept.drew {S : Nat → Prop} {w w' : World} (h : Kept S w w') : Kept S w w'.drew := ⟨h.os, h.tape, h.output, h.size, h.block⟩

theorem Kept.grown {S : Nat → Prop} {w w1 w2 : World} {row : Option Nat} (h : Kept S w w1) (hg : w1.grownBy w2 row) (hr : ∀ k, row = some k → k < w.heap.size → S k) : Kept S w w2 :=
  ⟨hg.os.trans h.os, hg.tape.trans h.tape, hg.output.trans h.output, Nat.le_trans h.size hg.size, fun k hk hn => (hg.block k (Nat.lt_of_lt_of_le hk h.size) (fun e => hn (hr k e.symm hk))).trans (h.block k hk hn)⟩

theorem put_or (P n x c : Nat) (hP : P < 2 ^ c) (hc : c < 8) (hn : n ≤ 32) (hx : x < 2 ^ n) : bits .or .i64 (wrap64 ((P : Int) * 2 ^ n)) (x : Int) = ((P * 2 ^ n + x : Nat) : Int) := by
  have h1 : 2 ^ n ≤ 2 ^ 32 := Nat.pow_le_pow_right (by decide) hn
  have h2 : 2 ^ c ≤ 2 ^ 7 := Nat.pow_le_pow_right (by decide) (by omega)
  have h3 : P * 2 ^ n ≤ 2 ^ 7 * 2 ^ 32 := Nat.mul_le_mul (by omega) h1
  have e : (P : Int) * 2 ^ n = ((P * 2 ^ n : Nat) : Int) := by simp
  rw [e, IntWalk.wrap64_in _ ⟨by omega, by omega⟩]
  exact or_i64 n P x hx (by omega) (by omega)

theorem put_lt (P n x c Q : Nat) (hQ : Q = P * 2 ^ n + x) (hP : P < 2 ^ c) (hc : c < 8) (hn : n ≤ 32) (hx : x < 2 ^ n) : Q < 2 ^ 63 := by
  have h1 : 2 ^ n ≤ 2 ^ 32 := Nat.pow_le_pow_right (by decide) hn
  have h2 : 2 ^ c ≤ 2 ^ 7 := Nat.pow_le_pow_right (by decide) (by omega)
  have h3 : P * 2 ^ n ≤ 2 ^ 7 * 2 ^ 32 := Nat.mul_le_mul (by omega) h1
  omega

theorem and_end (Q d : Nat) (hQ : Q < 2 ^ 63) (hd : d < 8) : bits .and .i64 (Q : Int) (wrap64 (wrap64 (2 ^ d) - 1)) = ((Q % 2 ^ d : Nat) : Int) := by
  have h2 : 2 ^ d ≤ 2 ^ 7 := Nat.pow_le_pow_right (by decide) (by omega)
  have hp := Nat.two_pow_pos d
  have e : ((2 : Int) ^ d) = ((2 ^ d : Nat) : Int) := by simp
  have e1 : wrap64 ((2 ^ d : Nat) : Int) = ((2 ^ d : Nat) : Int) := IntWalk.wrap64_in _ ⟨by omega, by omega⟩
  rw [e, e1, IntWalk.wrap64_in _ ⟨by omega, by omega⟩]
  exact and_i64 d Q hQ (by omega)

theorem wr_cells {w : World} {p : Nat} {a b c : Value} {t : TypeId} (h : w.heap[p]? = some (.cells #[a, b, c] t (0, 0))) : w.cell? ⟨p, 0, none⟩ = some a ∧ w.cell? ⟨p, 1, none⟩ = some b ∧ w.cell? ⟨p, 2, none⟩ = some c ∧ w.frozen? ⟨p, 0, none⟩ = false := by
  simp [World.cell?, World.frozen?, h]

theorem octs_snoc (xs : List Nat) (y : Nat) : octs xs ++ [.int .u8 (y : Int)] = octs (xs ++ [y]) := by simp [octs]

theorem u8_byte (Q t : Nat) : IntKind.u8.wrap ((Q : Int) / 2 ^ t) = ((Q / 2 ^ t % 256 : Nat) : Int) := by
  have e : (Q : Int) / 2 ^ t = ((Q / 2 ^ t : Nat) : Int) := by simp
  rw [e, IntKind.wrap_u8]; omega

theorem be_next (Q t j : Nat) : be (Q / 2 ^ (t + 8)) j ++ [Q / 2 ^ t % 256] = be (Q / 2 ^ t) (j + 1) := by
  rw [be, Nat.div_div_eq_div_mul, Nat.pow_add]

/-- What one round of Put's loop leaves. -/
theorem put_round {B : Nat} {w W w1 : World} {p k j cap t Q g cap' : Nat} {v : Value} {ao : Option Addr} {ys : List Nat} {o : Obj}
    (wc : W.heap[p]? = some (.cells #[.slice ao (k + j) cap, .int .i64 Q, .int .i64 (t : Int)] 27 (0, 0))) (wk : Kept (Foot p v) w W) (hp : p < W.heap.size)
    (hur : (Value.slice ao (k + j) cap).ownBlock ≠ some p) (hor2 : (Value.slice ao (k + j) cap).ownBlock = v.ownBlock ∨ ∃ g, (Value.slice ao (k + j) cap).ownBlock = some g ∧ w.heap.size ≤ g)
    (hown1 : w1.ownsRow B 5 1 (.slice (some ⟨g, 0, none⟩) (k + j + 1) cap') (k + j + 1) (octs (ys ++ be (Q / 2 ^ (t + 8)) j) ++ [.int .u8 (IntKind.u8.wrap ((Q : Int) / 2 ^ t))]))
    (hgrow : (W.alloc o).drew.grownBy w1 (Value.slice ao (k + j) cap).ownBlock) (hat : (Value.slice ao (k + j) cap).ownBlock = some g ∨ g = W.heap.size + 1) :
    (w1.setCell ⟨p, 0, none⟩ (.slice (some ⟨g, 0, none⟩) (k + j + 1) cap')).heap[p]? = some (.cells #[.slice (some ⟨g, 0, none⟩) (k + j + 1) cap', .int .i64 Q, .int .i64 (t : Int)] 27 (0, 0)) ∧
    (w1.setCell ⟨p, 0, none⟩ (.slice (some ⟨g, 0, none⟩) (k + j + 1) cap')).ownsRow B 5 1 (.slice (some ⟨g, 0, none⟩) (k + j + 1) cap') (k + (j + 1)) (octs (ys ++ be (Q / 2 ^ t) (j + 1))) ∧
    (Value.slice (some ⟨g, 0, none⟩) (k + j + 1) cap').ownBlock ≠ some p ∧ Kept (Foot p v) w (w1.setCell ⟨p, 0, none⟩ (.slice (some ⟨g, 0, none⟩) (k + j + 1) cap')) ∧
    ((Value.slice (some ⟨g, 0, none⟩) (k + j + 1) cap').ownBlock = v.ownBlock ∨ ∃ g', (Value.slice (some ⟨g, 0, none⟩) (k + j + 1) cap').ownBlock = some g' ∧ w.heap.size ≤ g') := by
  have hA : (W.alloc o).drew.heap[p]? = some (.cells #[.slice ao (k + j) cap, .int .i64 Q, .int .i64 (t : Int)] 27 (0, 0)) := (Below.heap_alloc W o p hp).trans wc
  have h1 := (hgrow.block p (by simp; omega) (Ne.symm hur)).trans hA
  have hgp : g ≠ p := by
    intro e; subst e
    rcases hat with h | h
    · exact hur h
    · omega
  rw [u8_byte, octs_snoc, List.append_assoc, be_next] at hown1
  have hsz := wk.size
  refine ⟨?_, ?_, ?_, ?_, ?_⟩
  · simp only [World.setCell, Array.getElem?_modify, h1]
    simp
  · rw [← Nat.add_assoc]
    refine ownsRow_same hown1 (fun g' hg' => Below.heap_setCell _ _ _ _ ?_)
    simp [Value.ownBlock] at hg'
    subst hg'
    exact hgp
  · simpa [Value.ownBlock] using hgp
  · refine Kept.setCell (Kept.grown ((wk.alloc o).drew) hgrow ?_) (.inl rfl) _
    intro m hm hlt
    rcases hor2 with h | ⟨g', h, hge⟩
    · exact .inr (by rw [← h, hm])
    · rw [h] at hm; injection hm with hm; omega
  · rcases hat with h | h
    · rcases hor2 with h2 | ⟨g', h2, hge⟩
      · left; rw [← h2, h]; rfl
      · right; refine ⟨g', ?_, hge⟩; rw [← h2, h]; rfl
    · right; exact ⟨g, rfl, by omega⟩

set_option maxHeartbeats 4000000 in
theorem put_core {B : Nat} {w : World} {p : Nat} {v : Value} {P c k : Nat} {ys : List Nat} (hc : w.heap[p]? = some (.cells #[v, .int .i64 P, .int .i64 c] 27 (0, 0)))
    (hr : w.ownsRow B 5 1 v k (octs ys)) (hB : B ≤ p) (hap : v.ownBlock ≠ some p) (hP : P < 2 ^ c) (hc8 : c < 8) (hk : k ≤ 70368744177664) (x n : Nat) (hn : n ≤ 32) (hx : x < 2 ^ n) :
    Calls Try.prog 11 #[.pointer (some ⟨p, 0, none⟩), .int .i64 x, .int .i64 n] w fun e w' => e = .returned (.bool true) ∧ ∃ v', w'.heap[p]? = some (.cells #[v', .int .i64 ((P * 2 ^ n + x) % 2 ^ ((c + n) % 8) : Nat), .int .i64 ((c + n) % 8 : Nat)] 27 (0, 0)) ∧
      w'.ownsRow B 5 1 v' (k + (c + n) / 8) (octs (ys ++ be ((P * 2 ^ n + x) / 2 ^ ((c + n) % 8)) ((c + n) / 8))) ∧ v'.ownBlock ≠ some p ∧ Kept (Foot p v) w w' ∧ (v'.ownBlock = v.ownBlock ∨ ∃ g, v'.ownBlock = some g ∧ w.heap.size ≤ g) := by
  have c0 : w.cell? ⟨p, 0, none⟩ = some v := by simp [World.cell?, hc]
  have c1 : w.cell? ⟨p, 1, none⟩ = some (.int .i64 P) := by simp [World.cell?, hc]
  have c2 : w.cell? ⟨p, 2, none⟩ = some (.int .i64 c) := by simp [World.cell?, hc]
  have f1 : w.frozen? ⟨p, 1, none⟩ = false := by simp [World.frozen?, hc]
  have f2 : w.frozen? ⟨p, 2, none⟩ = false := by simp [World.frozen?, hc]
  have hor := put_or P n x c hP hc8 hn hx
  have hq : ((x : Int) / 2 ^ n != 0) = false := by
    have : (x : Int) / 2 ^ n = ((x / 2 ^ n : Nat) : Int) := by simp
    rw [this, Nat.div_eq_of_lt hx]; rfl
  obtain ⟨i0, hi, hz0, hz1, hz2⟩ := info_parts Try.infoByte
  obtain ⟨Q, hQ⟩ : ∃ Q, Q = P * 2 ^ n + x := ⟨_, rfl⟩
  rw [← hQ] at hor
  have HQ : Hid (Q = P * 2 ^ n + x) := hQ
  rw [← hQ]
  clear hQ
  go_enter Try.func11, Try.ntmps11
  go_wp2
  go_loopw [] (fun wr => ∃ (j d : Nat) (u : Value), 8 * j + d = c + n ∧ wr.heap[p]? = some (.cells #[u, .int .i64 Q, .int .i64 (d : Int)] 27 (0, 0)) ∧ wr.ownsRow B 5 1 u (k + j) (octs (ys ++ be (Q / 2 ^ d) j)) ∧ u.ownBlock ≠ some p ∧ Kept (Foot p v) w wr ∧ (u.ownBlock = v.ownBlock ∨ ∃ g, u.ownBlock = some g ∧ w.heap.size ≤ g))
    (fun wr => (intOf ((wr.cell? ⟨p, 2, none⟩).getD (.int .i64 0))).toNat)
  case atStart =>
    refine ⟨0, c + n, v, by omega, ?_, ?_, hap, ((Kept.refl _ _).setCell (.inl rfl) _).setCell (.inl rfl) _, .inl rfl⟩
    · simp only [World.setCell, Array.getElem?_modify, hc]
      simp
    · have := ownsRow_same (w' := (w.setCell ⟨p, 1, none⟩ (.int .i64 Q)).setCell ⟨p, 2, none⟩ (.int .i64 ((c : Int) + (n : Int)))) hr (fun g hg => by rw [Below.heap_setCell _ _ _ _ (fun e => hap (by rw [hg, e])), Below.heap_setCell _ _ _ _ (fun e => hap (by rw [hg, e]))])
      simpa [be] using this
  case round =>
    obtain ⟨j, d, u, hj, hcr, hrr, hur, hkr, hor2⟩ := hrel
    clear c0 c1 c2 f1 f2 hor hq
    have c0 : wr.cell? ⟨p, 0, none⟩ = some u := by simp [World.cell?, hcr]
    have c1 : wr.cell? ⟨p, 1, none⟩ = some (.int .i64 Q) := by simp [World.cell?, hcr]
    have f0 : wr.frozen? ⟨p, 0, none⟩ = false := by simp [World.frozen?, hcr]
    have f1 : wr.frozen? ⟨p, 1, none⟩ = false := by simp [World.frozen?, hcr]
    have f2 : wr.frozen? ⟨p, 2, none⟩ = false := by simp [World.frozen?, hcr]
    obtain ⟨ao, cap, rfl⟩ := ownsRow_slice hrr
    by_cases hd : 8 ≤ d
    · obtain ⟨t, rfl⟩ : ∃ t, d = t + 8 := ⟨d - 8, by omega⟩
      have c2 : wr.cell? ⟨p, 2, none⟩ = some (.int .i64 ((t : Int) + 8)) := by simp [World.cell?, hcr]
      have cm := c2
      go_wp2
      obtain ⟨W, hW⟩ : ∃ W, W = wr.setCell ⟨p, 2, none⟩ (.int .i64 (t : Int)) := ⟨_, rfl⟩
      rw [← hW]
      have wc : W.heap[p]? = some (.cells #[.slice ao (k + j) cap, .int .i64 Q, .int .i64 (t : Int)] 27 (0, 0)) := by
        rw [hW]; simp only [World.setCell, Array.getElem?_modify, hcr]; simp
      have wo : W.ownsRow B 5 1 (.slice ao (k + j) cap) (k + j) (octs (ys ++ be (Q / 2 ^ (t + 8)) j)) := ownsRow_same hrr (fun g hg => by rw [hW, Below.heap_setCell _ _ _ _ (fun e => hur (by rw [hg, e]))])
      have wk : Kept (Foot p v) w W := by rw [hW]; exact hkr.setCell (.inl rfl) _
      clear hW c0 c1 c2 f0 f1 f2 hcr hrr hkr
      have c0 : W.cell? ⟨p, 0, none⟩ = some (.slice ao (k + j) cap) := by simp [World.cell?, wc]
      have c1 : W.cell? ⟨p, 1, none⟩ = some (.int .i64 Q) := by simp [World.cell?, wc]
      have c2 : W.cell? ⟨p, 2, none⟩ = some (.int .i64 (t : Int)) := by simp [World.cell?, wc]
      have f0 : W.frozen? ⟨p, 0, none⟩ = false := by simp [World.frozen?, wc]
      have hp : p < W.heap.size := (Array.getElem?_eq_some_iff.1 wc).1
      have hsz := wk.size
      have hA : ∀ o, (W.alloc o).drew.heap[p]? = some (.cells #[.slice ao (k + j) cap, .int .i64 Q, .int .i64 (t : Int)] 27 (0, 0)) := fun o => (Below.heap_alloc W o p hp).trans wc
      have hA0 : ∀ o, (W.alloc o).cell? ⟨p, 0, none⟩ = some (.slice ao (k + j) cap) := fun o => (wr_cells (hA o)).1
      have hA1 : ∀ o, (W.alloc o).cell? ⟨p, 1, none⟩ = some (.int .i64 Q) := fun o => (wr_cells (hA o)).2.1
      have hA2 : ∀ o, (W.alloc o).cell? ⟨p, 2, none⟩ = some (.int .i64 (t : Int)) := fun o => (wr_cells (hA o)).2.2.1
      go_region_law (refine step_append_lies _ (by rfl) (.tmp 62) (.tmp 73) 25 (by rfl) B 5 i0 (.int .u8 0) 1 1 Try.underlying25 hi hz0 hz1 hz2 (by rfl) (by decide) (.slice ao (k + j) cap) (k + j) (octs (ys ++ be (Q / 2 ^ (t + 8)) j)) (by simp [Act.eval]) ((wo.alloc _).drew) ⟨W.heap.size, 0, none⟩ 1 1 [.int .u8 (IntKind.u8.wrap ((Q : Int) / 2 ^ t))] (by simp [Act.eval]) (by rfl) (World.news_of_block (w := (W.alloc _).drew) (heap_alloc_new W _)) (by intro u hu; simp at hu; subst hu; rfl) (by decide) (by unfold maxLen; omega) (by omega) (by simp; omega) (W.heap.size + 1) (by simp) ?_; intro g cap' w1 hown1 hgrow hat hlt; have s0 := (wr_cells ((hgrow.block p (by simp; omega) (Ne.symm hur)).trans (hA _))).1; have s1 := (wr_cells ((hgrow.block p (by simp; omega) (Ne.symm hur)).trans (hA _))).2.2.2)
      all_goals (
        have R := put_round wc wk hp hur hor2 hown1 hgrow hat
        have hcell := (wr_cells R.1).2.2.1
        clear hA hA0 hA1 hA2 s0 s1 hown1 hgrow hat
        go_wp2
        go_roundw
        case rel => exact ⟨j + 1, t, _, by omega, R⟩
        case measure => rw [hcell, cm]; simp [intOf]; omega)
    · have c2 : wr.cell? ⟨p, 2, none⟩ = some (.int .i64 (d : Int)) := by simp [World.cell?, hcr]
      have hand : bits .and .i64 (Q : Int) (wrap64 (wrap64 (2 ^ d) - 1)) = ((Q % 2 ^ d : Nat) : Int) := and_end Q d (put_lt P n x c Q HQ.out hP hc8 hn hx) (by omega)
      go_wp2
      go_region
      all_goals go_wp2
      all_goals go_ret
      have hj2 : j = (c + n) / 8 := by omega
      have hd2 : d = (c + n) % 8 := by omega
      rw [← hj2, ← hd2]
      refine ⟨rfl, .slice ao (k + j) cap, ?_, ?_, hur, (hkr.setCell (.inl rfl) _).drew, hor2⟩
      · show (wr.setCell _ _).heap[p]? = _
        simp only [World.setCell, Array.getElem?_modify, hcr]
        simp
      · exact (ownsRow_same hrr (fun g hg => Below.heap_setCell _ _ _ _ (fun e => hur (by rw [hg, e])))).drew

end Go.Proofs.Ytlnhfdcmnlinkaa
