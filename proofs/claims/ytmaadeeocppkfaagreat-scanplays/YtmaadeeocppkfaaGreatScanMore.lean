/-
  A scanner fed piece by piece beside a list of hits that grows.
-/
import Derived.Test.YtmaadeeocppkfaaGreatAlive9
import Derived.Test.YtmaadeeocppkfaaGreatRefPhrases
namespace Go.Proofs.YtmaadeeocppkfaaGreat
open Go.ChangeShapes Go.WideShapes Go.ChangeAt Go.RowKit

theorem ready_links {w : World} {l t : Nat} {L : List ByteArray} (h : LinksOf w l t L) : LinksAt w l t (nodesN (L.map nums)) (L.map nums) (wordOf (L.map nums)) := h

theorem ownsRow_kept {w w' : World} {base p : Nat} {e : TypeId} {size : Nat} {v : Value} {n : Nat} {xs : List Value} (h : w.ownsRow base e size v n xs) (hk : Kept (· = p) w w') (hp : p < base) : w'.ownsRow base e size v n xs :=
  ownsRow_same h (fun g hg => hk.block g (h.lt g hg).2 (by rintro rfl; have := (h.lt _ hg).1; omega))

theorem ScAt.row {w0 w w' : World} {p l t n base : Nat} {A P : List (List Nat)} {wd : List Nat → Int} {z : List Nat} (h : ScAt w0 w p l t A P wd z n) (hp : p < base) (hb : Below base w w') : ScAt w0 w' p l t A P wd z n :=
  { h with
    below := h.below.trans (hb.mono (Nat.le_trans h.lo (Nat.le_of_lt hp)))
    cells := (hb.block p hp).trans h.cells }

theorem hits_more (P : List (List Nat)) (u s : ByteArray) : asHits (hitsT P 0 [] (nums u)) ++ asHits (hitsT P u.size (nums u) (nums s)) = asHits (hitsT P 0 [] (nums (u ++ s))) := by
  rw [nums_append, hitsT_append, asHits_append, nums_length, Nat.zero_add, List.nil_append]

theorem feed_more {w0 w : World} {p l t : Nat} {A P : List (List Nat)} {u : ByteArray} (h : ScAt w0 w p l t A P (wordOf P) (nums u) u.size) (hr : Ready A P) (s : ByteArray) (hs : s.size ≤ 1000) (hu : u.size ≤ 10000) :
    Calls Tryz.prog 11 #[.pointer (some ⟨p, 0, none⟩), .string s] w fun e w' => ∃ v', e = .returned v' ∧ ReadsH w' v' (asHits (hitsT P u.size (nums u) (nums s))) ∧ (asHits (hitsT P u.size (nums u) (nums s))).length ≤ 40 * s.size ∧ ScAt w0 w' p l t A P (wordOf P) (nums (u ++ s)) (u ++ s).size ∧ Kept (· = p) w w' := by
  refine (feed_in h hr.father hr.mem hr.some hr.short s (by omega) (by omega)).mono ?_
  rintro e w' ⟨v, k, rfl, ho, hs2, hk⟩
  refine ⟨v, rfl, ownsRow_readsH ho, ?_, ?_, hk⟩
  · have := hitsT_few P 40 hr.short (nums s) u.size (nums u)
    rw [asHits_length]
    rw [nums_length] at this
    omega
  · rw [nums_append, ByteArray.size_append]
    exact hs2
end Go.Proofs.YtmaadeeocppkfaaGreat
