/-
  What a tree tells of a node, by the node's text.
-/
import Derived.Test.YtdplflcaanmmiaaGreatLinksRight
import Derived.Test.YtdplflcaanmmiaaGreatTrie
namespace Go.Proofs.YtdplflcaanmmiaaGreat
open Go.ChangeShapes Go.WideShapes Go.ChangeAt Go.RowKit

theorem bad_code {L : List ByteArray} {c a : Nat} (h : Bad L c a) : ¬ c = 0 := by
  rcases h with ⟨_, rfl, _⟩ | ⟨_, _, _, _, h⟩
  · decide
  · exact h

theorem text_txt {w : World} {B p : Nat} {A : List (List Nat)} {wd : List Nat → Int} (h : TrieAt w B p A wd) (j : Nat) (hj : j < A.length) :
    Calls Tryz.prog 121 #[.pointer (some ⟨p, 0, none⟩), .int .i64 (j : Int)] w fun e w' => e = .returned (.string (bytesOf (txt A j))) ∧ w' = w := by
  rw [txt_at hj]; exact text_in h j hj

theorem word_txt {w : World} {B p : Nat} {A : List (List Nat)} {wd : List Nat → Int} (h : TrieAt w B p A wd) (j : Nat) (hj : j < A.length) :
    Calls Tryz.prog 117 #[.pointer (some ⟨p, 0, none⟩), .int .i64 (j : Int)] w fun e w' => e = .returned (.int .i64 (wd (txt A j))) ∧ w' = w := by
  rw [txt_at hj]; exact word_in h j hj

theorem depth_txt {w : World} {B p : Nat} {A : List (List Nat)} {wd : List Nat → Int} (h : TrieAt w B p A wd) (j : Nat) (hj : j < A.length) :
    Calls Tryz.prog 106 #[.pointer (some ⟨p, 0, none⟩), .int .i64 (j : Int)] w fun e w' => e = .returned (.int .i64 ((txt A j).length : Int)) ∧ w' = w := by
  rw [txt_at hj]; exact depth_in h j hj

end Go.Proofs.YtdplflcaanmmiaaGreat
