/-
  Contracts of package lexiphanebook over lists of texts: there are none in the book.
-/
import Derived.Test.YthgpacpahljabaaBookTexts2
namespace Go.Proofs.Ythgpacpahljabaa
open Go.ChangeShapes Go.WideShapes Go.ChangeAt Go.RowKit

theorem stillTexts_none {w : World} {p : Nat} {cs : Array Value} (hp : BookAt w p cs) (h : cs[2]? = some (.slice none 0 0)) :
    Calls Try.prog 34 #[.pointer (some ⟨p, 0, none⟩)] w fun e w' => e = .returned (.bool true) ∧ w' = w := by
  have c := hp.cell 2
  rw [h] at c
  go_enter Try.func34, Try.ntmps34
  go_wp2
  go_loopw [3] (fun vi wr => vi = .int .i64 0 ∧ wr = w) (fun _ _ => 0)
  case atStart => exact ⟨rfl, rfl⟩
  case round =>
    obtain ⟨rfl, rfl⟩ := hrel
    go_wp2
    go_ret
    exact ⟨rfl, rfl⟩

theorem putTexts_none {w : World} {p : Nat} {cs : Array Value} (hp : BookAt w p cs) (h : cs[2]? = some (.slice none 0 0)) :
    Calls Try.prog 39 #[.pointer (some ⟨p, 0, none⟩)] w fun e w' => e = .returned (.tuple #[]) ∧ w' = w := by
  have c := hp.cell 2
  rw [h] at c
  go_enter Try.func39, Try.ntmps39
  go_wp2
  go_loopw [2] (fun vi wr => vi = .int .i64 0 ∧ wr = w) (fun _ _ => 0)
  case atStart => exact ⟨rfl, rfl⟩
  case round =>
    obtain ⟨rfl, rfl⟩ := hrel
    go_wp2
    refine bodyPost_end (v := .tuple #[]) (by simp [results, Try.results39, go_sem]) rfl ⟨rfl, rfl⟩

theorem growTexts_none {w : World} {p : Nat} {cs : Array Value} (hp : BookAt w p cs) (h : cs[2]? = some (.slice none 0 0)) :
    Calls Try.prog 44 #[.pointer (some ⟨p, 0, none⟩)] w fun e w' => e = .returned (.slice none 0 0) ∧ w' = w := by
  have c := hp.cell 2
  rw [h] at c
  go_enter Try.func44, Try.ntmps44
  go_wp2
  go_loopw [3, 4] (fun vo vi wr => vo = .slice none 0 0 ∧ vi = .int .i64 0 ∧ wr = w) (fun _ _ _ => 0)
  case atStart => exact ⟨rfl, rfl, rfl⟩
  case round =>
    obtain ⟨rfl, rfl, rfl⟩ := hrel
    go_wp2
    go_ret
    exact ⟨rfl, rfl⟩

theorem markedTexts_none (w : World) :
    Calls Try.prog 49 #[.slice none 0 0] w fun e w' => e = .returned (.bool true) ∧ w' = w := by
  go_enter Try.func49, Try.ntmps49
  go_wp2
  go_loopw [3] (fun vi wr => vi = .int .i64 0 ∧ wr = w) (fun _ _ => 0)
  case atStart => exact ⟨rfl, rfl⟩
  case round =>
    obtain ⟨rfl, rfl⟩ := hrel
    go_wp2
    go_ret
    exact ⟨rfl, rfl⟩

end Go.Proofs.Ythgpacpahljabaa
