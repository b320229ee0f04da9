/-
  Contracts of package lexiphanebook over lists of texts: there are none in the book.
-/
import Derived.Test.YtgmfjgiakgoofaaBookTexts2
namespace Go.Proofs.Ytgmfjgiakgoofaa
open Go.ChangeShapes Go.WideShapes Go.ChangeAt Go.RowKit

theorem stillTexts_none {w : World} {p : Nat} {cs : Array Value} (hp : BookAt w p cs) (h : cs[2]? = some (.slice none 0 0)) :
    Calls Try.prog 20 #[.pointer (some ⟨p, 0, none⟩)] w fun e w' => e = .returned (.bool true) ∧ w' = w := by
  have c := hp.cell 2
  rw [h] at c
  go_enter Try.func20, Try.ntmps20
  go_wp2
  go_loopw [3] (fun vi wr => vi = .int .i64 0 ∧ wr = w) (fun _ _ => 0)
  case atStart => exact ⟨rfl, rfl⟩
  case round =>
    obtain ⟨rfl, rfl⟩ := hrel
    go_wp2
    go_ret
    exact ⟨rfl, rfl⟩

theorem putTexts_none {w : World} {p : Nat} {cs : Array Value} (hp : BookAt w p cs) (h : cs[2]? = some (.slice none 0 0)) :
    Calls Try.prog 25 #[.pointer (some ⟨p, 0, none⟩)] w fun e w' => e = .returned (.tuple #[]) ∧ w' = w := by
  have c := hp.cell 2
  rw [h] at c
  go_enter Try.func25, Try.ntmps25
  go_wp2
  go_loopw [2] (fun vi wr => vi = .int .i64 0 ∧ wr = w) (fun _ _ => 0)
  case atStart => exact ⟨rfl, rfl⟩
  case round =>
    obtain ⟨rfl, rfl⟩ := hrel
    go_wp2
    refine bodyPost_end (v := .tuple #[]) (by simp [results, Try.results25, go_sem]) rfl ⟨rfl, rfl⟩

theorem growTexts_none {w : World} {p : Nat} {cs : Array Value} (hp : BookAt w p cs) (h : cs[2]? = some (.slice none 0 0)) :
    Calls Try.prog 30 #[.pointer (some ⟨p, 0, none⟩)] w fun e w' => e = .returned (.slice none 0 0) ∧ w' = w := by
  have c := hp.cell 2
  rw [h] at c
  go_enter Try.func30, Try.ntmps30
  go_wp2
  go_loopw [3, 4] (fun vo vi wr => vo = .slice none 0 0 ∧ vi = .int .i64 0 ∧ wr = w) (fun _ _ _ => 0)
  case atStart => exact ⟨rfl, rfl, rfl⟩
  case round =>
    obtain ⟨rfl, rfl, rfl⟩ := hrel
    go_wp2
    go_ret
    exact ⟨rfl, rfl⟩

theorem markedTexts_none (w : World) :
    Calls Try.prog 35 #[.slice none 0 0] w fun e w' => e = .returned (.bool true) ∧ w' = w := by
  go_enter Try.func35, Try.ntmps35
  go_wp2
  go_loopw [3] (fun vi wr => vi = .int .i64 0 ∧ wr = w) (fun _ _ => 0)
  case atStart => exact ⟨rfl, rfl⟩
  case round =>
    obtain ⟨rfl, rfl⟩ := hrel
    go_wp2
    go_ret
    exact ⟨rfl, rfl⟩

end Go.Proofs.Ytgmfjgiakgoofaa
