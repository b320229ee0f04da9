/-
  Closed facts of this translation on fmt.Errorf("at %w", x) with x a Fault: what the stop asks, whom it calls, what it makes. (No statement of its own is proved here.)
-/
import Derived.Test.YtfalihhbcpjmgaaFmtDigits
import Derived.WalkSpells
import Derived.Stop.CallBack
import Derived.Stop.IfaceNil
import GoSem.ClaimData
namespace Go.Proofs.YtfalihhbcpjmgaaFmt
open Go.RowKit Go.Extern.Stop Go.Stop Go.Extern

@[go_sem] theorem call_errorf (args : Array Value) (w : World) : (callFunc 11 args).run Tryf.prog w = (FmtCalls.errorf #[9, 40] #[27] args).run Tryf.prog w :=
  run_callFunc_next Tryf.func11 (by kernel_rfl) (by kernel_rfl) (by kernel_rfl) args w
@[go_sem] theorem f_guard (name : String) (w : World) : (FmtStop.guard name).run Tryf.prog w = .ok () w := by kernel_rfl
theorem nextTurns : Extern.next FmtCalls.turnsRow = some (FmtCalls.begun #[] #[]) := by kernel_rfl
theorem nextReturned : Extern.next FmtCalls.returnedRow = some (FmtCalls.returned #[] #[]) := by kernel_rfl
@[go_sem] theorem fmt0 : FmtStop.printed? ⟨#[97, 116, 32, 37, 119]⟩ 1 = some [(0, 119, false)] := by kernel_rfl
@[go_sem] theorem fmt0r (w : World) : (FmtDoors.printed ⟨#[97, 116, 32, 37, 119]⟩ 1).run Tryf.prog w = .ok [(0, 119, false)] w := by kernel_rfl
@[go_sem] theorem act_w (name : String) (x : Value) (w : World) : (FmtCalls.act name true 119 false (.iface 25 x)).run Tryf.prog w = .ok (.call true) w := by kernel_rfl
@[go_sem] theorem isError (w : World) : (FmtDoors.textMethod 25 "Error").run Tryf.prog w = .ok true w := by kernel_rfl
theorem invokeError (x : Value) (w : World) : (invoke (.fn (.method "Error") #[]) #[.iface 25 x]).run Tryf.prog w = .ok (.enter 13 #[x]) w := by kernel_rfl
@[go_sem] theorem str_fault (w : World) : (typeStr 25).run Tryf.prog w = .ok "fault.Fault" w := by kernel_rfl
@[go_sem] theorem ptr_wrap (w : World) : (FmtStop.ptrTo "fmt.wrapError").run Tryf.prog w = .ok 42 w := by kernel_rfl
@[go_sem] theorem elem_wrap (w : World) : (elemOf 42).run Tryf.prog w = .ok 82 w := by kernel_rfl
@[go_sem] theorem isError_wrap (w : World) : (FmtDoors.textMethod 42 "Error").run Tryf.prog w = .ok true w := by kernel_rfl

set_option maxHeartbeats 1600000 in
set_option maxRecDepth 100000 in
/-- fmt.Errorf("at %w", x): some error of fmt's own make. -/
theorem errorf_some (F : Interp) (c a : Int) (h0 : -9223372036854775808 ≤ a) (h1 : a ≤ 9223372036854775807) (b : Nat) (w : World) (hF : F.answers w.tape) (ht : Tab w)
    (hc : w.cell? ⟨b, 0, none⟩ = some (.iface 25 (.agg #[.int .i64 c, .int .i64 a]))) :
    Calls Tryf.prog 5 #[.string ⟨#[97, 116, 32, 37, 119]⟩, .slice (some ⟨b, 0, none⟩) 1 1] w fun e w' => ∃ q, e = .returned (.iface 42 (.pointer (some q))) ∧ Below w.heap.size w w' := by
  have hF' := answers_open hF
  have HT := Lib.hid ht
  clear ht
  go_enter Tryf.func5, Tryf.ntmps5
  go_wp2
  apply rows_call nextTurns
  case hr =>
    go_simp
    exact ⟨⟨rfl, rfl, rfl⟩, rfl⟩
  case hi => exact invokeError _ _
  case hc =>
    refine (error_some c a h0 h1 _ HT.out).mono ?_
    rintro e w3 ⟨s, hs, rfl, hx⟩
    have hF3 : ∀ i name reading k range, w3.tape i (.extern (word name reading k) range) = F name reading k := by rw [hx.tape]; exact hF'
    have hc3 := keeps hx _ _ hc
    have HX := Lib.hid hx
    clear hF' hc hx hF
    apply rows_value nextReturned
    case hr =>
      go_simp
      exact ⟨rfl, rfl⟩
    case h =>
      go_wp2
      go_ret
      exact ⟨_, rfl, (HX.out.alloc HX.out.size _).drew⟩

end Go.Proofs.YtfalihhbcpjmgaaFmt
