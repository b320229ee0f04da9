/-
  Contract of the library at this program: strconv.Itoa of a number below 100, one application.
-/
import Derived.Shelf.Strconv.Itoa0
import Derived.Shelf.Strconv.Itoa1
import Derived.Shelf.LaysM
import Derived.Shelf.Strconv.Itoa2
import Derived.Shelf.Strconv.Itoa3
import Derived.Test.YtbeahodgkdbidaaProg
namespace Go.Proofs
open Go.Shelf
def Try.lays171_ren : Go.Shelf.Ren := ⟨fun | 171 => 100 | 243 => 101 | 246 => 102 | 283 => 103 | 284 => 104 | 285 => 105 | 286 => 106 | 129 => 108 | 317 => 107 | 318 => 109 | 319 => 110 | 320 => 111 | 337 => 112 | 338 => 113 | n => n, fun | 3 => 3 | 9 => 9 | 2 => 2 | 4 => 4 | 171 => 137 | 0 => 0 | 53 => 41 | 37 => 68 | 5 => 5 | 173 => 140 | 212 => 143 | 51 => 126 | 20 => 20 | 213 => 144 | 46 => 69 | 232 => 148 | 233 => 149 | n => n, fun | 17 => 0 | 18 => 1 | 19 => 2 | n => n⟩
theorem Try.lays171 : Go.Proofs.Lays.n171 Try.prog Try.lays171_ren := {
  mixed := by kernel_rfl
  f129 := Try.func108.trans (congrArg some (by kernel_rfl))
  f171 := Try.func100.trans (congrArg some (by kernel_rfl))
  f243 := Try.func101.trans (congrArg some (by kernel_rfl))
  f246 := Try.func102.trans (congrArg some (by kernel_rfl))
  f283 := Try.func103.trans (congrArg some (by kernel_rfl))
  f284 := Try.func104.trans (congrArg some (by kernel_rfl))
  f285 := Try.func105.trans (congrArg some (by kernel_rfl))
  f286 := Try.func106.trans (congrArg some (by kernel_rfl))
  f317 := Try.func107.trans (congrArg some (by kernel_rfl))
  f318 := Try.func109.trans (congrArg some (by kernel_rfl))
  f319 := Try.func110.trans (congrArg some (by kernel_rfl))
  f320 := Try.func111.trans (congrArg some (by kernel_rfl))
  f337 := Try.func112.trans (congrArg some (by kernel_rfl))
  f338 := Try.func113.trans (congrArg some (by kernel_rfl))
  t0 := Try.underlying0
  a0 := Try.isAgg0
  z0 := Try.sizeOf0
  v0 := Try.zeroValue0
  t2 := Try.underlying2
  a2 := Try.isAgg2
  z2 := Try.sizeOf2
  v2 := Try.zeroValue2
  t3 := Try.underlying3
  a3 := Try.isAgg3
  z3 := Try.sizeOf3
  v3 := Try.zeroValue3
  t4 := Try.underlying4
  a4 := Try.isAgg4
  z4 := Try.sizeOf4
  v4 := Try.zeroValue4
  t5 := Try.underlying5
  a5 := Try.isAgg5
  z5 := Try.sizeOf5
  v5 := Try.zeroValue5
  t9 := Try.underlying9
  a9 := Try.isAgg9
  z9 := Try.sizeOf9
  v9 := Try.zeroValue9
  t20 := Try.underlying20
  a20 := Try.isAgg20
  z20 := Try.sizeOf20
  v20 := Try.zeroValue20
  t37 := Try.underlying68
  a37 := Try.isAgg68
  z37 := Try.sizeOf68
  v37 := Try.zeroValue68
  t46 := Try.underlying69
  a46 := Try.isAgg69
  z46 := Try.sizeOf69
  v46 := Try.zeroValue69
  t51 := Try.underlying126
  a51 := Try.isAgg126
  z51 := Try.sizeOf126
  v51 := Try.zeroValue126
  t53 := Try.underlying41
  a53 := Try.isAgg41
  z53 := Try.sizeOf41
  v53 := Try.zeroValue41
  t171 := Try.underlying137
  a171 := Try.isAgg137
  z171 := Try.sizeOf137
  v171 := Try.zeroValue137
  t173 := Try.underlying140
  a173 := Try.isAgg140
  z173 := Try.sizeOf140
  v173 := Try.zeroValue140
  t212 := Try.underlying143
  a212 := Try.isAgg143
  z212 := Try.sizeOf143
  v212 := Try.zeroValue143
  t213 := Try.underlying144
  a213 := Try.isAgg144
  z213 := Try.sizeOf144
  t232 := Try.underlying148
  a232 := Try.isAgg148
  z232 := Try.sizeOf148
  v232 := Try.zeroValue148
  t233 := Try.underlying149
  a233 := Try.isAgg149
  z233 := Try.sizeOf149
  v233 := Try.zeroValue149
  g17 := by kernel_rfl
  g18 := by kernel_rfl
  g19 := by kernel_rfl }
open Go.RowKit Go.Sort Go.Lib in
theorem Try.strconv_Itoa_small (i : Nat) (hi : i < 100) (w : World) :
    Calls Try.prog 100 #[.int .i64 i] w fun e w' => e = .returned (.string ⟨(Lib.decDigits i).toArray⟩) ∧ w' = w := Any.strconv_Itoa_small Try.lays171 i hi w
end Go.Proofs
