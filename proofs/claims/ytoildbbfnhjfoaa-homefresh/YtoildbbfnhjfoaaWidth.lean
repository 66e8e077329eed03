/-
  OWN WORK. The widths: math/bits.Len64 at the four numbers that 'width' hands it.
-/
import Derived.Test.YtoildbbfnhjfoaaRows
import Derived.Test.YtoildbbfnhjfoaaLib
import Derived.Lib.BitFns
import Derived.Lib.Walk
import Derived.Lib.Small
namespace Go.Proofs.Ytoildbbfnhjfoaa
open Go.RowKit
set_option linter.unusedVariables false

theorem tab255' : Lib.len8tab.data[255]? = some 8 := by kernel_rfl
theorem tab255 (n : Nat) (h : n < Lib.len8tab.size) (hn : n = 255) : ((Lib.len8tab[n]'h).toNat : Int) = 8 := by
  have e : Lib.len8tab.data[n]? = some (Lib.len8tab[n]'h) := Array.getElem?_eq_getElem h
  generalize Lib.len8tab[n]'h = y at e
  rw [hn, tab255'] at e
  obtain rfl := Option.some.inj e
  rfl

set_option maxRecDepth 100000 in
theorem len8_any (x : Int) (w : World) (h1 : 255 ≤ x) (h2 : x ≤ 255) : Calls Try.prog 60 #[.int .u64 x] w fun e w' => e = .returned (.int .i64 8) ∧ w' = w := by
  have hsz : (Lib.len8tab.size : Int) = 256 := by decide +kernel
  go_enter Try.func60, Try.ntmps60
  go_wp2
  all_goals (go_ret; refine ⟨congrArg Ending.returned (congrArg (Value.int IntKind.i64) ?_), rfl⟩)
  rw [tab255 _ _ (by omega)]
  decide +kernel
set_option maxRecDepth 100000 in
theorem len16_any (x : Int) (w : World) (h1 : 65535 ≤ x) (h2 : x ≤ 65535) : Calls Try.prog 60 #[.int .u64 x] w fun e w' => e = .returned (.int .i64 16) ∧ w' = w := by
  have hsz : (Lib.len8tab.size : Int) = 256 := by decide +kernel
  go_enter Try.func60, Try.ntmps60
  go_wp2
  all_goals (go_ret; refine ⟨congrArg Ending.returned (congrArg (Value.int IntKind.i64) ?_), rfl⟩)
  rw [tab255 _ _ (by omega)]
  decide +kernel
set_option maxRecDepth 100000 in
theorem len32_any (x : Int) (w : World) (h1 : 4294967295 ≤ x) (h2 : x ≤ 4294967295) : Calls Try.prog 60 #[.int .u64 x] w fun e w' => e = .returned (.int .i64 32) ∧ w' = w := by
  have hsz : (Lib.len8tab.size : Int) = 256 := by decide +kernel
  go_enter Try.func60, Try.ntmps60
  go_wp2
  all_goals (go_ret; refine ⟨congrArg Ending.returned (congrArg (Value.int IntKind.i64) ?_), rfl⟩)
  rw [tab255 _ _ (by omega)]
  decide +kernel
theorem width32_any (w : World) : Calls Try.prog 55 #[] w fun e w' => e = .returned (.int .i64 4) ∧ w' = w := by
  go_enter Try.func55, Try.ntmps55
  go_wp2_with (go_at_call 60; refine (len32_any _ _ (by decide +kernel) (by decide +kernel)).mono ?_; rintro e w' ⟨rfl, rfl⟩)
  go_ret
  exact ⟨rfl, rfl⟩

set_option maxRecDepth 100000 in
theorem len64_any (x : Int) (w : World) (h1 : 18446744073709551615 ≤ x) (h2 : x ≤ 18446744073709551615) : Calls Try.prog 60 #[.int .u64 x] w fun e w' => e = .returned (.int .i64 64) ∧ w' = w := by
  have hsz : (Lib.len8tab.size : Int) = 256 := by decide +kernel
  go_enter Try.func60, Try.ntmps60
  go_wp2
  all_goals (go_ret; refine ⟨congrArg Ending.returned (congrArg (Value.int IntKind.i64) ?_), rfl⟩)
  rw [tab255 _ _ (by omega)]
  decide +kernel
theorem width64_any (w : World) : Calls Try.prog 57 #[] w fun e w' => e = .returned (.int .i64 8) ∧ w' = w := by
  go_enter Try.func57, Try.ntmps57
  go_wp2_with (go_at_call 60; refine (len64_any _ _ (by decide +kernel) (by decide +kernel)).mono ?_; rintro e w' ⟨rfl, rfl⟩)
  go_ret
  exact ⟨rfl, rfl⟩
end Go.Proofs.Ytoildbbfnhjfoaa
