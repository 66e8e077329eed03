/-
  OWN WORK. octet.Get at its four widths; the reader.
-/
import Derived.Test.YtoildbbfnhjfoaaRows
import Derived.Test.YtoildbbfnhjfoaaW1
import Derived.Test.YtoildbbfnhjfoaaWidth
import Derived.Test.YtoildbbfnhjfoaaCuts
namespace Go.Proofs.Ytoildbbfnhjfoaa
open Go.RowKit
set_option linter.unusedVariables false

theorem sz8 : (Try.prog.info? 5).map (·.size) = some 1 := by kernel_rfl

theorem get32_short (v : Value) (l : List UInt8) (w : World) (hv : Bs w v l) (hl : l.length < 4) :
    Calls Try.prog 53 #[v] w fun e w' => e = .returned (.tuple #[.int .u32 0, .int .i64 10]) ∧ w' = w := by
  obtain ⟨p, c, rfl, -⟩ := hv
  have hl' : (l.length : Int) < 4 := by omega
  go_enter Try.func53, Try.ntmps53
  go_wp2_with (go_at_call 55; refine (width32_any _).mono ?_; rintro e w' ⟨rfl, rfl⟩)
  go_ret2
  exact ⟨rfl, rfl⟩
theorem get32_any (v : Value) (l : List UInt8) (w : World) (hv : Bs w v l) (hl : 4 ≤ l.length) :
    Calls Try.prog 53 #[v] w fun e w' => e = .returned (.tuple #[.int .u32 (low (l.take 4) : Int), .int .i64 0]) ∧ w' = w := by
  have hlo := low_take_lt l 4 hl
  have hwr : IntKind.u32.wrap (low (l.take 4) : Int) = (low (l.take 4) : Int) := wrap_u32 hlo
  clear hlo
  obtain ⟨p, c, rfl, h1, -⟩ := id hv
  obtain ⟨p2, hr1, -, hb1, -⟩ := hv.cuts (P := Try.prog) 33 5 Try.underlying33 sz8 4 hl
  have hl' : ((4 : Nat) : Int) ≤ (l.length : Int) := by omega
  go_enter Try.func53, Try.ntmps53
  go_wp2_with (first | (go_at_call 55; refine (width32_any _).mono ?_; rintro e w' ⟨rfl, rfl⟩) | (go_at_call 59; refine (low_any _ _ _ hb1 (by simp; omega)).mono ?_; rintro e w' ⟨rfl, rfl⟩))
  go_ret2
  exact ⟨rfl, rfl⟩

theorem get64_short (v : Value) (l : List UInt8) (w : World) (hv : Bs w v l) (hl : l.length < 8) :
    Calls Try.prog 54 #[v] w fun e w' => e = .returned (.tuple #[.int .u64 0, .int .i64 10]) ∧ w' = w := by
  obtain ⟨p, c, rfl, -⟩ := hv
  have hl' : (l.length : Int) < 8 := by omega
  go_enter Try.func54, Try.ntmps54
  go_wp2_with (go_at_call 57; refine (width64_any _).mono ?_; rintro e w' ⟨rfl, rfl⟩)
  go_ret2
  exact ⟨rfl, rfl⟩
theorem get64_any (v : Value) (l : List UInt8) (w : World) (hv : Bs w v l) (hl : 8 ≤ l.length) :
    Calls Try.prog 54 #[v] w fun e w' => e = .returned (.tuple #[.int .u64 (low (l.take 8) : Int), .int .i64 0]) ∧ w' = w := by
  have hlo := low_take_lt l 8 hl
  clear hlo
  obtain ⟨p, c, rfl, h1, -⟩ := id hv
  obtain ⟨p2, hr1, -, hb1, -⟩ := hv.cuts (P := Try.prog) 33 5 Try.underlying33 sz8 8 hl
  have hl' : ((8 : Nat) : Int) ≤ (l.length : Int) := by omega
  go_enter Try.func54, Try.ntmps54
  go_wp2_with (first | (go_at_call 57; refine (width64_any _).mono ?_; rintro e w' ⟨rfl, rfl⟩) | (go_at_call 59; refine (low_any _ _ _ hb1 (by simp; omega)).mono ?_; rintro e w' ⟨rfl, rfl⟩))
  go_ret2
  exact ⟨rfl, rfl⟩
end Go.Proofs.Ytoildbbfnhjfoaa
