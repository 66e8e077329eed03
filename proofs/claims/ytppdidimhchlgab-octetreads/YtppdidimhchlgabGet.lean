/-
  OWN WORK. octet.Get at its four widths; the reader.
-/
import Derived.Test.YtppdidimhchlgabRows
import Derived.Test.YtppdidimhchlgabW1
import Derived.Test.YtppdidimhchlgabWidth
import Derived.Test.YtppdidimhchlgabCuts
namespace Go.Proofs.Ytppdidimhchlgab
open Go.RowKit
set_option linter.unusedVariables false

theorem sz8 : (Try.prog.info? 5).map (·.size) = some 1 := by kernel_rfl

theorem get16_short (v : Value) (l : List UInt8) (w : World) (hv : Bs w v l) (hl : l.length < 2) :
    Calls Try.prog 12 #[v] w fun e w' => e = .returned (.tuple #[.int .u16 0, .int .i64 10]) ∧ w' = w := by
  obtain ⟨p, c, rfl, -⟩ := hv
  have hl' : (l.length : Int) < 2 := by omega
  go_enter Try.func12, Try.ntmps12
  go_wp2_with (go_at_call 23; refine (width16_any _).mono ?_; rintro e w' ⟨rfl, rfl⟩)
  go_ret2
  exact ⟨rfl, rfl⟩
theorem get16_any (v : Value) (l : List UInt8) (w : World) (hv : Bs w v l) (hl : 2 ≤ l.length) :
    Calls Try.prog 12 #[v] w fun e w' => e = .returned (.tuple #[.int .u16 (low (l.take 2) : Int), .int .i64 0]) ∧ w' = w := by
  have hlo := low_take_lt l 2 hl
  have hwr : IntKind.u16.wrap (low (l.take 2) : Int) = (low (l.take 2) : Int) := wrap_u16 hlo
  clear hlo
  obtain ⟨p, c, rfl, h1, -⟩ := id hv
  obtain ⟨p2, hr1, -, hb1, -⟩ := hv.cuts (P := Try.prog) 22 5 Try.underlying22 sz8 2 hl
  have hl' : ((2 : Nat) : Int) ≤ (l.length : Int) := by omega
  go_enter Try.func12, Try.ntmps12
  go_wp2_with (first | (go_at_call 23; refine (width16_any _).mono ?_; rintro e w' ⟨rfl, rfl⟩) | (go_at_call 24; refine (low_any _ _ _ hb1 (by simp; omega)).mono ?_; rintro e w' ⟨rfl, rfl⟩))
  go_ret2
  exact ⟨rfl, rfl⟩

theorem get64_short (v : Value) (l : List UInt8) (w : World) (hv : Bs w v l) (hl : l.length < 8) :
    Calls Try.prog 27 #[v] w fun e w' => e = .returned (.tuple #[.int .u64 0, .int .i64 10]) ∧ w' = w := by
  obtain ⟨p, c, rfl, -⟩ := hv
  have hl' : (l.length : Int) < 8 := by omega
  go_enter Try.func27, Try.ntmps27
  go_wp2_with (go_at_call 29; refine (width64_any _).mono ?_; rintro e w' ⟨rfl, rfl⟩)
  go_ret2
  exact ⟨rfl, rfl⟩
theorem get64_any (v : Value) (l : List UInt8) (w : World) (hv : Bs w v l) (hl : 8 ≤ l.length) :
    Calls Try.prog 27 #[v] w fun e w' => e = .returned (.tuple #[.int .u64 (low (l.take 8) : Int), .int .i64 0]) ∧ w' = w := by
  have hlo := low_take_lt l 8 hl
  clear hlo
  obtain ⟨p, c, rfl, h1, -⟩ := id hv
  obtain ⟨p2, hr1, -, hb1, -⟩ := hv.cuts (P := Try.prog) 22 5 Try.underlying22 sz8 8 hl
  have hl' : ((8 : Nat) : Int) ≤ (l.length : Int) := by omega
  go_enter Try.func27, Try.ntmps27
  go_wp2_with (first | (go_at_call 29; refine (width64_any _).mono ?_; rintro e w' ⟨rfl, rfl⟩) | (go_at_call 24; refine (low_any _ _ _ hb1 (by simp; omega)).mono ?_; rintro e w' ⟨rfl, rfl⟩))
  go_ret2
  exact ⟨rfl, rfl⟩
end Go.Proofs.Ytppdidimhchlgab
