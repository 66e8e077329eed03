/-
  OWN WORK. octet.Get at its four widths; the reader.
-/
import Derived.Test.YtppdidimhchlgaaRows
import Derived.Test.YtppdidimhchlgaaW1
import Derived.Test.YtppdidimhchlgaaWidth
import Derived.Test.YtppdidimhchlgaaCuts
namespace Go.Proofs.Ytppdidimhchlgaa
open Go.RowKit
set_option linter.unusedVariables false

theorem sz8 : (Try.prog.info? 5).map (·.size) = some 1 := by kernel_rfl

theorem get8_short (v : Value) (l : List UInt8) (w : World) (hv : Bs w v l) (hl : l.length < 1) :
    Calls Try.prog 22 #[v] w fun e w' => e = .returned (.tuple #[.int .u8 0, .int .i64 10]) ∧ w' = w := by
  obtain ⟨p, c, rfl, -⟩ := hv
  have hl' : (l.length : Int) < 1 := by omega
  go_enter Try.func22, Try.ntmps22
  go_wp2_with (go_at_call 31; refine (width8_any _).mono ?_; rintro e w' ⟨rfl, rfl⟩)
  go_ret2
  exact ⟨rfl, rfl⟩
theorem get8_any (v : Value) (l : List UInt8) (w : World) (hv : Bs w v l) (hl : 1 ≤ l.length) :
    Calls Try.prog 22 #[v] w fun e w' => e = .returned (.tuple #[.int .u8 (low (l.take 1) : Int), .int .i64 0]) ∧ w' = w := by
  have hlo := low_take_lt l 1 hl
  have hwr : IntKind.u8.wrap (low (l.take 1) : Int) = (low (l.take 1) : Int) := wrap_u8 hlo
  clear hlo
  obtain ⟨p, c, rfl, h1, -⟩ := id hv
  obtain ⟨p2, hr1, -, hb1, -⟩ := hv.cuts (P := Try.prog) 25 5 Try.underlying25 sz8 1 hl
  have hl' : ((1 : Nat) : Int) ≤ (l.length : Int) := by omega
  go_enter Try.func22, Try.ntmps22
  go_wp2_with (first | (go_at_call 31; refine (width8_any _).mono ?_; rintro e w' ⟨rfl, rfl⟩) | (go_at_call 37; refine (low_any _ _ _ hb1 (by simp; omega)).mono ?_; rintro e w' ⟨rfl, rfl⟩))
  go_ret2
  exact ⟨rfl, rfl⟩

theorem get16_short (v : Value) (l : List UInt8) (w : World) (hv : Bs w v l) (hl : l.length < 2) :
    Calls Try.prog 23 #[v] w fun e w' => e = .returned (.tuple #[.int .u16 0, .int .i64 10]) ∧ w' = w := by
  obtain ⟨p, c, rfl, -⟩ := hv
  have hl' : (l.length : Int) < 2 := by omega
  go_enter Try.func23, Try.ntmps23
  go_wp2_with (go_at_call 32; refine (width16_any _).mono ?_; rintro e w' ⟨rfl, rfl⟩)
  go_ret2
  exact ⟨rfl, rfl⟩
theorem get16_any (v : Value) (l : List UInt8) (w : World) (hv : Bs w v l) (hl : 2 ≤ l.length) :
    Calls Try.prog 23 #[v] w fun e w' => e = .returned (.tuple #[.int .u16 (low (l.take 2) : Int), .int .i64 0]) ∧ w' = w := by
  have hlo := low_take_lt l 2 hl
  have hwr : IntKind.u16.wrap (low (l.take 2) : Int) = (low (l.take 2) : Int) := wrap_u16 hlo
  clear hlo
  obtain ⟨p, c, rfl, h1, -⟩ := id hv
  obtain ⟨p2, hr1, -, hb1, -⟩ := hv.cuts (P := Try.prog) 25 5 Try.underlying25 sz8 2 hl
  have hl' : ((2 : Nat) : Int) ≤ (l.length : Int) := by omega
  go_enter Try.func23, Try.ntmps23
  go_wp2_with (first | (go_at_call 32; refine (width16_any _).mono ?_; rintro e w' ⟨rfl, rfl⟩) | (go_at_call 37; refine (low_any _ _ _ hb1 (by simp; omega)).mono ?_; rintro e w' ⟨rfl, rfl⟩))
  go_ret2
  exact ⟨rfl, rfl⟩

theorem get32_short (v : Value) (l : List UInt8) (w : World) (hv : Bs w v l) (hl : l.length < 4) :
    Calls Try.prog 24 #[v] w fun e w' => e = .returned (.tuple #[.int .u32 0, .int .i64 10]) ∧ w' = w := by
  obtain ⟨p, c, rfl, -⟩ := hv
  have hl' : (l.length : Int) < 4 := by omega
  go_enter Try.func24, Try.ntmps24
  go_wp2_with (go_at_call 33; refine (width32_any _).mono ?_; rintro e w' ⟨rfl, rfl⟩)
  go_ret2
  exact ⟨rfl, rfl⟩
theorem get32_any (v : Value) (l : List UInt8) (w : World) (hv : Bs w v l) (hl : 4 ≤ l.length) :
    Calls Try.prog 24 #[v] w fun e w' => e = .returned (.tuple #[.int .u32 (low (l.take 4) : Int), .int .i64 0]) ∧ w' = w := by
  have hlo := low_take_lt l 4 hl
  have hwr : IntKind.u32.wrap (low (l.take 4) : Int) = (low (l.take 4) : Int) := wrap_u32 hlo
  clear hlo
  obtain ⟨p, c, rfl, h1, -⟩ := id hv
  obtain ⟨p2, hr1, -, hb1, -⟩ := hv.cuts (P := Try.prog) 25 5 Try.underlying25 sz8 4 hl
  have hl' : ((4 : Nat) : Int) ≤ (l.length : Int) := by omega
  go_enter Try.func24, Try.ntmps24
  go_wp2_with (first | (go_at_call 33; refine (width32_any _).mono ?_; rintro e w' ⟨rfl, rfl⟩) | (go_at_call 37; refine (low_any _ _ _ hb1 (by simp; omega)).mono ?_; rintro e w' ⟨rfl, rfl⟩))
  go_ret2
  exact ⟨rfl, rfl⟩

theorem get64_short (v : Value) (l : List UInt8) (w : World) (hv : Bs w v l) (hl : l.length < 8) :
    Calls Try.prog 25 #[v] w fun e w' => e = .returned (.tuple #[.int .u64 0, .int .i64 10]) ∧ w' = w := by
  obtain ⟨p, c, rfl, -⟩ := hv
  have hl' : (l.length : Int) < 8 := by omega
  go_enter Try.func25, Try.ntmps25
  go_wp2_with (go_at_call 34; refine (width64_any _).mono ?_; rintro e w' ⟨rfl, rfl⟩)
  go_ret2
  exact ⟨rfl, rfl⟩
theorem get64_any (v : Value) (l : List UInt8) (w : World) (hv : Bs w v l) (hl : 8 ≤ l.length) :
    Calls Try.prog 25 #[v] w fun e w' => e = .returned (.tuple #[.int .u64 (low (l.take 8) : Int), .int .i64 0]) ∧ w' = w := by
  have hlo := low_take_lt l 8 hl
  clear hlo
  obtain ⟨p, c, rfl, h1, -⟩ := id hv
  obtain ⟨p2, hr1, -, hb1, -⟩ := hv.cuts (P := Try.prog) 25 5 Try.underlying25 sz8 8 hl
  have hl' : ((8 : Nat) : Int) ≤ (l.length : Int) := by omega
  go_enter Try.func25, Try.ntmps25
  go_wp2_with (first | (go_at_call 34; refine (width64_any _).mono ?_; rintro e w' ⟨rfl, rfl⟩) | (go_at_call 37; refine (low_any _ _ _ hb1 (by simp; omega)).mono ?_; rintro e w' ⟨rfl, rfl⟩))
  go_ret2
  exact ⟨rfl, rfl⟩
end Go.Proofs.Ytppdidimhchlgaa
