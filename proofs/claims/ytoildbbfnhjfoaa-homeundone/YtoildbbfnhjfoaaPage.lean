/-
  OWN WORK. page.Bytes, slotsOf, lookForSlot, slotAt, slotBytes, entry.
-/
import Derived.Test.YtoildbbfnhjfoaaRows
import Derived.Deep.QuietTactic
import Derived.BigQuiet
import Derived.Handy
import Derived.Test.YtoildbbfnhjfoaaPageLib
import Derived.Test.YtoildbbfnhjfoaaPut
import Derived.Test.YtoildbbfnhjfoaaGet
import Derived.Test.YtoildbbfnhjfoaaImg
namespace Go.Proofs.Ytoildbbfnhjfoaa
open Go.RowKit
set_option linter.unusedVariables false

/-- what page.Bytes answers -/
def bytesN (s : Int) : Int := if 1 ≤ s ∧ s ≤ 8 then 24 + 16 * s else 0
theorem pageBytes_any (s : Int) (w : World) :
    Calls Try.prog 58 #[.int .i64 s] w fun e w' => e = .returned (.int .i64 (bytesN s)) ∧ w' = w := by
  obtain ⟨z, hz⟩ : ∃ z, z = bytesN s := ⟨_, rfl⟩
  rw [← hz]
  have HZ : Hid (z = if 1 ≤ s ∧ s ≤ 8 then 24 + 16 * s else 0) := hz
  clear hz
  by_cases c1 : s < 1
  · go_enter Try.func58, Try.ntmps58
    go_wp2
    go_ret
    exact ⟨by rw [HZ.out, if_neg (by omega)]; rfl, rfl⟩
  · by_cases c2 : 8 < s
    · go_enter Try.func58, Try.ntmps58
      go_wp2
      go_ret
      exact ⟨by rw [HZ.out, if_neg (by omega)]; rfl, rfl⟩
    · have w1 : IntKind.i64.wrap (s * 16) = s * 16 := by rw [IntKind.wrap_i64]; omega
      have w2 : IntKind.i64.wrap (16 + s * 16) = 16 + s * 16 := by rw [IntKind.wrap_i64]; omega
      have w3 : IntKind.i64.wrap (16 + s * 16 + 8) = 24 + 16 * s := by rw [IntKind.wrap_i64]; omega
      have e : z = 24 + 16 * s := by rw [HZ.out, if_pos (by omega)]
      subst e
      clear HZ
      go_enter Try.func58, Try.ntmps58
      go_wp2
      go_ret
      exact ⟨rfl, rfl⟩
theorem slots_tdiv (n : Nat) (s : Int) (hs : s = ((n : Int) - 24).tdiv 16) (h : ¬ s < 1) : s = (((n - 24) / 16 : Nat) : Int) := by
  have h24 : 24 ≤ n := by
    rcases Nat.lt_or_ge n 24 with c | c
    · exfalso
      have : ((n : Int) - 24).tdiv 16 = -((24 - n : Nat) / 16 : Nat) := by
        rw [show ((n : Int) - 24) = -((24 - n : Nat) : Int) by omega, Int.neg_tdiv, Int.tdiv_eq_ediv_of_nonneg (by omega)]
        omega
      omega
    · exact c
  rw [hs, Int.tdiv_eq_ediv_of_nonneg (by omega)]
  omega
theorem slotsOf_any (u : Value) (a : List UInt8) (w : World) (hu : Bs w u a) :
    Calls Try.prog 52 #[u] w fun e w' => e = .returned (.int .i64 (slotsOf a : Int)) ∧ w' = w := by
  obtain ⟨p, c, rfl, h1, h2, -⟩ := hu
  unfold maxLen at h2
  have w1 : IntKind.i64.wrap ((a.length : Int) - 16) = (a.length : Int) - 16 := by rw [IntKind.wrap_i64]; omega
  have w2 : IntKind.i64.wrap ((a.length : Int) - 16 - 8) = (a.length : Int) - 24 := by rw [IntKind.wrap_i64]; omega
  obtain ⟨s, hs⟩ : ∃ s, s = ((a.length : Int) - 24).tdiv 16 := ⟨_, rfl⟩
  have hb : -2 ≤ s ∧ s ≤ (a.length : Int) := by
    rcases Nat.lt_or_ge a.length 24 with g | g
    · have e : ((a.length : Int) - 24).tdiv 16 = -((24 - a.length : Nat) / 16 : Nat) := by
        rw [show ((a.length : Int) - 24) = -((24 - a.length : Nat) : Int) by omega, Int.neg_tdiv, Int.tdiv_eq_ediv_of_nonneg (by omega)]
        omega
      rw [hs, e]
      omega
    · rw [hs, Int.tdiv_eq_ediv_of_nonneg (by omega)]
      omega
  have w3 : IntKind.i64.wrap (((a.length : Int) - 24).tdiv 16) = s := by
    rw [← hs, IntKind.wrap_i64]
    omega
  have c16 : ¬ (16 : Int) = 0 := by omega
  have HS : Hid (s = ((a.length : Int) - 24).tdiv 16) := hs
  have H2 : Hid (c ≤ 9223372036854775807) := h2
  clear hs h2 hb
  by_cases c1 : s < 1
  · have e0 : slotsOf a = 0 := slots_none a fun t h1 h8 h => by
      have := HS.out
      rw [Int.tdiv_eq_ediv_of_nonneg (by omega)] at this
      omega
    rw [e0]
    go_enter Try.func52, Try.ntmps52
    go_wp2
    go_ret
    exact ⟨rfl, rfl⟩
  · by_cases c2 : (a.length : Int) = bytesN s
    · have e0 : (slotsOf a : Int) = s := by
        unfold bytesN at c2
        split at c2
        · rw [slots_eq a s.toNat (by omega) (by omega) (by omega)]
          omega
        · have := slots_tdiv _ _ HS.out c1
          omega
      rw [e0]
      have hb := pageBytes_any s w
      rw [← c2] at hb
      clear c2 e0
      go_enter Try.func52, Try.ntmps52
      go_wp2_with fail
      refine hb.mono ?_
      rintro e w' ⟨rfl, rfl⟩
      go_wp2
      go_ret
      exact ⟨rfl, rfl⟩
    · have e0 : slotsOf a = 0 := slots_none a fun t h1 h8 h => by
        have := slots_tdiv _ _ HS.out c1
        apply c2
        unfold bytesN
        rw [if_pos (by omega)]
        omega
      rw [e0]
      have hb := pageBytes_any s w
      generalize bytesN s = z at *
      clear e0
      go_enter Try.func52, Try.ntmps52
      go_wp2_with fail
      refine hb.mono ?_
      rintro e w' ⟨rfl, rfl⟩
      go_wp2
      go_ret
      exact ⟨rfl, rfl⟩
end Go.Proofs.Ytoildbbfnhjfoaa
