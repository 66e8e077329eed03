/-
  OWN WORK. The reader's calls, by whether they are refused.
-/
import Derived.Test.YtppdidimhchlgaaRows
import Derived.Test.YtppdidimhchlgaaReader
namespace Go.Proofs.Ytppdidimhchlgaa
open Go.RowKit
set_option linter.unusedVariables false

def okN (n : Int) (R : List UInt8) : Prop := (n = 1 ∨ n = 2 ∨ n = 4 ∨ n = 8) ∧ n ≤ (R.length : Int)
def okI (R : List UInt8) : Prop := 8 ≤ R.length ∧ low (R.take 8) ≤ 1152921504606846976
def okR (n : Int) (R : List UInt8) : Prop := 0 ≤ n ∧ n ≤ (R.length : Int)

/-- another reader is as it was -/
theorem Rd.other {t : TypeId} {w w' : World} {g g' : Nat} {R R' : List UInt8} (h : Rd t w g' R') (hr : Rd t w g R) (k : Kept [g] w w') (hne : g ≠ g') : Rd t w' g' R' :=
  h.kept k (by intro x hx; simp at hx; subst hx; exact ⟨hne, .inl hr.box⟩)

theorem number_yes (g : Nat) (R : List UInt8) (n : Int) (w : World) (hr : Rd 62 w g R) (h : okN n R) :
    Calls Try.prog 19 #[.pointer (some ⟨g, 0, none⟩), .int .i64 n] w fun e w' => e = .returned (.tuple #[.int .u64 (low (R.take n.toNat) : Int), .int .i64 0]) ∧ Rd 62 w' g (R.drop n.toNat) ∧ Kept [g] w w' := by
  obtain ⟨hn, hl⟩ := h
  obtain ⟨m, rfl⟩ : ∃ m : Nat, n = (m : Int) := ⟨n.toNat, by omega⟩
  rw [Int.toNat_natCast]
  exact number_any g R m w hr (by omega) (by omega)
theorem number_no (g : Nat) (R : List UInt8) (n : Int) (w : World) (hr : Rd 62 w g R) (h : ¬ okN n R) :
    Calls Try.prog 19 #[.pointer (some ⟨g, 0, none⟩), .int .i64 n] w fun e w' => ∃ v : Int, e = .returned (.tuple #[.int .u64 0, .int .i64 v]) ∧ (v == 0) = false ∧ (v != 0) = true ∧ w' = w := by
  by_cases hn : n = 1 ∨ n = 2 ∨ n = 4 ∨ n = 8
  · obtain ⟨m, rfl⟩ : ∃ m : Nat, n = (m : Int) := ⟨n.toNat, by omega⟩
    refine (number_short g R m w hr (by omega) ?_).mono ?_
    · have h2 : ¬ ((m : Int) ≤ (R.length : Int)) := fun hc => h ⟨hn, hc⟩
      omega
    · rintro e w' ⟨rfl, rfl⟩
      exact ⟨10, rfl, rfl, rfl, rfl⟩
  · refine (number_bad g n w (by omega) (by omega) (by omega) (by omega)).mono ?_
    rintro e w' ⟨rfl, rfl⟩
    exact ⟨30, rfl, rfl, rfl, rfl⟩
theorem int_yes (g : Nat) (R : List UInt8) (w : World) (hr : Rd 62 w g R) (h : okI R) :
    Calls Try.prog 26 #[.pointer (some ⟨g, 0, none⟩)] w fun e w' => e = .returned (.tuple #[.int .i64 (low (R.take 8) : Int), .int .i64 0]) ∧ Rd 62 w' g (R.drop 8) ∧ Kept [g] w w' :=
  int_any g R w hr h.1 h.2
theorem int_no (g : Nat) (R : List UInt8) (w : World) (hr : Rd 62 w g R) (h : ¬ okI R) :
    Calls Try.prog 26 #[.pointer (some ⟨g, 0, none⟩)] w fun e w' => ∃ v : Int, e = .returned (.tuple #[.int .i64 0, .int .i64 v]) ∧ (v == 0) = false ∧ (v != 0) = true ∧ w' = w := by
  by_cases h8 : 8 ≤ R.length
  · have hb : 1152921504606846976 < low (R.take 8) := by
      rcases Nat.lt_or_ge 1152921504606846976 (low (R.take 8)) with hb | hb
      · exact hb
      · exact absurd ⟨h8, hb⟩ h
    refine (int_big g R w hr h8 hb).mono ?_
    rintro e w' ⟨rfl, rfl⟩
    exact ⟨30, rfl, rfl, rfl, rfl⟩
  · refine (int_short g R w hr (by omega)).mono ?_
    rintro e w' ⟨rfl, rfl⟩
    exact ⟨10, rfl, rfl, rfl, rfl⟩
theorem row_yes (g : Nat) (R : List UInt8) (n : Nat) (w : World) (hr : Rd 62 w g R) (h : okR n R) (hl : R.length ≤ 140737488355328) :
    Calls Try.prog 18 #[.pointer (some ⟨g, 0, none⟩), .int .i64 (n : Int)] w fun e w' => ∃ p c, e = .returned (.tuple #[.slice p n c, .int .i64 0]) ∧ Bs w' (.slice p n c) (R.take n) ∧ Rd 62 w' g (R.drop n) ∧ Kept [g] w w' := by
  obtain ⟨hn, hl'⟩ := h
  refine (row_any g R n w hr (by omega) hl).mono ?_
  rintro e w' ⟨v', rfl, ho, hr', hk⟩
  have hb := Bs.ofOwn ho
  rcases ho.2 with ⟨rfl, h0⟩ | ⟨gg, cap, cur, rfl, _⟩
  · subst h0; exact ⟨_, _, rfl, hb, hr', hk⟩
  · exact ⟨_, _, rfl, hb, hr', hk⟩
theorem row_no (g : Nat) (R : List UInt8) (n : Int) (w : World) (hr : Rd 62 w g R) (h : ¬ okR n R) :
    Calls Try.prog 18 #[.pointer (some ⟨g, 0, none⟩), .int .i64 n] w fun e w' => ∃ v : Int, e = .returned (.tuple #[.slice none 0 0, .int .i64 v]) ∧ (v == 0) = false ∧ (v != 0) = true ∧ w' = w := by
  by_cases hn : n < 0
  · refine (row_neg g n w hn).mono ?_
    rintro e w' ⟨rfl, rfl⟩
    exact ⟨30, rfl, rfl, rfl, rfl⟩
  · have h2 : ¬ (n ≤ (R.length : Int)) := fun hc => h ⟨by omega, hc⟩
    refine (row_short g R n w hr (by omega)).mono ?_
    rintro e w' ⟨rfl, rfl⟩
    exact ⟨10, rfl, rfl, rfl, rfl⟩
/-- Row(1), whatever it answers -/
theorem row1_tot (g : Nat) (R : List UInt8) (w : World) (hr : Rd 62 w g R) (hl : R.length ≤ 140737488355328) :
    Calls Try.prog 18 #[.pointer (some ⟨g, 0, none⟩), .int .i64 1] w fun e w' => ∃ t1 t2, e = .returned (.tuple #[t1, t2]) ∧ Rd 62 w' g (R.drop 1) ∧ Kept [g] w w' := by
  by_cases h : 1 ≤ R.length
  · refine (row_any g R 1 w hr h hl).mono ?_
    rintro e w' ⟨v', rfl, _, hr', hk⟩
    exact ⟨_, _, rfl, hr', hk⟩
  · refine (row_short g R 1 w hr (by omega)).mono ?_
    rintro e w' ⟨rfl, rfl⟩
    obtain rfl : R = [] := List.eq_nil_of_length_eq_zero (by omega)
    exact ⟨_, _, rfl, hr, Kept.refl _ _⟩
end Go.Proofs.Ytppdidimhchlgaa
