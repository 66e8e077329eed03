/-
  OWN WORK. page.lookForSlot, slotAt, slotBytes, entry.
-/
import Derived.Test.YtoildbbfnhjfoaaPage
import Derived.Test.YtoildbbfnhjfoaaMark
namespace Go.Proofs.Ytoildbbfnhjfoaa
open Go.RowKit
set_option linter.unusedVariables false

theorem lookForSlot_any (u : Value) (a : List UInt8) (i : Int) (w : World) (hu : Bs w u a) :
    Calls Try.prog 39 #[u, .int .i64 i] w fun e w' => e = .returned (.int .i64 (placeE a i)) ∧ w' = w := by
  obtain ⟨z, hz⟩ : ∃ z, z = placeE a i := ⟨_, rfl⟩
  have h8 := slots_le a
  obtain ⟨n, hn⟩ : ∃ n, n = slotsOf a := ⟨_, rfl⟩
  have hs := slotsOf_any u a w hu
  rw [← hz]
  unfold placeE at hz
  rw [← hn] at hs h8 hz
  have HZ : Hid (z = if n = 0 then 40 else if i < 0 ∨ (n : Int) ≤ i then 41 else 0) := hz
  clear hz hn
  go_enter Try.func39, Try.ntmps39
  go_wp2_with fail
  refine hs.mono ?_
  rintro e w' ⟨rfl, rfl⟩
  by_cases h0 : n = 0
  · subst h0
    go_wp2
    go_ret
    exact ⟨by rw [HZ.out]; rfl, rfl⟩
  · have h0' : ¬ (n : Int) = 0 := by omega
    by_cases h1 : i < 0
    · go_wp2
      go_ret
      exact ⟨by rw [HZ.out, if_neg h0, if_pos (by omega)]; rfl, rfl⟩
    · by_cases h2 : (n : Int) ≤ i
      · go_wp2
        go_ret
        exact ⟨by rw [HZ.out, if_neg h0, if_pos (by omega)]; rfl, rfl⟩
      · go_wp2
        go_ret
        exact ⟨by rw [HZ.out, if_neg h0, if_neg (by omega)]; rfl, rfl⟩
theorem slotAt_any (j : Nat) (w : World) (hj : j ≤ 8) :
    Calls Try.prog 44 #[.int .i64 (j : Int)] w fun e w' => e = .returned (.int .i64 (16 + 16 * (j : Int))) ∧ w' = w := by
  have w1 : IntKind.i64.wrap ((j : Int) * 16) = (j : Int) * 16 := by rw [IntKind.wrap_i64]; omega
  have w2 : IntKind.i64.wrap (16 + (j : Int) * 16) = 16 + 16 * (j : Int) := by rw [IntKind.wrap_i64]; omega
  go_enter Try.func44, Try.ntmps44
  go_wp2
  go_ret
  exact ⟨rfl, rfl⟩
/-- the bytes of a slot -/
def slotRow (a : List UInt8) (j : Nat) : List UInt8 := (a.drop (16 + 16 * j)).take 16
theorem slotRow_length {a : List UInt8} {j : Nat} (h : j < slotsOf a) : (slotRow a j).length = 16 := by
  have := slots_len a (by omega)
  simp [slotRow]; omega
theorem slotBytes_any (u : Value) (a : List UInt8) (j : Nat) (w : World) (hu : Bs w u a) (hj : j < slotsOf a) :
    Calls Try.prog 41 #[u, .int .i64 (j : Int)] w fun e w' => ∃ v, e = .returned v ∧ Bs w v (slotRow a j) ∧ w' = w := by
  have hsl := slots_le a
  have hlen := slots_len a (by omega)
  obtain ⟨p, c, rfl, -⟩ := id hu
  obtain ⟨p2, hcut, hb⟩ := hu.mid (P := Try.prog) 33 5 Try.underlying33 (by kernel_rfl) (16 + 16 * j) 16 (by omega)
  rw [show (((16 + 16 * j : Nat) : Int) + ((16 : Nat) : Int)) = 16 + 16 * ((j : Int) + 1) by omega, show ((16 + 16 * j : Nat) : Int) = 16 + 16 * (j : Int) by omega] at hcut
  have w1 : IntKind.i64.wrap ((j : Int) + 1) = (j : Int) + 1 := by rw [IntKind.wrap_i64]; omega
  have a1 := slotAt_any j w (by omega)
  have a2 := slotAt_any (j + 1) w (by omega)
  have HL : Hid (a.length = 24 + 16 * slotsOf a) := hlen
  clear hlen
  go_enter Try.func41, Try.ntmps41
  go_wp2_with fail
  refine a1.mono ?_
  rintro e w' ⟨rfl, rfl⟩
  go_wp2_with fail
  refine a2.mono ?_
  rintro e w' ⟨rfl, rfl⟩
  go_wp2
  go_ret
  exact ⟨_, rfl, hb, rfl⟩
/-- what page.entry tells of a slot's bytes -/
def rowU (r : List UInt8) : Bool := decide (r[0]? = some 1)
def rowK (r : List UInt8) : Nat := if rowU r = true then low ((r.drop 4).take 4) else 0
def rowV (r : List UInt8) : Nat := if rowU r = true then low ((r.drop 8).take 8) else 0
theorem rowU_at {a : List UInt8} {j : Nat} (h : j < slotsOf a) : rowU (slotRow a j) = usedAt a j := by
  simp [rowU, slotRow, usedAt]
theorem rowK_at {a : List UInt8} {j : Nat} (h : j < slotsOf a) : rowK (slotRow a j) = slotK a (j : Int) := by
  unfold rowK slotK
  rw [rowU_at h, slotU_at h]
  simp [slotRow, keyAt, List.drop_take, List.take_take, show 16 + 16 * j + 4 = 20 + 16 * j by omega]
theorem rowV_at {a : List UInt8} {j : Nat} (h : j < slotsOf a) : rowV (slotRow a j) = slotV a (j : Int) := by
  unfold rowV slotV
  rw [rowU_at h, slotU_at h]
  simp [slotRow, valAt, List.drop_take, List.take_take, show 16 + 16 * j + 8 = 24 + 16 * j by omega]
set_option maxHeartbeats 800000 in
theorem entry_any (u : Value) (r : List UInt8) (w : World) (hu : Bs w u r) (hl : r.length = 16) :
    Calls Try.prog 40 #[u] w fun e w' => e = .returned (.tuple #[.agg #[.int .i64 (rowK r : Int), .int .u64 (rowV r : Int)], .bool (rowU r)]) ∧ Kept [] w w' := by
  have hu1 := hu.kept ((Kept.refl [] w).alloc (.cells #[.int .i64 0, .int .u64 0] 61))
  obtain ⟨b, o, c, rfl, hc1, hc2, hb, hcell⟩ := id (hu1.pos (by omega))
  obtain ⟨x, hx⟩ : ∃ x, r[0]? = some x := ⟨_, List.getElem?_eq_getElem (by omega)⟩
  have hck := hcell 0 x hx
  rw [Nat.add_zero] at hck
  have eu : rowU r = decide (x = 1) := by unfold rowU; rw [hx]; simp
  rw [hl] at hu1 ⊢
  by_cases hused : rowU r = true
  · have e1 : ((x.toNat : Nat) : Int) = 1 := by
      rw [hused] at eu
      have : x = 1 := by simpa using eu.symm
      rw [this]; rfl
    rw [e1] at hck
    obtain ⟨p1, -, hcut1, -, hb1⟩ := hu1.cuts (P := Try.prog) 33 5 Try.underlying33 (by kernel_rfl) 4 (by omega)
    obtain ⟨p2, -, hcut2, -, hb2⟩ := hu1.cuts (P := Try.prog) 33 5 Try.underlying33 (by kernel_rfl) 8 (by omega)
    rw [show ((4 : Nat) : Int) = 4 from rfl] at hcut1
    rw [show ((8 : Nat) : Int) = 8 from rfl] at hcut2
    have hg1 := get32_any _ _ _ hb1 (by simp; omega)
    have hg2 := get64_any _ _ _ hb2 (by simp; omega)
    have hlo := low_take_lt (r.drop 4) 4 (by simp; omega)
    have ek : IntKind.i64.wrap (low ((r.drop 4).take 4) : Int) = (low ((r.drop 4).take 4) : Int) := by rw [IntKind.wrap_i64]; omega
    have eK : rowK r = low ((r.drop 4).take 4) := by unfold rowK; rw [if_pos hused]
    have eV : rowV r = low ((r.drop 8).take 8) := by unfold rowV; rw [if_pos hused]
    rw [hused, eK, eV]
    generalize low ((r.drop 4).take 4) = K at *
    generalize low ((r.drop 8).take 8) = V at *
    clear eu e1 hused hcell hlo hx eK eV hl
    go_enter Try.func40, Try.ntmps40
    go_wp2_with fail
    refine hg1.mono ?_
    rintro e w' ⟨rfl, rfl⟩
    go_wp2_with fail
    refine hg2.mono ?_
    rintro e w' ⟨rfl, rfl⟩
    go_wp2
    go_returns
    exact ⟨rfl, (Kept.refl [] w).alloc _⟩
  · have hused' : rowU r = false := by simpa using hused
    have e1 : ¬ ((x.toNat : Nat) : Int) = 1 := fun h => by
      rw [hused'] at eu
      have h1 : ¬ x = 1 := by simpa using eu.symm
      exact h1 (UInt8.toNat_inj.1 (by rw [show (1 : UInt8).toNat = 1 from rfl]; omega))
    have eK : rowK r = 0 := by unfold rowK; rw [if_neg hused]
    have eV : rowV r = 0 := by unfold rowV; rw [if_neg hused]
    rw [hused', eK, eV]
    clear eu hused hused' hcell hx eK eV hl
    go_enter Try.func40, Try.ntmps40
    go_wp2
    go_returns
    exact ⟨rfl, (Kept.refl [] w).alloc _⟩
end Go.Proofs.Ytoildbbfnhjfoaa
