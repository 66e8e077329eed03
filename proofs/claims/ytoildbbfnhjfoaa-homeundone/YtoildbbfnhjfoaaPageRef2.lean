/-
  OWN WORK. The document's page: Slot, Free, Fill.
-/
import Derived.Test.YtoildbbfnhjfoaaRows
import Derived.Deep.QuietTactic
import Derived.BigQuiet
import Derived.Handy
import Derived.Test.YtoildbbfnhjfoaaPageRef
namespace Go.Proofs.Ytoildbbfnhjfoaa
open Go.RowKit
set_option linter.unusedVariables false

set_option maxHeartbeats 800000 in
theorem refFree_any (u : Value) (a : List UInt8) (i : Int) (w : World) (hu : Bs w u a) :
    Calls Try.prog 38 #[u, .int .i64 i] w fun e w' => ∃ v, e = .returned (.tuple #[v, .int .i64 (placeE a i)]) ∧ w'.ownsRow w.heap.size 5 1 v (freeL a i).length (u8s (freeL a i)) ∧ Kept [] w w' := by
  have hp := refPlace_any u a i w hu
  obtain ⟨z, hz⟩ : ∃ z, z = placeE a i := ⟨_, rfl⟩
  rw [← hz] at hp ⊢
  by_cases h0 : z = 0
  · subst h0
    obtain ⟨j, rfl, hj, h8⟩ := placeE_ok hz.symm
    have hsl := slots_le a
    have hlen := slots_len a h8
    have eL : freeL a (j : Int) = over a (16 + 16 * j) (zeros 16) := by unfold freeL; rw [if_pos hz.symm]; rfl
    have eN : (over a (16 + 16 * j) (zeros 16)).length = a.length := over_length _ _ _ (by rw [zeros_length]; omega)
    rw [eL, eN]
    have hmk := fun u => run_make_bs (P := Try.prog) u 33 5 Try.underlying33 (by kernel_rfl) 16 16 (by omega) (by omega)
    rw [show ((16 : Nat) : Int) = 16 from rfl] at hmk
    have hown0 := own_made w 5 w.heap.size 16 16 (Nat.le_refl _) (by omega) (by unfold maxLen; omega)
    have hB : Bs _ _ (zeros 16) := Bs.ofOwn hown0
    have hA := hu.kept ((Kept.refl [] w).alloc (.cells (madeCells #[.int .u8 0] 16) 5))
    have ew : IntKind.i64.wrap (16 * (j : Int)) = 16 * (j : Int) := by rw [IntKind.wrap_i64]; omega
    have ew2 : IntKind.i64.wrap (16 + 16 * (j : Int)) = ((16 + 16 * j : Nat) : Int) := by rw [IntKind.wrap_i64]; omega
    have HL : Hid (a.length = 24 + 16 * slotsOf a) := hlen
    clear hlen hz eL eN
    go_enter Try.func38, Try.ntmps38
    go_wp2_with fail
    refine hp.mono ?_
    rintro e w' ⟨rfl, rfl⟩
    go_wp2_with fail
    refine (refLaid_any _ _ a (zeros 16) (16 + 16 * j) _ hA hB (by rw [zeros_length]; have := HL.out; omega) (by have := HL.out; omega)).mono ?_
    rintro e w2 ⟨v, rfl, hown, k2⟩
    go_wp2
    go_ret2
    exact ⟨_, rfl, own_late hown, ((Kept.refl [] w').alloc _).then k2⟩
  · have eL : freeL a i = [] := by unfold freeL; rw [if_neg (by rw [← hz]; exact h0)]
    rw [eL]
    clear hz eL
    go_enter Try.func38, Try.ntmps38
    go_wp2_with fail
    refine hp.mono ?_
    rintro e w' ⟨rfl, rfl⟩
    go_wp2
    go_ret2
    exact ⟨_, rfl, by simpa [u8s] using World.ownsRow_nil _ _ _ _, Kept.refl [] _⟩
set_option maxHeartbeats 1600000 in
theorem refSlot_any (u : Value) (a : List UInt8) (i : Int) (w : World) (hu : Bs w u a) :
    Calls Try.prog 36 #[u, .int .i64 i] w fun e w' => e = .returned (.tuple #[.agg #[.int .i64 (slotK a i : Int), .int .u64 (slotV a i : Int)], .bool (slotU a i), .int .i64 (placeE a i)]) ∧ Kept [] w w' := by
  obtain ⟨z, hz⟩ : ∃ z, z = placeE a i := ⟨_, rfl⟩
  have hu1 := hu.kept ((Kept.refl [] w).alloc (.cells #[.int .i64 0, .int .u64 0] 61))
  have hp := refPlace_any u a i _ hu1
  rw [← hz] at hp
  by_cases h0 : z = 0
  · subst h0
    obtain ⟨j, rfl, hj, h8⟩ := placeE_ok hz.symm
    have hsl := slots_le a
    have hlen := slots_len a h8
    rw [← hz, slotU_at hj]
    obtain ⟨b, o, c, rfl, hc1, hc2, hb, hcell⟩ := id (hu1.pos (by omega))
    obtain ⟨x, hx⟩ : ∃ x, a[16 + 16 * j]? = some x := ⟨_, List.getElem?_eq_getElem (by omega)⟩
    have hck := hcell (16 + 16 * j) x hx
    have ew : IntKind.i64.wrap (16 * (j : Int)) = 16 * (j : Int) := by rw [IntKind.wrap_i64]; omega
    have ew2 : IntKind.i64.wrap (16 + 16 * (j : Int)) = ((16 + 16 * j : Nat) : Int) := by rw [IntKind.wrap_i64]; omega
    have ew3 : IntKind.i64.wrap (20 + 16 * (j : Int)) = 20 + 16 * (j : Int) := by rw [IntKind.wrap_i64]; omega
    have ew4 : IntKind.i64.wrap (24 + 16 * (j : Int)) = 24 + 16 * (j : Int) := by rw [IntKind.wrap_i64]; omega
    have ci : ((16 + 16 * j : Nat) : Int) < (a.length : Int) := by omega
    have eu : usedAt a j = decide (x = 1) := by unfold usedAt; rw [hx]; simp
    by_cases hused : usedAt a j = true
    · rw [slotK_at hj hused, slotV_at hj hused, hused]
      have e1 : ((x.toNat : Nat) : Int) = 1 := by
        rw [hused] at eu
        have : x = 1 := by simpa using eu.symm
        rw [this]; rfl
      rw [e1] at hck
      obtain ⟨p1, -, hcut1, -, hb1⟩ := hu1.cuts (P := Try.prog) 33 5 Try.underlying33 (by kernel_rfl) (20 + 16 * j) (by omega)
      obtain ⟨p2, -, hcut2, -, hb2⟩ := hu1.cuts (P := Try.prog) 33 5 Try.underlying33 (by kernel_rfl) (24 + 16 * j) (by omega)
      rw [show ((20 + 16 * j : Nat) : Int) = 20 + 16 * (j : Int) by omega] at hcut1
      rw [show ((24 + 16 * j : Nat) : Int) = 24 + 16 * (j : Int) by omega] at hcut2
      have hg1 := refGet_any _ _ 4 _ hb1 (by simp; omega) (by omega) (by omega)
      have hg2 := refGet_any _ _ 8 _ hb2 (by simp; omega) (by omega) (by omega)
      have hkl := keyAt_lt a j
      change low ((a.drop (20 + 16 * j)).take 4) < 4294967296 at hkl
      have ek : IntKind.i64.wrap (low ((a.drop (20 + 16 * j)).take 4) : Int) = (low ((a.drop (20 + 16 * j)).take 4) : Int) := by rw [IntKind.wrap_i64]; omega
      rw [show keyAt a j = low ((a.drop (20 + 16 * j)).take 4) from rfl, show valAt a j = low ((a.drop (24 + 16 * j)).take 8) from rfl]
      generalize low ((a.drop (20 + 16 * j)).take 4) = K at *
      generalize low ((a.drop (24 + 16 * j)).take 8) = V at *
      have HL : Hid (a.length = 24 + 16 * slotsOf a) := hlen
      clear hlen hz eu e1 hused hcell hkl hx
      rw [show ((4 : Nat) : Int) = 4 from rfl] at hg1
      rw [show ((8 : Nat) : Int) = 8 from rfl] at hg2
      go_enter Try.func36, Try.ntmps36
      go_wp2_with fail
      refine hp.mono ?_
      rintro e w' ⟨rfl, rfl⟩
      go_wp2_with fail
      refine hg1.mono ?_
      rintro e w' ⟨rfl, rfl⟩
      go_wp2_with fail
      refine hg2.mono ?_
      rintro e w' ⟨rfl, rfl⟩
      go_wp2
      go_returns
      exact ⟨rfl, (Kept.refl [] w).alloc _⟩
    · have hused' : usedAt a j = false := by simpa using hused
      have eU : slotU a (j : Int) = false := by rw [slotU_at hj, hused']
      have eK : slotK a (j : Int) = 0 := by unfold slotK; rw [eU]; rfl
      have eV : slotV a (j : Int) = 0 := by unfold slotV; rw [eU]; rfl
      rw [hused', eK, eV]
      have e1 : ¬ ((x.toNat : Nat) : Int) = 1 := fun h => by
        rw [hused'] at eu
        have h1 : ¬ x = 1 := by simpa using eu.symm
        exact h1 (UInt8.toNat_inj.1 (by rw [show (1 : UInt8).toNat = 1 from rfl]; omega))
      clear hlen hz eu hused hused' eU eK eV hcell hx
      go_enter Try.func36, Try.ntmps36
      go_wp2_with fail
      refine hp.mono ?_
      rintro e w' ⟨rfl, rfl⟩
      go_wp2
      go_returns
      exact ⟨rfl, (Kept.refl [] w).alloc _⟩
  · have eU : slotU a i = false := by unfold slotU; rw [← hz]; simp [h0]
    have eK : slotK a i = 0 := by unfold slotK; rw [eU]; rfl
    have eV : slotV a i = 0 := by unfold slotV; rw [eU]; rfl
    rw [eU, eK, eV, ← hz]
    clear hz eU eK eV
    go_enter Try.func36, Try.ntmps36
    go_wp2_with fail
    refine hp.mono ?_
    rintro e w' ⟨rfl, rfl⟩
    go_wp2
    go_returns
    exact ⟨rfl, (Kept.refl [] w).alloc _⟩
theorem fillE_ok {a : List UInt8} {i k : Int} (h : fillE a i k = 0) : ∃ (j x : Nat), i = (j : Int) ∧ k = (x : Int) ∧ j < slotsOf a ∧ slotsOf a ≠ 0 ∧ x < 4294967296 ∧ placeE a i = 0 := by
  unfold fillE at h
  split at h
  · rename_i c
    split at h
    · omega
    · obtain ⟨j, rfl, h1, h2⟩ := placeE_ok c
      exact ⟨j, k.toNat, rfl, by omega, h1, h2, by omega, c⟩
  · rename_i c
    exact absurd h c
set_option maxHeartbeats 1600000 in
theorem refFill_any (u : Value) (a : List UInt8) (i k : Int) (v : Nat) (w : World) (hu : Bs w u a) (hv : v < 18446744073709551616) :
    Calls Try.prog 37 #[u, .int .i64 i, .agg #[.int .i64 k, .int .u64 (v : Int)]] w fun e w' => ∃ c, e = .returned (.tuple #[c, .int .i64 (fillE a i k)]) ∧ w'.ownsRow w.heap.size 5 1 c (fillL a i k v).length (u8s (fillL a i k v)) ∧ Kept [] w w' := by
  have hk0 := (Kept.refl [] w).alloc (.cells #[.int .i64 k, .int .u64 (v : Int)] 61)
  have hu1 := hu.kept hk0
  have hp := refPlace_any u a i _ hu1
  by_cases h0 : fillE a i k = 0
  · obtain ⟨j, x, rfl, rfl, hj, h8, hx, hpl⟩ := fillE_ok h0
    have hsl := slots_le a
    have hlen := slots_len a h8
    have eL : fillL a (j : Int) (x : Int) v = over a (16 + 16 * j) (rowOf x v) := by unfold fillL; rw [if_pos h0]; rfl
    have eN : (over a (16 + 16 * j) (rowOf x v)).length = a.length := over_length _ _ _ (by rw [rowOf_length]; omega)
    rw [h0, eL, eN]
    rw [hpl] at hp
    have c1 : ¬ (x : Int) < 0 := by omega
    have c2 : ¬ (4294967295 : Int) < (x : Int) := by omega
    have eu : IntKind.u64.wrap (x : Int) = (x : Int) := by rw [IntKind.wrap_u64]; omega
    have ew : IntKind.i64.wrap (16 * (j : Int)) = 16 * (j : Int) := by rw [IntKind.wrap_i64]; omega
    have ew2 : IntKind.i64.wrap (16 + 16 * (j : Int)) = 16 + 16 * (j : Int) := by rw [IntKind.wrap_i64]; omega
    have HL : Hid (a.length = 24 + 16 * slotsOf a) := hlen
    have HX : Hid (x < 4294967296) := hx
    have HV : Hid (v < 18446744073709551616) := hv
    clear hlen h0 eL eN hpl hx hv
    go_enter Try.func37, Try.ntmps37
    go_wp2_with fail
    refine hp.mono ?_
    rintro e w' ⟨rfl, rfl⟩
    go_wp2_with fail
    have hB := Bs.litAt (w.alloc (.cells #[.int .i64 (x : Int), .int .u64 (v : Int)] 61)) 5 [1, 0, 0, 0] #[.int .u8 1, .int .u8 0, .int .u8 0, .int .u8 0] rfl (by simp [maxLen]) (w.heap.size + 1) (by simp)
    refine (refPut_any _ [1, 0, 0, 0] x 4 _ hB (by simp) (by omega) (by have := HX.out; omega)).mono ?_
    rintro e w2 ⟨r1, rfl, o1, k1⟩
    have k2 : Kept [] w w2 := (hk0.alloc _).then k1
    have hc := k1.cell (a := ⟨w.heap.size, 1, none⟩) (v := .int .u64 (v : Int)) (by simp [go_sem]) (by simp)
    go_wp2_with fail
    refine (refPut_any _ ([1, 0, 0, 0] ++ lay 4 x) v 8 _ (Bs.ofOwn o1) (by simp [lay_length]) (by omega) HV.out).mono ?_
    rintro e w3 ⟨r2, rfl, o2, k3⟩
    have hr : Bs w3 r2 (rowOf x v) := Bs.ofOwn o2
    have k4 : Kept [] w w3 := k2.then k3
    go_wp2_with fail
    refine (refLaid_any _ _ a (rowOf x v) (16 + 16 * j) _ (hu.kept k4) hr (by rw [rowOf_length]; have := HL.out; omega) (by have := HL.out; omega)).mono ?_
    rintro e w4 ⟨c, rfl, o4, k5⟩
    go_wp2
    go_ret2
    exact ⟨_, rfl, own_mono o4 k4.size, k4.then k5⟩
  · have eL : fillL a i k v = [] := by unfold fillL; rw [if_neg h0]
    rw [eL]
    by_cases hpl : placeE a i = 0
    · have eE : fillE a i k = 50 := by
        unfold fillE at h0 ⊢
        rw [if_pos hpl] at h0 ⊢
        split at h0
        · rename_i c; rw [if_pos c]
        · exact absurd rfl h0
      have hk : k < 0 ∨ 4294967295 < k := by
        unfold fillE at h0
        rw [if_pos hpl] at h0
        split at h0
        · assumption
        · exact absurd rfl h0
      rw [eE]
      rw [hpl] at hp
      clear hpl eE eL h0
      by_cases c1 : k < 0
      · go_enter Try.func37, Try.ntmps37
        go_wp2_with fail
        refine hp.mono ?_
        rintro e w' ⟨rfl, rfl⟩
        go_wp2
        go_ret2
        exact ⟨_, rfl, by simpa [u8s] using World.ownsRow_nil _ _ _ _, hk0⟩
      · have c2 : 4294967295 < k := by omega
        clear hk
        go_enter Try.func37, Try.ntmps37
        go_wp2_with fail
        refine hp.mono ?_
        rintro e w' ⟨rfl, rfl⟩
        go_wp2
        go_ret2
        exact ⟨_, rfl, by simpa [u8s] using World.ownsRow_nil _ _ _ _, hk0⟩
    · have eE : fillE a i k = placeE a i := by unfold fillE; rw [if_neg hpl]
      rw [eE]
      generalize placeE a i = z at *
      clear eE eL h0
      go_enter Try.func37, Try.ntmps37
      go_wp2_with fail
      refine hp.mono ?_
      rintro e w' ⟨rfl, rfl⟩
      go_wp2
      go_ret2
      exact ⟨_, rfl, by simpa [u8s] using World.ownsRow_nil _ _ _ _, hk0⟩
end Go.Proofs.Ytoildbbfnhjfoaa
