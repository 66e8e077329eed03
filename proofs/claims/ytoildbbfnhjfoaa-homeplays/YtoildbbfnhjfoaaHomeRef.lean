/-
  OWN WORK. The document's home: Find, Value, Put, Delete, Of.
-/
import Derived.Test.YtoildbbfnhjfoaaRows
import Derived.Deep.QuietTactic
import Derived.BigQuiet
import Derived.Handy
import Derived.Test.YtoildbbfnhjfoaaPageRef2
namespace Go.Proofs.Ytoildbbfnhjfoaa
open Go.RowKit
set_option linter.unusedVariables false

set_option maxHeartbeats 1600000 in
theorem refFind_any (u : Value) (a : List UInt8) (key : Int) (w : World) (hu : Bs w u a) :
    Calls Try.prog 23 #[u, .int .i64 key] w fun e w' => e = .returned (.tuple #[.int .i64 (findI a key : Int), .bool (findB a key)]) ∧ Kept [] w w' := by
  obtain ⟨n, hn⟩ : ∃ n, n = slotsOf a := ⟨_, rfl⟩
  have h8 : n ≤ 8 := by rw [hn]; exact slots_le a
  have HN : Hid (n = slotsOf a) := hn
  clear hn
  obtain ⟨fi, hfi⟩ : ∃ fi, fi = findI a key := ⟨_, rfl⟩
  obtain ⟨fb, hfb⟩ : ∃ fb, fb = findB a key := ⟨_, rfl⟩
  rw [← hfi, ← hfb]
  have HI : Hid (fi = findI a key) := hfi
  have HB : Hid (fb = findB a key) := hfb
  clear hfi hfb
  go_enter Try.func23, Try.ntmps23
  go_wp2
  go_loopw [6] (fun i wr => ∃ k : Nat, k ≤ n ∧ i = .int .i64 k ∧ Hid (∀ j, j < k → ¬ (usedAt a j = true ∧ (keyAt a j : Int) = key)) ∧ Kept [] w wr) (fun i _ => n - (intOf i).toNat)
  case atStart => exact ⟨0, Nat.zero_le _, rfl, (show ∀ j, j < 0 → ¬ (usedAt a j = true ∧ (keyAt a j : Int) = key) by intro j hj; omega), Kept.refl [] _⟩
  case round =>
    obtain ⟨k, hk, rfl, hno, hkept⟩ := hrel
    have hs := refSlots_any u a wr (hu.kept hkept)
    rw [← HN.out] at hs
    by_cases hlt : k < n
    · have hka : k < slotsOf a := by rw [← HN.out]; exact hlt
      have hsl := refSlot_any u a (k : Int) wr (hu.kept hkept)
      rw [slotU_at hka] at hsl
      by_cases hus : usedAt a k = true
      · rw [slotK_at hka hus, slotV_at hka hus, hus] at hsl
        by_cases hkey : (keyAt a k : Int) = key
        · rw [hkey] at hsl
          have e1 : fi = k := by rw [HI.out]; unfold findI; rw [findIn_eq_some hka hus hkey hno.out]; rfl
          have e2 : fb = true := by rw [HB.out]; unfold findB; rw [findIn_eq_some hka hus hkey hno.out]; rfl
          subst e1 e2
          clear hka hus hkey
          go_wp2_with fail
          refine hs.mono ?_
          rintro e w' ⟨rfl, rfl⟩
          go_wp2_with fail
          refine hsl.mono ?_
          rintro e w2 ⟨rfl, k2⟩
          go_wp2
          go_ret2
          exact ⟨rfl, (hkept.then k2).alloc _⟩
        · have HK : Hid (∀ j, j < k + 1 → ¬ (usedAt a j = true ∧ (keyAt a j : Int) = key)) := (show ∀ j, j < k + 1 → ¬ (usedAt a j = true ∧ (keyAt a j : Int) = key) by
            intro j hj
            rcases Nat.lt_or_ge j k with c | c
            · exact hno.out j c
            · rw [show j = k by omega]; exact fun h => hkey h.2)
          clear hka hus
          go_wp2_with fail
          refine hs.mono ?_
          rintro e w' ⟨rfl, rfl⟩
          go_wp2_with fail
          refine hsl.mono ?_
          rintro e w2 ⟨rfl, k2⟩
          go_wp2
          go_roundw
          case rel => exact ⟨k + 1, by omega, by go_num, HK, (hkept.then k2).alloc _⟩
          case measure => simp [intOf]; omega
      · have hus' : usedAt a k = false := by simpa using hus
        rw [hus'] at hsl
        have HK : Hid (∀ j, j < k + 1 → ¬ (usedAt a j = true ∧ (keyAt a j : Int) = key)) := (show ∀ j, j < k + 1 → ¬ (usedAt a j = true ∧ (keyAt a j : Int) = key) by
          intro j hj
          rcases Nat.lt_or_ge j k with c | c
          · exact hno.out j c
          · rw [show j = k by omega]; exact fun h => hus h.1)
        clear hka hus hus'
        go_wp2_with fail
        refine hs.mono ?_
        rintro e w' ⟨rfl, rfl⟩
        go_wp2_with fail
        refine hsl.mono ?_
        rintro e w2 ⟨rfl, k2⟩
        go_wp2
        go_roundw
        case rel => exact ⟨k + 1, by omega, by go_num, HK, (hkept.then k2).alloc _⟩
        case measure => simp [intOf]; omega
    · obtain rfl : k = n := by omega
      go_wp2_with fail
      refine hs.mono ?_
      rintro e w' ⟨rfl, rfl⟩
      go_wp2
      go_ret2
      have hf : findIn a key = none := findIn_eq_none fun j hj => hno.out j (by rw [HN.out]; exact hj)
      have e1 : fi = 0 := by rw [HI.out]; unfold findI; rw [hf]; rfl
      have e2 : fb = false := by rw [HB.out]; unfold findB; rw [hf]; rfl
      subst e1 e2
      exact ⟨rfl, hkept⟩
set_option maxHeartbeats 1600000 in
theorem refValue_any (u : Value) (a : List UInt8) (key : Int) (w : World) (hu : Bs w u a) :
    Calls Try.prog 24 #[u, .int .i64 key] w fun e w' => e = .returned (.tuple #[.int .u64 (valI a key : Int), .bool (findB a key)]) ∧ Kept [] w w' := by
  have hf := refFind_any u a key w hu
  cases hc : findIn a key with
  | none =>
    have e1 : findI a key = 0 := by unfold findI; rw [hc]; rfl
    have e2 : findB a key = false := by unfold findB; rw [hc]; rfl
    have e3 : valI a key = 0 := by unfold valI; rw [hc]
    rw [e1, e2] at hf
    rw [e2, e3]
    clear e1 e2 e3 hc
    go_enter Try.func24, Try.ntmps24
    go_wp2_with fail
    refine hf.mono ?_
    rintro e w2 ⟨rfl, k2⟩
    go_wp2
    go_ret2
    exact ⟨rfl, k2⟩
  | some i =>
    obtain ⟨h1, h2, -⟩ := findIn_some hc
    have e1 : findI a key = i := by unfold findI; rw [hc]; rfl
    have e2 : findB a key = true := by unfold findB; rw [hc]; rfl
    have e3 : valI a key = slotV a (i : Int) := by unfold valI; rw [hc, slotV_at h1 h2]
    rw [e1, e2] at hf
    rw [e2, e3]
    clear e1 e2 e3 hc h1 h2
    go_enter Try.func24, Try.ntmps24
    go_wp2_with fail
    refine hf.mono ?_
    rintro e w2 ⟨rfl, k2⟩
    go_wp2_with fail
    refine (refSlot_any u a (i : Int) w2 (hu.kept k2)).mono ?_
    rintro e w3 ⟨rfl, k3⟩
    go_wp2
    go_ret2
    exact ⟨rfl, (k2.then k3).alloc _⟩
set_option maxHeartbeats 1600000 in
theorem refDelete_any (u : Value) (a : List UInt8) (key : Int) (w : World) (hu : Bs w u a) :
    Calls Try.prog 26 #[u, .int .i64 key] w fun e w' => ∃ v, e = .returned (.tuple #[v, .bool (findB a key)]) ∧ w'.ownsRow w.heap.size 5 1 v (delL a key).length (u8s (delL a key)) ∧ Kept [] w w' := by
  have hf := refFind_any u a key w hu
  cases hc : findIn a key with
  | none =>
    have e1 : findI a key = 0 := by unfold findI; rw [hc]; rfl
    have e2 : findB a key = false := by unfold findB; rw [hc]; rfl
    have e3 : delL a key = [] := by unfold delL; rw [hc]
    rw [e1, e2] at hf
    rw [e2, e3]
    clear e1 e2 e3 hc
    go_enter Try.func26, Try.ntmps26
    go_wp2_with fail
    refine hf.mono ?_
    rintro e w2 ⟨rfl, k2⟩
    go_wp2
    go_ret2
    exact ⟨_, rfl, by simpa [u8s] using World.ownsRow_nil _ _ _ _, k2⟩
  | some i =>
    obtain ⟨h1, h2, -⟩ := findIn_some hc
    have e1 : findI a key = i := by unfold findI; rw [hc]; rfl
    have e2 : findB a key = true := by unfold findB; rw [hc]; rfl
    have e3 : delL a key = freeL a (i : Int) := by unfold delL freeL; rw [hc, if_pos (placeE_at h1)]; rfl
    rw [e1, e2] at hf
    rw [e2, e3]
    clear e1 e2 e3 hc h1 h2
    go_enter Try.func26, Try.ntmps26
    go_wp2_with fail
    refine hf.mono ?_
    rintro e w2 ⟨rfl, k2⟩
    go_wp2_with fail
    refine (refFree_any u a (i : Int) w2 (hu.kept k2)).mono ?_
    rintro e w3 ⟨v, rfl, o3, k3⟩
    go_wp2
    go_ret2
    exact ⟨_, rfl, own_mono o3 k2.size, k2.then k3⟩
end Go.Proofs.Ytoildbbfnhjfoaa
