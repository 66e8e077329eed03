/-
  OWN WORK. The document's home: Put and Of.
-/
import Derived.Test.YtoildbbfnhjfoaaRows
import Derived.Deep.QuietTactic
import Derived.BigQuiet
import Derived.Handy
import Derived.Test.YtoildbbfnhjfoaaHomeRef
namespace Go.Proofs.Ytoildbbfnhjfoaa
open Go.RowKit
set_option linter.unusedVariables false

theorem put_fill {a : List UInt8} {key : Int} {i : Nat} (v : Nat) (h : putAt a key = some i) (h1 : ¬ (key < 0 ∨ 4294967295 < key)) : putE a key = 0 ∧ fillE a (i : Int) key = 0 ∧ putL a key v = fillL a (i : Int) key v := by
  have hlt := putAt_lt h
  have e1 : putE a key = 0 := by
    unfold putE
    rw [if_neg (by omega), if_neg h1, h]
  have e2 : fillE a (i : Int) key = 0 := by
    unfold fillE
    rw [if_pos (placeE_at hlt), if_neg h1]
  refine ⟨e1, e2, ?_⟩
  unfold putL fillL
  rw [if_pos e1, if_pos e2, h]
  rfl
theorem put_full {a : List UInt8} {key : Int} (h : putAt a key = none) (h0 : slotsOf a ≠ 0) (h1 : ¬ (key < 0 ∨ 4294967295 < key)) (v : Nat) : putE a key = 42 ∧ putL a key v = [] := by
  have e1 : putE a key = 42 := by
    unfold putE
    rw [if_neg h0, if_neg h1, h]
  refine ⟨e1, ?_⟩
  unfold putL
  rw [if_neg (by rw [e1]; omega)]
set_option maxHeartbeats 3200000 in
theorem refHomePut_any (u : Value) (a : List UInt8) (key : Int) (v : Nat) (w : World) (hu : Bs w u a) (hv : v < 18446744073709551616) :
    Calls Try.prog 25 #[u, .int .i64 key, .int .u64 (v : Int)] w fun e w' => ∃ c, e = .returned (.tuple #[c, .int .i64 (putE a key)]) ∧ w'.ownsRow w.heap.size 5 1 c (putL a key v).length (u8s (putL a key v)) ∧ Kept [] w w' := by
  have hs := refSlots_any u a w hu
  have HV : Hid (v < 18446744073709551616) := hv
  clear hv
  by_cases h0 : slotsOf a = 0
  · have e1 : putE a key = 40 := by unfold putE; rw [if_pos h0]
    have e2 : putL a key v = [] := by unfold putL; rw [if_neg (by rw [e1]; omega)]
    rw [e1, e2]
    rw [h0, show ((0 : Nat) : Int) = 0 from rfl] at hs
    clear e1 e2 h0
    go_enter Try.func25, Try.ntmps25
    go_wp2_with fail
    refine hs.mono ?_
    rintro e w' ⟨rfl, rfl⟩
    go_wp2
    go_ret2
    exact ⟨_, rfl, by simpa [u8s] using World.ownsRow_nil _ _ _ _, Kept.refl [] _⟩
  · have h8 := slots_le a
    by_cases hbad : key < 0 ∨ 4294967295 < key
    · have e1 : putE a key = 50 := by unfold putE; rw [if_neg h0, if_pos hbad]
      have e2 : putL a key v = [] := by unfold putL; rw [if_neg (by rw [e1]; omega)]
      rw [e1, e2]
      clear e1 e2
      generalize slotsOf a = n at *
      have hn0 : ¬ (n : Int) = 0 := by omega
      by_cases c1 : key < 0
      · go_enter Try.func25, Try.ntmps25
        go_wp2_with fail
        refine hs.mono ?_
        rintro e w' ⟨rfl, rfl⟩
        go_wp2
        go_ret2
        exact ⟨_, rfl, by simpa [u8s] using World.ownsRow_nil _ _ _ _, Kept.refl [] _⟩
      · have c2 : 4294967295 < key := by omega
        clear hbad
        go_enter Try.func25, Try.ntmps25
        go_wp2_with fail
        refine hs.mono ?_
        rintro e w' ⟨rfl, rfl⟩
        go_wp2
        go_ret2
        exact ⟨_, rfl, by simpa [u8s] using World.ownsRow_nil _ _ _ _, Kept.refl [] _⟩
    · have c1 : ¬ key < 0 := by omega
      have c2 : ¬ (4294967295 : Int) < key := by omega
      have HBAD : Hid (¬ (key < 0 ∨ 4294967295 < key)) := hbad
      have HS0 : Hid (slotsOf a ≠ 0) := h0
      have hfi := refFind_any u a key w hu
      cases hc : findIn a key with
      | some i =>
        obtain ⟨h1, h2, -⟩ := findIn_some hc
        have e1 : findI a key = i := by unfold findI; rw [hc]; rfl
        have e2 : findB a key = true := by unfold findB; rw [hc]; rfl
        obtain ⟨e3, e4, e5⟩ := put_fill v (show putAt a key = some i by unfold putAt; rw [hc]) hbad
        rw [e1, e2] at hfi
        rw [e3, e5]
        have hil : i < 8 := by omega
        have HI : Hid (i < slotsOf a) := h1
        have E4 : Hid (fillE a (i : Int) key = 0) := e4
        clear e1 e2 e3 e4 e5 hc h1 h2 hbad
        generalize hn : slotsOf a = n at hs h0 h8
        clear hn
        have hn0 : ¬ (n : Int) = 0 := by omega
        have ewn : IntKind.i64.wrap ((n : Int) - 1) = (n : Int) - 1 := by rw [IntKind.wrap_i64]; omega
        go_enter Try.func25, Try.ntmps25
        go_wp2_with fail
        refine hs.mono ?_
        rintro e w' ⟨rfl, rfl⟩
        go_wp2_with fail
        refine hfi.mono ?_
        rintro e w2 ⟨rfl, k2⟩
        go_wp2
        refine wp_loop_rounds 1 ?_
        rw [rounds_succ]
        go_wp2_with fail
        refine (refSlot_any u a (i : Int) w2 (hu.kept k2)).mono ?_
        rintro e w3 ⟨rfl, k3⟩
        have k4 := (k2.then k3).alloc (.cells #[.int .i64 (slotK a (i : Int) : Int), .int .u64 (slotV a (i : Int) : Int)] 61)
        go_wp2_with fail
        refine (refFill_any u a (i : Int) key v _ (hu.kept k4) HV.out).mono ?_
        rintro e w5 ⟨c, rfl, o5, k5⟩
        rw [E4.out]
        go_wp2
        go_ret2
        exact ⟨_, rfl, own_mono o5 k4.size, k4.then k5⟩
      | none =>
        have e1 : findI a key = 0 := by unfold findI; rw [hc]; rfl
        have e2 : findB a key = false := by unfold findB; rw [hc]; rfl
        have HA : Hid (putAt a key = freeIn a) := (show putAt a key = freeIn a by unfold putAt; rw [hc])
        rw [e1, e2, show ((0 : Nat) : Int) = 0 from rfl] at hfi
        clear e1 e2 hc hbad
        obtain ⟨zE, hzE⟩ : ∃ z, z = putE a key := ⟨_, rfl⟩
        obtain ⟨L, hL⟩ : ∃ L, L = putL a key v := ⟨_, rfl⟩
        rw [← hzE, ← hL]
        have HZ : Hid (zE = putE a key) := hzE
        have HL : Hid (L = putL a key v) := hL
        clear hzE hL
        obtain ⟨n, hn⟩ : ∃ n, n = slotsOf a := ⟨_, rfl⟩
        rw [← hn] at hs h0 h8
        have HN : Hid (n = slotsOf a) := hn
        clear hn
        have hn0 : ¬ (n : Int) = 0 := by omega
        have ewn : IntKind.i64.wrap ((n : Int) - 1) = (n : Int) - 1 := by rw [IntKind.wrap_i64]; omega
        go_enter Try.func25, Try.ntmps25
        go_wp2_with fail
        refine hs.mono ?_
        rintro e w' ⟨rfl, rfl⟩
        go_wp2_with fail
        refine hfi.mono ?_
        rintro e w2 ⟨rfl, k2⟩
        go_wp2
        have g0 : decide (key < 0) = false := decide_eq_false (by have := HBAD.out; omega)
        have g1 : decide (4294967295 < key) = false := decide_eq_false (by have := HBAD.out; omega)
        simp only [g0, g1, Bool.or_false]
        clear g0 g1
        go_loopw [9, 11] (fun x i wr => ∃ (k m : Nat), k ≤ n ∧ x = .int .i64 (m : Int) ∧ i = .int .i64 ((k : Int) - 1) ∧ Hid (m = (freeFrom a k (n - k)).getD 0) ∧ Kept [] w' wr) (fun _ i _ => (intOf i + 1).toNat)
        case atStart => exact ⟨n, 0, Nat.le_refl _, rfl, rfl, (show 0 = (freeFrom a n (n - n)).getD 0 by rw [Nat.sub_self]; rfl), k2⟩
        case round =>
          obtain ⟨k, m, hk, rfl, rfl, hm, kw⟩ := hrel
          by_cases hk0 : k = 0
          · subst hk0
            have hm' : m = (freeIn a).getD 0 := by rw [hm.out, HN.out]; rfl
            cases hfr : freeIn a with
            | none =>
              obtain ⟨e1, e2⟩ := put_full (show putAt a key = none by rw [HA.out, hfr]) HS0.out HBAD.out v
              have e3 : m = 0 := by rw [hm', hfr]; rfl
              subst e3
              have hsl := refSlot_any u a ((0 : Nat) : Int) wr (hu.kept kw)
              rw [slotU_at (by have := HS0.out; omega), freeIn_none hfr 0 (by have := HS0.out; omega)] at hsl
              rw [← HZ.out] at e1
              rw [← HL.out] at e2
              subst e1 e2
              clear hfr hm hm'
              go_wp2_with fail
              refine hsl.mono ?_
              rintro e w3 ⟨rfl, k3⟩
              go_wp2
              go_ret2
              exact ⟨_, rfl, by simpa [u8s] using World.ownsRow_nil _ _ _ _, (kw.then k3).alloc _⟩
            | some i =>
              obtain ⟨h1, h2, -⟩ := freeIn_some hfr
              obtain ⟨e3, e4, e5⟩ := put_fill v (show putAt a key = some i by rw [HA.out, hfr]) HBAD.out
              have e6 : m = i := by rw [hm', hfr]; rfl
              subst e6
              have hsl := refSlot_any u a (m : Int) wr (hu.kept kw)
              rw [slotU_at h1, h2] at hsl
              rw [← HZ.out] at e3
              rw [← HL.out] at e5
              subst e3 e5
              have E4 : Hid (fillE a (m : Int) key = 0) := e4
              clear hfr h1 h2 e4 hm hm'
              go_wp2_with fail
              refine hsl.mono ?_
              rintro e w3 ⟨rfl, k3⟩
              have k4 := (kw.then k3).alloc (.cells #[.int .i64 (slotK a (m : Int) : Int), .int .u64 (slotV a (m : Int) : Int)] 61)
              go_wp2_with fail
              refine (refFill_any u a (m : Int) key v _ (hu.kept k4) HV.out).mono ?_
              rintro e w5 ⟨c, rfl, o5, k5⟩
              rw [E4.out]
              go_wp2
              go_ret2
              exact ⟨_, rfl, own_mono o5 k4.size, k4.then k5⟩
          · obtain ⟨j, rfl⟩ : ∃ j, k = j + 1 := ⟨k - 1, by omega⟩
            have ej : ((j + 1 : Nat) : Int) - 1 = (j : Int) := by omega
            rw [ej]
            have ewj : IntKind.i64.wrap ((j : Int) - 1) = (j : Int) - 1 := by rw [IntKind.wrap_i64]; omega
            have cj : (0 : Int) ≤ (j : Int) := by omega
            have hja : j < slotsOf a := by rw [← HN.out]; omega
            have hsl := refSlot_any u a (j : Int) wr (hu.kept kw)
            rw [slotU_at hja] at hsl
            have eF : freeFrom a j (n - j) = if usedAt a j = false then some j else freeFrom a (j + 1) (n - (j + 1)) := by
              rw [show n - j = (n - (j + 1)) + 1 by omega]
              rfl
            by_cases hus : usedAt a j = true
            · rw [hus] at hsl
              have HM : Hid (m = (freeFrom a j (n - j)).getD 0) := (show m = (freeFrom a j (n - j)).getD 0 by rw [eF, hus]; exact hm.out)
              clear eF hus hja ej
              go_wp2_with fail
              refine hsl.mono ?_
              rintro e w3 ⟨rfl, k3⟩
              go_wp2
              go_roundw
              case rel => exact ⟨j, m, by omega, rfl, by go_num, HM, (kw.then k3).alloc _⟩
              case measure => simp [intOf]
            · have hus' : usedAt a j = false := by simpa using hus
              rw [hus'] at hsl
              have HM : Hid (j = (freeFrom a j (n - j)).getD 0) := (show j = (freeFrom a j (n - j)).getD 0 by rw [eF, hus']; rfl)
              clear eF hus hus' hja ej
              go_wp2_with fail
              refine hsl.mono ?_
              rintro e w3 ⟨rfl, k3⟩
              go_wp2
              go_roundw
              case rel => exact ⟨j, j, by omega, rfl, by go_num, HM, (kw.then k3).alloc _⟩
              case measure => simp [intOf]
/-- what Of answers -/
def ofE (key pages keys : Int) : Int := if pages < 1 ∨ 16 < pages then 40 else if keys < 1 ∨ 1048576 < keys ∨ key < 0 ∨ keys ≤ key then 50 else 0
def ofN (key pages keys : Int) : Int := if ofE key pages keys = 0 then key % pages else 0
theorem refOf_any (key pages keys : Int) (w : World) :
    Calls Try.prog 10 #[.int .i64 key, .int .i64 pages, .int .i64 keys] w fun e w' => e = .returned (.tuple #[.int .i64 (ofN key pages keys), .int .i64 (ofE key pages keys)]) ∧ w' = w := by
  by_cases h1 : pages < 1 ∨ 16 < pages
  · have e1 : ofE key pages keys = 40 := by unfold ofE; rw [if_pos h1]
    have e2 : ofN key pages keys = 0 := by unfold ofN; rw [e1]; rfl
    rw [e1, e2]
    clear e1 e2
    by_cases c1 : pages < 1
    · go_enter Try.func10, Try.ntmps10
      go_wp2
      go_ret2
      exact ⟨rfl, rfl⟩
    · have c2 : 16 < pages := by omega
      go_enter Try.func10, Try.ntmps10
      go_wp2
      go_ret2
      exact ⟨rfl, rfl⟩
  · have p1 : ¬ pages < 1 := by omega
    have p2 : ¬ 16 < pages := by omega
    by_cases h2 : keys < 1 ∨ 1048576 < keys ∨ key < 0 ∨ keys ≤ key
    · have e1 : ofE key pages keys = 50 := by unfold ofE; rw [if_neg h1, if_pos h2]
      have e2 : ofN key pages keys = 0 := by unfold ofN; rw [e1]; rfl
      rw [e1, e2]
      clear e1 e2 h1
      by_cases c1 : keys < 1
      · go_enter Try.func10, Try.ntmps10
        go_wp2
        go_ret2
        exact ⟨rfl, rfl⟩
      · by_cases c2 : 1048576 < keys
        · go_enter Try.func10, Try.ntmps10
          go_wp2
          go_ret2
          exact ⟨rfl, rfl⟩
        · by_cases c3 : key < 0
          · go_enter Try.func10, Try.ntmps10
            go_wp2
            go_ret2
            exact ⟨rfl, rfl⟩
          · have c4 : keys ≤ key := by omega
            go_enter Try.func10, Try.ntmps10
            go_wp2
            go_ret2
            exact ⟨rfl, rfl⟩
    · have e1 : ofE key pages keys = 0 := by unfold ofE; rw [if_neg h1, if_neg h2]
      have e2 : ofN key pages keys = key % pages := by unfold ofN; rw [if_pos e1]
      rw [e1, e2]
      have c1 : ¬ keys < 1 := by omega
      have c2 : ¬ 1048576 < keys := by omega
      have c3 : ¬ key < 0 := by omega
      have c4 : ¬ keys ≤ key := by omega
      have c5 : ¬ pages = 0 := by omega
      clear e1 e2 h1 h2
      go_enter Try.func10, Try.ntmps10
      go_wp2
      go_ret2
      exact ⟨rfl, rfl⟩
end Go.Proofs.Ytoildbbfnhjfoaa
