/-
  OWN WORK. HomeUndone.
-/
import Derived.Test.YtoildbbfnhjfoaaRows
import Derived.Deep.RegionHeld3
import Derived.Test.YtoildbbfnhjfoaaHomeLaw
import Derived.Test.YtoildbbfnhjfoaaHomePure
import Derived.Test.YtoildbbfnhjfoaaActs
namespace Go.Proofs.Ytoildbbfnhjfoaa
open Go.RowKit
set_option linter.unusedVariables false

theorem into32 (z : Int) (w : World) : Calls Try.prog 12 #[.int .i64 z, .int .i64 4294967296] w fun e w' => e = .returned (.int .i64 (z % 4294967296)) ∧ w' = w := into_any z 4294967296 w (by omega) (by omega)
/-- a page that was played, and n slots of it -/
structure Pg (w : World) (v : Value) (L : List UInt8) (n : Nat) : Prop where
  b : Bs w v L
  t : Tidy L
  s : slotsOf L = n
theorem Pg.kept {w w' : World} {v : Value} {L : List UInt8} {n : Nat} (h : Pg w v L n) (k : Kept [] w w') : Pg w' v L n := ⟨h.b.kept k, h.t, h.s⟩
set_option maxRecDepth 100000 in
set_option maxHeartbeats 6400000 in
theorem homeUndone_walk (slots key : Int) (sv : Value) (ss : List (Bool × Int × Nat)) (v : Nat) (w : World) (hs : Acs w sv ss) (hv : v < 18446744073709551616) : Calls Try.prog 5 #[.int .i64 slots, sv, .int .i64 key, .int .u64 (v : Int)] w fun e w' => e = .returned (.bool true) ∧ Kept [] w w' := by
  obtain ⟨m, hm⟩ : ∃ m : Nat, (m : Int) = slots % 8 := ⟨(slots % 8).toNat, by have := into_range slots (top := 8) (by omega); omega⟩
  have hm8 : m < 8 := by have := into_range slots (top := 8) (by omega); omega
  have i1 := into_any slots 8 w (by omega) (by omega)
  rw [← hm] at i1
  clear hm
  obtain ⟨n, hn⟩ : ∃ n, n = m + 1 := ⟨_, rfl⟩
  have hmk := fun u => run_make_bs (P := Try.prog) u 33 5 Try.underlying33 (by kernel_rfl) (24 + 16 * n) (24 + 16 * n) (by omega) (by omega)
  have hown0 := own_made w 5 w.heap.size (24 + 16 * n) (24 + 16 * n) (Nat.le_refl _) (by omega) (by unfold maxLen; omega)
  have hP0 : Pg _ _ (zeros (24 + 16 * n)) n := ⟨Bs.ofOwn hown0, Tidy.start n (by omega) (by omega), zeros_slots n (by omega) (by omega)⟩
  have wr1 : IntKind.i64.wrap (1 + (m : Int)) = (n : Int) := by rw [IntKind.wrap_i64]; omega
  have wr2 : IntKind.i64.wrap (16 * (n : Int)) = 16 * (n : Int) := by rw [IntKind.wrap_i64]; omega
  have wr3 : IntKind.i64.wrap (24 + 16 * (n : Int)) = 24 + 16 * (n : Int) := by rw [IntKind.wrap_i64]; omega
  rw [show ((24 + 16 * n : Nat) : Int) = 24 + 16 * (n : Int) by omega] at hmk
  have HN : Hid (1 ≤ n ∧ n ≤ 8) := (show 1 ≤ n ∧ n ≤ 8 by omega)
  have HV : Hid (v < 18446744073709551616) := hv
  clear hm8 hn hv hown0
  obtain ⟨sp, sc, rfl, hs1, hs2, -⟩ := id hs
  have hsl : ss.length ≤ 9223372036854775807 := by unfold maxLen at hs2; omega
  go_enter Try.func5, Try.ntmps5
  go_wp2_with fail
  refine i1.mono ?_
  rintro e w' ⟨rfl, rfl⟩
  go_wp2
  go_loopw [10, 11] (fun bv i wr => ∃ (k : Nat) (L : List UInt8), k ≤ ss.length ∧ i = .int .i64 (k : Int) ∧ Hid (Pg wr bv L n) ∧ Kept [] w' wr) (fun _ i _ => ss.length - (intOf i).toNat)
  case atStart => exact ⟨0, _, Nat.zero_le _, rfl, hP0, (Kept.refl [] w').alloc _⟩
  case round =>
    clear hP0 hmk i1
    obtain ⟨k, L, hk, rfl, hpg, kw⟩ := hrel
    by_cases hlt : k < ss.length
    · obtain ⟨b, o, c, e', -, -, hb, hcell⟩ := (hs.kept kw).pos (by omega)
      simp only [Value.slice.injEq] at e'
      obtain ⟨rfl, -, rfl⟩ := e'
      obtain ⟨s, hsk⟩ : ∃ s, ss[k]? = some s := ⟨_, List.getElem?_eq_getElem hlt⟩
      obtain ⟨hc0, hc1, hc2, hsv⟩ := hcell k s hsk
      have HSV : Hid (s.2.2 < 18446744073709551616) := hsv
      clear hcell hsk hsv
      obtain ⟨s0, s1, s2⟩ := s
      simp only at hc0 hc1 hc2 HSV
      generalize wr = w1 at *
      go_wp2
      go_region_held3 (fun w' => w'.cell? ⟨b, o + k * 3 + 1, none⟩ = some (.int .i64 s1) ∧ w'.cell? ⟨b, o + k * 3 + 2, none⟩ = some (.int .u64 (s2 : Int))) (first | go_keep | exact ⟨hc1, hc2⟩ | exact ⟨k2.cell hc1 (by simp), k2.cell hc2 (by simp)⟩)
        (first
          | (go_at_call 12; refine (into32 _ _).mono ?_; rintro e w2 ⟨rfl, rfl⟩)
          | (go_at_call 13; refine (hput_any _ L _ s2 _ (by exact (hpg.out.b).heap rfl) HSV.out).mono ?_; rintro e w2 ⟨c1, rfl, o2, k2⟩))
      have k2 : Kept [] w1 w2 := ⟨k2.os, k2.tape, k2.output, k2.size, k2.block⟩
      have hd0 := k2.cell hc0 (by simp)
      have hd1 := k2.cell hc1 (by simp)
      have kw2 := kw.then k2
      clear hc0 hc1 hc2 hb
      by_cases hE : putE L (s1 % 4294967296) = 0
      · have pg1 : Pg w2 c1 (putL L (s1 % 4294967296) s2) n := ⟨Bs.ofOwn o2, (hpg.out.t.put hE s2 HSV.out).1, (hpg.out.t.put hE s2 HSV.out).2.1.trans hpg.out.s⟩
        obtain ⟨L1, hL1⟩ : ∃ L1, L1 = putL L (s1 % 4294967296) s2 := ⟨_, rfl⟩
        rw [← hL1] at pg1
        rw [hE]
        clear hE hL1 o2
        have pgA := pg1
        cases s0 with
        | false =>
          go_wp2
          go_roundw
          case rel => exact ⟨k + 1, L1, by omega, by go_num, pgA, kw2⟩
          case measure => simp [intOf]; omega
        | true =>
          go_wp2_with fail
          refine (into32 _ _).mono ?_
          rintro e w3 ⟨rfl, rfl⟩
          go_wp2_with fail
          refine (hdel_any _ L1 _ _ pgA.b).mono ?_
          rintro e w4 ⟨c4, rfl, o4, k4⟩
          by_cases hG : findB L1 (wrap64 (s1 + 1) % 4294967296) = true
          · have pgB : Pg w4 c4 (delL L1 (wrap64 (s1 + 1) % 4294967296)) n := ⟨Bs.ofOwn o4, (pgA.t.del hG).1, (pgA.t.del hG).2.1.trans pgA.s⟩
            rw [hG]
            go_wp2
            go_roundw
            case rel => exact ⟨k + 1, _, by omega, by go_num, pgB, (kw2).then k4⟩
            case measure => simp [intOf]; omega
          · have hG' : findB L1 (wrap64 (s1 + 1) % 4294967296) = false := by simpa using hG
            rw [hG']
            go_wp2
            go_roundw
            case rel => exact ⟨k + 1, _, by omega, by go_num, pgA.kept k4, (kw2).then k4⟩
            case measure => simp [intOf]; omega
      · have pg1 : Pg w2 u10 L n := hpg.out.kept k2
        generalize putE L (s1 % 4294967296) = E at *
        have pgA := pg1
        cases s0 with
        | false =>
          go_wp2
          go_roundw
          case rel => exact ⟨k + 1, L, by omega, by go_num, pgA, kw2⟩
          case measure => simp [intOf]; omega
        | true =>
          go_wp2_with fail
          refine (into32 _ _).mono ?_
          rintro e w3 ⟨rfl, rfl⟩
          go_wp2_with fail
          refine (hdel_any _ L _ _ pgA.b).mono ?_
          rintro e w4 ⟨c4, rfl, o4, k4⟩
          by_cases hG : findB L (wrap64 (s1 + 1) % 4294967296) = true
          · have pgB : Pg w4 c4 (delL L (wrap64 (s1 + 1) % 4294967296)) n := ⟨Bs.ofOwn o4, (pgA.t.del hG).1, (pgA.t.del hG).2.1.trans pgA.s⟩
            rw [hG]
            go_wp2
            go_roundw
            case rel => exact ⟨k + 1, _, by omega, by go_num, pgB, (kw2).then k4⟩
            case measure => simp [intOf]; omega
          · have hG' : findB L (wrap64 (s1 + 1) % 4294967296) = false := by simpa using hG
            rw [hG']
            go_wp2
            go_roundw
            case rel => exact ⟨k + 1, _, by omega, by go_num, pgA.kept k4, (kw2).then k4⟩
            case measure => simp [intOf]; omega
    · obtain rfl : k = ss.length := by omega
      obtain ⟨q, hq⟩ : ∃ q : Nat, (q : Int) = key % 4294967296 := ⟨(key % 4294967296).toNat, by have := into_range key (top := 4294967296) (by omega); omega⟩
      have HQ : Hid (q < 4294967296) := (show q < 4294967296 by have := into_range key (top := 4294967296) (by omega); omega)
      have i2 := into32 key
      rw [← hq] at i2
      clear hq
      have hs0 : slotsOf L ≠ 0 := by have := HN.out; rw [hpg.out.s]; omega
      generalize wr = w1 at *
      go_wp2_with fail
      refine (i2 _).mono ?_
      rintro e w2 ⟨rfl, rfl⟩
      go_wp2_with fail
      refine (value_any _ L _ _ hpg.out.b).mono ?_
      rintro e w3 ⟨rfl, k3⟩
      have pg3 := hpg.out.kept k3
      go_wp2_with fail
      refine (hput_any _ L _ v _ pg3.b HV.out).mono ?_
      rintro e w4 ⟨c4, rfl, o4, k4⟩
      have pg4 := pg3.kept k4
      have B4 : Bs w4 c4 (putL L (q : Int) v) := Bs.ofOwn o4
      have kw4 := (kw.then k3).then k4
      clear o4 kw k3 k4 pg3 hpg
      by_cases hE : putE L (q : Int) = 0
      · by_cases hT : findB L (q : Int) = true
        · obtain ⟨e1, e2⟩ := undone_put pg4.t hE hT v
          have hold : Hid (valI L (q : Int) < 18446744073709551616) := (show valI L (q : Int) < 18446744073709551616 by
            unfold valI
            split
            · exact valAt_lt _ _
            · omega)
          have p5 := fun w5 (hw : Bs w5 c4 (putL L (q : Int) v)) => hput_any c4 (putL L (q : Int) v) (q : Int) (valI L (q : Int)) w5 hw hold.out
          rw [e1, e2] at p5
          rw [hE, hT]
          generalize valI L (q : Int) = old at *
          generalize putL L (q : Int) v = L2 at *
          clear e1 e2 hE hT
          go_wp2_with fail
          refine (known_any _).mono ?_
          rintro e w5 ⟨rfl, k5⟩
          go_wp2_with fail
          refine (p5 _ (B4.kept k5)).mono ?_
          rintro e w6 ⟨c6, rfl, o6, k6⟩
          go_wp2_with fail
          refine (same_eq _ _ L _ (Bs.ofOwn o6) ((pg4.b.kept k5).kept k6)).mono ?_
          rintro e w7 ⟨rfl, rfl⟩
          go_wp2
          go_ret
          exact ⟨rfl, (kw4.then k5).then k6⟩
        · have hT' : findB L (q : Int) = false := by simpa using hT
          obtain ⟨e1, e2⟩ := undone_del pg4.t hE hT' v
          have p5 := fun w5 (hw : Bs w5 c4 (putL L (q : Int) v)) => hdel_any c4 (putL L (q : Int) v) (q : Int) w5 hw
          rw [e1, e2] at p5
          rw [hE, hT']
          generalize valI L (q : Int) = old at *
          generalize putL L (q : Int) v = L2 at *
          clear e1 e2 hE hT hT'
          go_wp2_with fail
          refine (known_any _).mono ?_
          rintro e w5 ⟨rfl, k5⟩
          go_wp2_with fail
          refine (p5 _ (B4.kept k5)).mono ?_
          rintro e w6 ⟨c6, rfl, o6, k6⟩
          go_wp2_with fail
          refine (same_eq _ _ L _ (Bs.ofOwn o6) ((pg4.b.kept k5).kept k6)).mono ?_
          rintro e w7 ⟨rfl, rfl⟩
          go_wp2
          go_ret
          exact ⟨rfl, (kw4.then k5).then k6⟩
      · obtain ⟨e1, -, -⟩ := put_not hs0 rfl HQ.out hE
        rw [e1]
        clear e1 hE
        go_wp2_with fail
        refine (known_any _).mono ?_
        rintro e w5 ⟨rfl, k5⟩
        go_wp2_with fail
        refine (known_any _).mono ?_
        rintro e w6 ⟨rfl, k6⟩
        go_wp2
        go_ret
        exact ⟨rfl, (kw4.then k5).then k6⟩
end Go.Proofs.Ytoildbbfnhjfoaa
