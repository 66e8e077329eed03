import Derived.Deep.RegionHeld3
import Derived.Test.YtocpagpkpibmaaaDoorC6
/-
  OWN WORK (by mkpp2.py). The landed plain (layer 18): a slot's bytes; the length of a change.
-/
namespace Go.Proofs.YtocpagpkpibmaaaDoor
open Go.RowKit Go.Maps
set_option linter.unusedVariables false
set_option linter.unusedSimpArgs false
def iOf : Value → Int
  | .int _ q => q
  | _ => 0
theorem shr_pow (v : Int) : ∀ j : Nat, shr j v = v / 2 ^ (8 * j)
  | 0 => by simp [shr]
  | j + 1 => by
    rw [shr, shr_pow v j, show 8 * (j + 1) = 8 * j + 8 by omega, Int.pow_add, Int.ediv_ediv_of_nonneg (Int.pow_nonneg (by omega))]
    rfl
set_option maxRecDepth 20000 in
set_option maxHeartbeats 25600000 in
theorem qSlotF (key v : Int) (w : World) (hk : 0 ≤ key ∧ key < 4294967296) (hv : 0 ≤ v ∧ v < 18446744073709551616) : Calls Tryd.prog 57 #[.agg #[.int .i64 key, .int .u64 v, .bool true]] w fun e w' => e = .returned (.agg (b8 (slotL key v false)).toArray) ∧ Kept [] w w' := by
  obtain ⟨w0, hw0⟩ : ∃ wx, wx = w.alloc (.cells #[.int .i64 key, .int .u64 v, .bool true] 56) := ⟨_, rfl⟩
  have k0 : Kept [] w w0 := by rw [hw0]; exact (Kept.refl [] w).alloc _
  have B0 : Blk w0 w.heap.size 56 [.int .i64 key, .int .u64 v, .bool true] := by rw [hw0]; exact Blk.new w _ _
  have e0 : w0.heap.size = w.heap.size + 1 := by rw [hw0, World.size_alloc]
  obtain ⟨w1, hw1⟩ : ∃ wx, wx = w0.alloc (.cells #[.int .u8 0, .int .u8 0, .int .u8 0, .int .u8 0, .int .u8 0, .int .u8 0, .int .u8 0, .int .u8 0, .int .u8 0, .int .u8 0, .int .u8 0, .int .u8 0, .int .u8 0, .int .u8 0, .int .u8 0, .int .u8 0] 119) := ⟨_, rfl⟩
  have k1 : Kept [] w0 w1 := by rw [hw1]; exact (Kept.refl [] w0).alloc _
  have B1 : Blk w1 w0.heap.size 119 (b8 (zeros 16)) := by rw [hw1]; exact Blk.new w0 _ _
  obtain ⟨w2, hw2⟩ : ∃ wx, wx = w1.alloc (.cells #[.int .u8 0, .int .u8 0, .int .u8 0, .int .u8 0, .int .u8 0, .int .u8 0, .int .u8 0, .int .u8 0, .int .u8 0, .int .u8 0, .int .u8 0, .int .u8 0, .int .u8 0, .int .u8 0, .int .u8 0, .int .u8 0] 119) := ⟨_, rfl⟩
  have k2 : Kept [] w1 w2 := by rw [hw2]; exact (Kept.refl [] w1).alloc _
  have B2 : Blk w2 w1.heap.size 119 (b8 (zeros 16)) := by rw [hw2]; exact Blk.new w1 _ _
  have e1 : w1.heap.size = w.heap.size + 1 + 1 := by rw [hw1, World.size_alloc, e0]
  rw [e1] at B2
  rw [e0] at B1
  have HB := @hideH _ (And.intro (B1.kept k2 (by simp)) (And.intro B2 (And.intro (k0.then (k1.then k2)) (B0.kept (k1.then k2) (by simp)))))
  clear k0 k1 k2 B0 B1 B2
  clear hk hv
  have B1 := HB.out.1
  have B2 := HB.out.2.1
  have cg := HB.out.2.2.2.cell (j := 2) rfl
  go_enter Tryd.func57, Tryd.ntmps57
  go_upto_region 2 with fail
  rw [← hw0, ← e0, ← hw1]
  rw [e0, ← e1, ← hw2]
  rw [e1]
  clear hw0 hw1 hw2 e0 e1
  go_upto_region 3 with fail
  obtain ⟨L, hL⟩ : ∃ L : List Int, L = zeros 16 := ⟨_, rfl⟩
  rw [← hL] at B2
  have HL := @hideH _ (And.intro hL (show L.length = 16 by rw [hL]; simp [digits_length, zeros]))
  clear hL
  have hld := run_range (P := Tryd.prog) 119 (by kernel_rfl) Tryd.underlying119 rfl HL.out.2 B2
  obtain ⟨ht, hst, B4, k4⟩ := run_over16 (P := Tryd.prog) 119 (by kernel_rfl) B1 HL.out.2
  obtain ⟨w4, hw4⟩ : ∃ wx, wx = w2.setCells (w.heap.size + 1) 0 (b8 L) := ⟨_, rfl⟩
  rw [← hw4] at B4 k4
  have HB4 := @hideH _ B4
  have HK4 := @hideH _ k4
  clear B1 B2 B4 k4 hst
  refine wp_region_lit ?_
  refine wpList_load_mid rfl 119 (.tmp 3) rfl (w.heap.size + 1 + 1) 0 (by rfl) (b8 L) _ hld Tryd.underlying119 rfl (by rw [b8_length, HL.out.2]; kernel_rfl) ?_
  refine wpList_store_mid rfl 119 (.tmp 2) (.tmp 8) rfl (w.heap.size + 1) 0 (b8 L).toArray (by rfl) (by rfl) ht (by rw [List.size_toArray, b8_length, HL.out.2]; kernel_rfl) (b8_all L) ?_
  rw [show ((b8 L).toArray.toList) = b8 L from rfl, ← hw4]
  clear hw4 ht hld
  go_wp2
  refine bodyPost_ret (v := .agg (b8 L).toArray) (results_cell_row Tryd.results57 _ w4 (w.heap.size + 1) 119 (b8 L).toArray (0, 0) _ (by rfl) HB4.out Tryd.underlying119 rfl (by rw [List.size_toArray, b8_length, HL.out.2]; kernel_rfl)) rfl ?_
  exact ⟨by rw [HL.out.1]; rfl, HB.out.2.2.1.trans HK4.out (fun y hy => .inr (by simp at hy; omega))⟩
set_option maxRecDepth 20000 in
set_option maxHeartbeats 25600000 in
theorem qSlotT (key v : Int) (w : World) (hk : 0 ≤ key ∧ key < 4294967296) (hv : 0 ≤ v ∧ v < 18446744073709551616) : Calls Tryd.prog 57 #[.agg #[.int .i64 key, .int .u64 v, .bool false]] w fun e w' => e = .returned (.agg (b8 (slotL key v true)).toArray) ∧ Kept [] w w' := by
  obtain ⟨w0, hw0⟩ : ∃ wx, wx = w.alloc (.cells #[.int .i64 key, .int .u64 v, .bool false] 56) := ⟨_, rfl⟩
  have k0 : Kept [] w w0 := by rw [hw0]; exact (Kept.refl [] w).alloc _
  have B0 : Blk w0 w.heap.size 56 [.int .i64 key, .int .u64 v, .bool false] := by rw [hw0]; exact Blk.new w _ _
  have e0 : w0.heap.size = w.heap.size + 1 := by rw [hw0, World.size_alloc]
  obtain ⟨w1, hw1⟩ : ∃ wx, wx = w0.alloc (.cells #[.int .u8 0, .int .u8 0, .int .u8 0, .int .u8 0, .int .u8 0, .int .u8 0, .int .u8 0, .int .u8 0, .int .u8 0, .int .u8 0, .int .u8 0, .int .u8 0, .int .u8 0, .int .u8 0, .int .u8 0, .int .u8 0] 119) := ⟨_, rfl⟩
  have k1 : Kept [] w0 w1 := by rw [hw1]; exact (Kept.refl [] w0).alloc _
  have B1 : Blk w1 w0.heap.size 119 (b8 (zeros 16)) := by rw [hw1]; exact Blk.new w0 _ _
  obtain ⟨w2, hw2⟩ : ∃ wx, wx = w1.alloc (.cells #[.int .u8 0, .int .u8 0, .int .u8 0, .int .u8 0, .int .u8 0, .int .u8 0, .int .u8 0, .int .u8 0, .int .u8 0, .int .u8 0, .int .u8 0, .int .u8 0, .int .u8 0, .int .u8 0, .int .u8 0, .int .u8 0] 119) := ⟨_, rfl⟩
  have k2 : Kept [] w1 w2 := by rw [hw2]; exact (Kept.refl [] w1).alloc _
  have B2 : Blk w2 w1.heap.size 119 (b8 (zeros 16)) := by rw [hw2]; exact Blk.new w1 _ _
  have e1 : w1.heap.size = w.heap.size + 1 + 1 := by rw [hw1, World.size_alloc, e0]
  rw [e1] at B2
  rw [e0] at B1
  have HB := @hideH _ (And.intro (B1.kept k2 (by simp)) (And.intro B2 (And.intro (k0.then (k1.then k2)) (B0.kept (k1.then k2) (by simp)))))
  clear k0 k1 k2 B0 B1 B2
  have HKV := @hideH _ (And.intro hk hv)
  clear hk hv
  have cg := HB.out.2.2.2.cell (j := 2) rfl
  have B2 := HB.out.2.1
  have c0 := B2.cell (j := 0) (v := .int .u8 0) rfl
  have f0 := B2.free 0
  obtain ⟨w3, hw3⟩ : ∃ wx, wx = w2.setCell ⟨w.heap.size + 1 + 1, 0, none⟩ (.int .u8 1) := ⟨_, rfl⟩
  obtain ⟨BS, kS⟩ := B2.set 0 (.int .u8 1)
  rw [← hw3] at BS kS
  have HC := @hideH _ (show Blk w3 (w.heap.size + 1) 119 (b8 (zeros 16)) ∧ Blk w3 (w.heap.size + 1 + 1) 119 (b8 (part [1, 0, 0, 0] 12 0 key)) ∧ Kept [] w w3 ∧ Blk w3 w.heap.size 56 [.int .i64 key, .int .u64 v, .bool false] from ⟨HB.out.1.kept kS (by simp), BS, HB.out.2.2.1.trans kS (fun y hy => .inr (by simp at hy; omega)), HB.out.2.2.2.kept kS (by simp; omega)⟩)
  clear B2 BS kS HB
  go_enter Tryd.func57, Tryd.ntmps57
  go_upto_region 2 with fail
  rw [← hw0, ← e0, ← hw1]
  rw [e0, ← e1, ← hw2]
  rw [e1]
  clear hw0 hw1 hw2 e0 e1
  go_upto_region 5 with fail
  rw [← hw3]
  clear hw3 c0 f0 cg
  go_wp2
  go_loopw [10] (fun vi wr => ∃ j : Nat, j ≤ 4 ∧ vi = .int .i64 j ∧ Hid (Blk wr (w.heap.size + 1) 119 (b8 (zeros 16)) ∧ Blk wr (w.heap.size + 1 + 1) 119 (b8 (part ([1, 0, 0, 0]) 12 j key)) ∧ Kept [] w wr ∧ Blk wr w.heap.size 56 [.int .i64 key, .int .u64 v, .bool false])) (fun vi _ => 4 - (iOf vi).toNat)
  case atStart => exact ⟨0, by omega, rfl, HC.out⟩
  case round =>
    obtain ⟨j, hj, rfl, hh⟩ := hrel
    by_cases hjl : j < 4
    · have hjl' : (j : Int) < (4 : Int) := by omega
      have hj0 : (0 : Int) ≤ (j : Int) := by omega
      have wj : IntKind.i64.wrap ((j : Int) + 1) = (j : Int) + 1 := wrap_i64_of (by omega) (by omega)
      have wo : IntKind.i64.wrap (4 + (j : Int)) = ((4 + j : Nat) : Int) := by rw [wrap_i64_of (by omega) (by omega)]; omega
      have wm : IntKind.i64.wrap (8 * (j : Int)) = ((8 * j : Nat) : Int) := by rw [wrap_i64_of (by omega) (by omega)]; omega
      have ho1 : ((4 + j : Nat) : Int) < 16 := by omega
      have ho0 : (0 : Int) ≤ ((4 + j : Nat) : Int) := by omega
      have cK := hh.out.2.2.2.cell (j := 0) rfl
      have BA := hh.out.2.1
      have cA := BA.cell (b8_at (part_old ([1, 0, 0, 0]) (m := 12) (i := j) (by omega) key))
      rw [show ([1, 0, 0, 0] : List Int).length + j = 4 + j by simp [digits_length]] at cA
      have fA := BA.free (4 + j)
      obtain ⟨y, hy⟩ : ∃ y, y = shr j key % 256 := ⟨_, rfl⟩
      obtain ⟨BS, kS⟩ := BA.set (4 + j) (.int .u8 (shr j key % 256))
      have hpn := part_next ([1, 0, 0, 0]) (m := 12) (i := j) (by omega) key
      rw [show ([1, 0, 0, 0] : List Int).length + j = 4 + j by simp [digits_length]] at hpn
      rw [b8_set, hpn, ← hy] at BS
      rw [← hy] at kS
      obtain ⟨z, hz⟩ : ∃ z, z = shr j key := ⟨_, rfl⟩
      rw [← hz] at hy
      have hsh : Op.shift .shr .i64 key .i64 ((8 * j : Nat) : Int) = pure (.int .i64 z) := by
        rw [shift_shr_any .i64 .i64 key _ (by omega), hz, shr_pow]
        have : min (((8 * j : Nat) : Int).toNat) (IntKind.bits .i64) = 8 * j := by
          have : IntKind.bits .i64 = 64 := rfl
          omega
        rw [this]
      have cv : IntKind.u8.wrap z = y := by rw [hy, IntKind.wrap_u8]
      obtain ⟨o8, ho8⟩ : ∃ o8 : Int, o8 = ((8 * j : Nat) : Int) := ⟨_, rfl⟩
      rw [← ho8] at wm hsh
      obtain ⟨wn, hwn⟩ : ∃ wx, wx = wr.setCell ⟨w.heap.size + 1 + 1, 4 + j, none⟩ (.int .u8 y) := ⟨_, rfl⟩
      rw [← hwn] at BS kS
      have HN := @hideH _ (show Blk wn (w.heap.size + 1) 119 (b8 (zeros 16)) ∧ Blk wn (w.heap.size + 1 + 1) 119 (b8 (part ([1, 0, 0, 0]) 12 (j + 1) key)) ∧ Kept [] w wn ∧ Blk wn w.heap.size 56 [.int .i64 key, .int .u64 v, .bool false] from ⟨hh.out.1.kept kS (by simp), BS, hh.out.2.2.1.trans kS (fun y hy => .inr (by simp at hy; omega)), hh.out.2.2.2.kept kS (by simp; omega)⟩)
      clear hh BA BS kS hpn hz hy ho8
      go_upto_region 9 with fail
      rw [← hwn]
      clear hwn cA fA cv
      go_wp2
      go_roundw
      case rel => exact ⟨j + 1, by omega, by go_num, HN.out⟩
      case measure => first | (simp [iOf]; done) | (simp [iOf]; omega)
    · obtain rfl : j = 4 := by omega
      have HD := @hideH _ (show Blk wr (w.heap.size + 1) 119 (b8 (zeros 16)) ∧ Blk wr (w.heap.size + 1 + 1) 119 (b8 (part ([1, 0, 0, 0] ++ digits 4 key) 8 0 v)) ∧ Kept [] w wr ∧ Blk wr w.heap.size 56 [.int .i64 key, .int .u64 v, .bool false] from ⟨hh.out.1, by rw [part_zero]; exact hh.out.2.1, hh.out.2.2.1, hh.out.2.2.2⟩)
      clear hh HC
      go_wp2
      go_loopw [23] (fun vi wr => ∃ j : Nat, j ≤ 8 ∧ vi = .int .i64 j ∧ Hid (Blk wr (w.heap.size + 1) 119 (b8 (zeros 16)) ∧ Blk wr (w.heap.size + 1 + 1) 119 (b8 (part ([1, 0, 0, 0] ++ digits 4 key) 8 j v)) ∧ Kept [] w wr ∧ Blk wr w.heap.size 56 [.int .i64 key, .int .u64 v, .bool false])) (fun vi _ => 8 - (iOf vi).toNat)
      case atStart => exact ⟨0, by omega, rfl, HD.out⟩
      case round =>
        obtain ⟨j, hj, rfl, hh⟩ := hrel
        by_cases hjl : j < 8
        · have hjl' : (j : Int) < (8 : Int) := by omega
          have hj0 : (0 : Int) ≤ (j : Int) := by omega
          have wj : IntKind.i64.wrap ((j : Int) + 1) = (j : Int) + 1 := wrap_i64_of (by omega) (by omega)
          have wo : IntKind.i64.wrap (8 + (j : Int)) = ((8 + j : Nat) : Int) := by rw [wrap_i64_of (by omega) (by omega)]; omega
          have wm : IntKind.i64.wrap (8 * (j : Int)) = ((8 * j : Nat) : Int) := by rw [wrap_i64_of (by omega) (by omega)]; omega
          have ho1 : ((8 + j : Nat) : Int) < 16 := by omega
          have ho0 : (0 : Int) ≤ ((8 + j : Nat) : Int) := by omega
          have cK := hh.out.2.2.2.cell (j := 1) rfl
          have BA := hh.out.2.1
          have cA := BA.cell (b8_at (part_old ([1, 0, 0, 0] ++ digits 4 key) (m := 8) (i := j) (by omega) v))
          rw [show ([1, 0, 0, 0] ++ digits 4 key : List Int).length + j = 8 + j by simp [digits_length]] at cA
          have fA := BA.free (8 + j)
          obtain ⟨y, hy⟩ : ∃ y, y = shr j v % 256 := ⟨_, rfl⟩
          obtain ⟨BS, kS⟩ := BA.set (8 + j) (.int .u8 (shr j v % 256))
          have hpn := part_next ([1, 0, 0, 0] ++ digits 4 key) (m := 8) (i := j) (by omega) v
          rw [show ([1, 0, 0, 0] ++ digits 4 key : List Int).length + j = 8 + j by simp [digits_length]] at hpn
          rw [b8_set, hpn, ← hy] at BS
          rw [← hy] at kS
          obtain ⟨z, hz⟩ : ∃ z, z = shr j v := ⟨_, rfl⟩
          rw [← hz] at hy
          have hsh : Op.shift .shr .u64 v .i64 ((8 * j : Nat) : Int) = pure (.int .u64 z) := by
            rw [shift_shr_any .u64 .i64 v _ (by omega), hz, shr_pow]
            have : min (((8 * j : Nat) : Int).toNat) (IntKind.bits .u64) = 8 * j := by
              have : IntKind.bits .u64 = 64 := rfl
              omega
            rw [this]
          have cv : IntKind.u8.wrap z = y := by rw [hy, IntKind.wrap_u8]
          obtain ⟨o8, ho8⟩ : ∃ o8 : Int, o8 = ((8 * j : Nat) : Int) := ⟨_, rfl⟩
          rw [← ho8] at wm hsh
          obtain ⟨wn, hwn⟩ : ∃ wx, wx = wr.setCell ⟨w.heap.size + 1 + 1, 8 + j, none⟩ (.int .u8 y) := ⟨_, rfl⟩
          rw [← hwn] at BS kS
          have HN := @hideH _ (show Blk wn (w.heap.size + 1) 119 (b8 (zeros 16)) ∧ Blk wn (w.heap.size + 1 + 1) 119 (b8 (part ([1, 0, 0, 0] ++ digits 4 key) 8 (j + 1) v)) ∧ Kept [] w wn ∧ Blk wn w.heap.size 56 [.int .i64 key, .int .u64 v, .bool false] from ⟨hh.out.1.kept kS (by simp), BS, hh.out.2.2.1.trans kS (fun y hy => .inr (by simp at hy; omega)), hh.out.2.2.2.kept kS (by simp; omega)⟩)
          clear hh BA BS kS hpn hz hy ho8
          go_upto_region 14 with fail
          rw [← hwn]
          clear hwn cA fA cv
          go_wp2
          go_roundw
          case rel => exact ⟨j + 1, by omega, by go_num, HN.out⟩
          case measure => first | (simp [iOf]; done) | (simp [iOf]; omega)
        · obtain rfl : j = 8 := by omega
          have HW := @hideH _ hh.out.2.2.1
          have B1 := hh.out.1
          have B2 := hh.out.2.1
          rw [part_all] at B2
          clear hh HD
          go_upto_region 15 with fail
          obtain ⟨L, hL⟩ : ∃ L : List Int, L = [1, 0, 0, 0] ++ digits 4 key ++ digits 8 v := ⟨_, rfl⟩
          rw [← hL] at B2
          have HL := @hideH _ (And.intro hL (show L.length = 16 by rw [hL]; simp [digits_length, zeros]))
          clear hL
          have hld := run_range (P := Tryd.prog) 119 (by kernel_rfl) Tryd.underlying119 rfl HL.out.2 B2
          obtain ⟨ht, hst, B4, k4⟩ := run_over16 (P := Tryd.prog) 119 (by kernel_rfl) B1 HL.out.2
          obtain ⟨w4, hw4⟩ : ∃ wx, wx = wr.setCells (w.heap.size + 1) 0 (b8 L) := ⟨_, rfl⟩
          rw [← hw4] at B4 k4
          have HB4 := @hideH _ B4
          have HK4 := @hideH _ k4
          clear B1 B2 B4 k4 hst
          refine wp_region_lit ?_
          refine wpList_load_mid rfl 119 (.tmp 3) rfl (w.heap.size + 1 + 1) 0 (by rfl) (b8 L) _ hld Tryd.underlying119 rfl (by rw [b8_length, HL.out.2]; kernel_rfl) ?_
          refine wpList_store_mid rfl 119 (.tmp 2) (.tmp 36) rfl (w.heap.size + 1) 0 (b8 L).toArray (by rfl) (by rfl) ht (by rw [List.size_toArray, b8_length, HL.out.2]; kernel_rfl) (b8_all L) ?_
          rw [show ((b8 L).toArray.toList) = b8 L from rfl, ← hw4]
          clear hw4 ht hld
          go_wp2
          refine bodyPost_ret (v := .agg (b8 L).toArray) (results_cell_row Tryd.results57 _ w4 (w.heap.size + 1) 119 (b8 L).toArray (0, 0) _ (by rfl) HB4.out Tryd.underlying119 rfl (by rw [List.size_toArray, b8_length, HL.out.2]; kernel_rfl)) rfl ?_
          exact ⟨by rw [HL.out.1]; rfl, HW.out.trans HK4.out (fun y hy => .inr (by simp at hy; omega))⟩
theorem qSlot (x : Chg) (w : World) (hk : 0 ≤ x.key ∧ x.key < 4294967296) (hv : u64 x.val) : Calls Tryd.prog 57 #[.agg #[.int .i64 x.key, .int .u64 x.val, .bool x.gone]] w fun e w' => e = .returned (.agg (b8 (slotL x.key x.val (!x.gone))).toArray) ∧ Kept [] w w' := by
  cases hg : x.gone
  · exact qSlotT x.key x.val w hk hv
  · exact qSlotF x.key x.val w hk hv
set_option maxRecDepth 20000 in
set_option maxHeartbeats 3200000 in
theorem qLength (A B : List Int) (hA : A.length = 16) (hB : B.length = 16) (w : World) : Calls Tryd.prog 55 #[.agg (b8 A).toArray, .agg (b8 B).toArray] w fun e w' => e = .returned (.int .i64 (lengthL A B)) ∧ Kept [] w w' := by
  obtain ⟨w1, hw1⟩ : ∃ wx, wx = w.alloc (.cells (b8 A).toArray 119) := ⟨_, rfl⟩
  have k1 : Kept [] w w1 := by rw [hw1]; exact (Kept.refl [] w).alloc _
  have B1 : Blk w1 w.heap.size 119 (b8 A) := by rw [hw1]; exact Blk.new w _ _
  obtain ⟨w2, hw2⟩ : ∃ wx, wx = w1.alloc (.cells (b8 B).toArray 119) := ⟨_, rfl⟩
  have k2 : Kept [] w1 w2 := by rw [hw2]; exact (Kept.refl [] w1).alloc _
  have B2 : Blk w2 w1.heap.size 119 (b8 B) := by rw [hw2]; exact Blk.new w1 _ _
  have e1 : w1.heap.size = w.heap.size + 1 := by rw [hw1, World.size_alloc]
  rw [e1] at B2
  have HB := @hideH _ (And.intro (B1.kept k2 (by simp)) (And.intro B2 (k1.then k2)))
  have HL := @hideH _ (And.intro hA hB)
  clear k1 k2 B1 B2 hA hB
  go_enter Tryd.func55, Tryd.ntmps55
  go_upto_region 1 with fail
  rw [← hw1, ← hw2]
  clear hw1 hw2 e1
  go_wp2
  go_loopw [5, 6, 7] (fun vf vb vi wr => ∃ m f t : Nat, m ≤ 16 ∧ vi = .int .i64 ((m : Int) - 1) ∧ vf = .int .i64 (f : Int) ∧ vb = .int .i64 (t : Int) ∧ Hid (Kept [] w2 wr ∧ (((∀ i, m ≤ i → i < 16 → A[i]? = B[i]?) ∧ f = 0 ∧ t = 0) ∨ (m ≤ f ∧ f < t ∧ t ≤ 16 ∧ A[f]? ≠ B[f]? ∧ (∀ i, m ≤ i → i < f → A[i]? = B[i]?) ∧ A[t - 1]? ≠ B[t - 1]? ∧ ∀ i, t ≤ i → i < 16 → A[i]? = B[i]?)))) (fun _ _ vi _ => (iOf vi + 1).toNat)
  case atStart => exact ⟨16, 0, 0, by omega, by first | rfl | go_num, rfl, rfl, Kept.refl _ _, .inl ⟨fun i h1 h2 => by omega, rfl, rfl⟩⟩
  case round =>
    obtain ⟨m, f, t, hm, rfl, rfl, rfl, hh⟩ := hrel
    by_cases hm0 : 0 < m
    · obtain ⟨j, rfl⟩ : ∃ j, m = j + 1 := ⟨m - 1, by omega⟩
      rw [show (((j + 1 : Nat) : Int) - 1) = (j : Int) by omega]
      have hj0 : (0 : Int) ≤ (j : Int) := by omega
      have hj16 : (j : Int) < 16 := by omega
      have wj : IntKind.i64.wrap ((j : Int) + 1) = ((j + 1 : Nat) : Int) := by rw [wrap_i64_of (by omega) (by omega)]; omega
      have wd : IntKind.i64.wrap ((j : Int) - 1) = (j : Int) - 1 := wrap_i64_of (by omega) (by omega)
      obtain ⟨x, hx⟩ : ∃ x, A[j]? = some x := ⟨_, List.getElem?_eq_getElem (by have := HL.out.1; omega)⟩
      obtain ⟨y, hy⟩ : ∃ y, B[j]? = some y := ⟨_, List.getElem?_eq_getElem (by have := HL.out.2; omega)⟩
      have ca := hh.out.1.cell (HB.out.1.cell (b8_at hx)) (by simp)
      have cb := hh.out.1.cell (HB.out.2.1.cell (b8_at hy)) (by simp)
      by_cases e : x = y
      · have e' : (x != y) = false := by simpa using e
        have e2 : (x == y) = true := by simpa using e
        have HN := @hideH _ (show ((∀ i, j ≤ i → i < 16 → A[i]? = B[i]?) ∧ f = 0 ∧ t = 0) ∨ (j ≤ f ∧ f < t ∧ t ≤ 16 ∧ A[f]? ≠ B[f]? ∧ (∀ i, j ≤ i → i < f → A[i]? = B[i]?) ∧ A[t - 1]? ≠ B[t - 1]? ∧ ∀ i, t ≤ i → i < 16 → A[i]? = B[i]?) by
          have one : ∀ i, i = j → A[i]? = B[i]? := fun i hi => by rw [hi, hx, hy, e]
          rcases hh.out.2 with ⟨h1, h2⟩ | ⟨h1, h2, h3, h4, h5, h6⟩
          · exact .inl ⟨fun i hi hi2 => by
              by_cases q : i = j
              · exact one i q
              · exact h1 i (by omega) hi2, h2⟩
          · exact .inr ⟨by omega, h2, h3, h4, fun i hi hi2 => by
              by_cases q : i = j
              · exact one i q
              · exact h5 i (by omega) hi2, h6⟩)
        have HK := @hideH _ hh.out.1
        clear e hx hy hh
        go_upto_region 5 with fail
        go_quiet (fail)
        go_wp2
        go_roundw
        case rel => exact ⟨j, f, t, by omega, by first | rfl | go_num, rfl, rfl, HK.out.drewN' _, HN.out⟩
        case measure => first | (simp [iOf]; done) | (simp [iOf]; omega)
      · have e' : (x != y) = true := by simpa using e
        have e2 : (x == y) = false := by simpa using e
        have hmx : max (t : Int) ((j + 1 : Nat) : Int) = ((max t (j + 1) : Nat) : Int) := by omega
        have HN := @hideH _ (show (j ≤ j ∧ j < max t (j + 1) ∧ max t (j + 1) ≤ 16 ∧ A[j]? ≠ B[j]? ∧ (∀ i, j ≤ i → i < j → A[i]? = B[i]?) ∧ A[max t (j + 1) - 1]? ≠ B[max t (j + 1) - 1]? ∧ ∀ i, max t (j + 1) ≤ i → i < 16 → A[i]? = B[i]?) by
          have one : A[j]? ≠ B[j]? := by rw [hx, hy]; exact fun q => e (Option.some.inj q)
          rcases hh.out.2 with ⟨h1, h2, h3⟩ | ⟨h1, h2, h3, h4, h5, h6, h7⟩
          · subst h3
            rw [show max 0 (j + 1) = j + 1 by omega]
            exact ⟨by omega, by omega, by omega, one, fun i hi hi2 => by omega, by simpa using one, fun i hi hi2 => h1 i (by omega) hi2⟩
          · rw [show max t (j + 1) = t by omega]
            exact ⟨by omega, by omega, h3, one, fun i hi hi2 => by omega, h6, h7⟩)
        obtain ⟨t', ht'⟩ : ∃ t', t' = max t (j + 1) := ⟨_, rfl⟩
        rw [← ht'] at HN hmx
        have HK := @hideH _ hh.out.1
        clear e hx hy hh ht'
        go_upto_region 5 with fail
        go_quiet (fail)
        go_wp2
        go_roundw
        case rel => exact ⟨j, j, t', by omega, by first | rfl | go_num, by first | rfl | go_num, by first | rfl | (rw [hmx]) | go_num, HK.out.drewN' _, .inr HN.out⟩
        case measure => first | (simp [iOf]; done) | (simp [iOf]; omega)
    · obtain rfl : m = 0 := by omega
      have HE := @hideH _ (show lengthL A B = (t : Int) - (f : Int) by
        rcases hh.out.2 with ⟨h1, h2, h3⟩ | ⟨h1, h2, h3, h4, h5, h6, h7⟩
        · subst h2 h3
          exact lengthL_same (same16 HL.out.1 HL.out.2 (fun i hi => h1 i (by omega) hi))
        · have l1 := HL.out.1
          have l2 := HL.out.2
          have a1 : A[f]? = some A[f] := List.getElem?_eq_getElem (by omega)
          have b1 : B[f]? = some B[f] := List.getElem?_eq_getElem (by omega)
          have a2 : A[t - 1]? = some A[t - 1] := List.getElem?_eq_getElem (by omega)
          have b2 : B[t - 1]? = some B[t - 1] := List.getElem?_eq_getElem (by omega)
          exact lengthL_part l1 l2 (fun i hi => h5 i (by omega) hi) a1 b1 (fun q => h4 (by rw [a1, b1, q])) h7 (by omega) h3 a2 b2 (fun q => h6 (by rw [a2, b2, q])))
      have HT := @hideH _ (show t ≤ 16 ∧ f ≤ 16 by rcases hh.out.2 with ⟨h1, h2, h3⟩ | ⟨h1, h2, h3, h4⟩ <;> omega)
      have wd : IntKind.i64.wrap ((t : Int) - (f : Int)) = (t : Int) - (f : Int) := wrap_i64_of (by have := HT.out; omega) (by have := HT.out; omega)
      have HK := @hideH _ hh.out.1
      clear hh
      go_wp2
      go_ret
      exact ⟨by rw [HE.out]; first | rfl | go_num, HB.out.2.2.then HK.out⟩
set_option maxRecDepth 20000 in
set_option maxHeartbeats 3200000 in
theorem qSlotV {b : Nat} {l : List (Int × Int)} (key : Int) (w : World) (h : Vm w b l) (hk : 0 ≤ key ∧ key < 4294967296) (hv : u64 (pairO (lookE l key)).1) : Calls Tryd.prog 56 #[.map (some b), .int .i64 key] w fun e w' => e = .returned (.agg (b8 (slotL key (pairO (lookE l key)).1 (pairO (lookE l key)).2)).toArray) ∧ Kept [] w w' := by
  have zU : ∀ w : World, (zeroValue 49).run Tryd.prog w = .ok (.int .u64 0) w := fun w => by
    go_simp
    try rfl
  obtain ⟨⟨D, hO, hT, hK⟩, hr⟩ := h
  have hi : I64 key := ⟨by omega, by omega⟩
  have hkey := keyOf_int_mk (P := Tryd.prog) (k := 3) Tryd.underlying3 (wf_of_i64 hi)
  obtain ⟨q, hq⟩ : ∃ q, q = pairO (lookE l key) := ⟨_, rfl⟩
  rw [← hq] at hv ⊢
  have h1 : Maps.has D (.int .i64 key) = q.2 := by
    rw [hT.has key hi, fV_isSome, hq]
    cases lookE l key <;> rfl
  have h2 : D.atKey (.int .i64 key) (.lit (.int .u64 0)) = .lit (.int .u64 q.1) := by
    rw [hT.atk key hi, hq]
    unfold fV
    cases lookE l key <;> rfl
  obtain ⟨w1, hw1⟩ : ∃ wx, wx = w.alloc (.cells #[.int .u8 0, .int .u8 0, .int .u8 0, .int .u8 0, .int .u8 0, .int .u8 0, .int .u8 0, .int .u8 0, .int .u8 0, .int .u8 0, .int .u8 0, .int .u8 0, .int .u8 0, .int .u8 0, .int .u8 0, .int .u8 0] 119) := ⟨_, rfl⟩
  have k1 : Kept [] w w1 := by rw [hw1]; exact (Kept.refl [] w).alloc _
  have B1 : Blk w1 w.heap.size 119 (b8 (zeros 16)) := by rw [hw1]; exact Blk.new w _ _
  have hO1 := ownsMap_kept hO k1 (by simp)
  have HS := @hideH _ (fun wx => qSlot ⟨key, q.1, !q.2⟩ wx hk hv)
  have HB := @hideH _ (And.intro k1 B1)
  have HL := @hideH _ (slot_len key q.1 q.2)
  obtain ⟨v, th⟩ := q
  dsimp only at *
  obtain ⟨n, hn⟩ : ∃ n, n = (l.map Prod.fst).length := ⟨_, rfl⟩
  rw [← hn] at hO1
  clear hT hK hr hO k1 B1 hq hv hk hn
  go_enter Tryd.func56, Tryd.ntmps56
  go_upto_region 1 with fail
  rw [← hw1]
  clear hw1
  go_wp2_with (at_lookup; refine wpList_lookup_own_ok_int _ rfl _ _ 59 rfl 3 49 .u64 keyL Tryd.underlying59 Tryd.underlying49 (zU _) b n D rfl hO1 _ _ rfl hkey ?_; intro cc hcc hwc; (obtain rfl : v = cc := (by rw [h2] at hcc; simpa using hcc)); rw [h1])
  try go_wp2_with fail
  refine (HS.out _).mono ?_
  rintro e w2 ⟨rfl, k2⟩
  rw [Bool.not_not]
  obtain ⟨L, hL⟩ : ∃ L : List Int, L = slotL key v th := ⟨_, rfl⟩
  rw [← hL] at HL ⊢
  have HLL := @hideH _ hL
  have B2 := HB.out.2.kept k2 (by simp)
  obtain ⟨ht, hst, B4, k4⟩ := run_over16 (P := Tryd.prog) 119 (by kernel_rfl) B2 HL.out
  obtain ⟨w4, hw4⟩ : ∃ wx, wx = w2.setCells w.heap.size 0 (b8 L) := ⟨_, rfl⟩
  rw [← hw4] at B4 k4
  have HB4 := @hideH _ B4
  have HK4 := @hideH _ (And.intro (HB.out.1.then k2) k4)
  clear B2 B4 k4 hst hL k2
  go_wp2_with (refine wpList_store_mid rfl 119 (.tmp 4) (.tmp 18) rfl w.heap.size 0 (b8 L).toArray (by rfl) (by rfl) ht (by rw [List.size_toArray, b8_length, HL.out]; kernel_rfl) (b8_all L) ?_; rw [show ((b8 L).toArray.toList) = b8 L from rfl, ← hw4]; clear hw4 ht)
  try go_wp2
  refine bodyPost_ret (v := .agg (b8 L).toArray) (results_cell_row Tryd.results56 _ w4 w.heap.size 119 (b8 L).toArray (0, 0) _ (by rfl) HB4.out Tryd.underlying119 rfl (by rw [List.size_toArray, b8_length, HL.out]; kernel_rfl)) rfl ?_
  exact ⟨by rw [HLL.out], HK4.out.1.trans HK4.out.2 (fun y hy => .inr (by simp at hy; omega))⟩
end Go.Proofs.YtocpagpkpibmaaaDoor

/-
  OWN WORK. The landed plain (layer 18): how its State lies behind a begin and behind an end.
-/
namespace Go.Proofs.YtocpagpkpibmaaaDoor
open Go.RowKit Go.Maps
set_option linter.unusedVariables false
set_option linter.unusedSimpArgs false
/-- what came is new; what was written is the State's -/
def Nx (w w' : World) (V V' : Tag → Value) : Prop := (∀ a x, blkOf (V' a) = some x → (∃ b, blkOf (V b) = some x) ∨ w.heap.size ≤ x) ∧ ∃ X, Kept X w w' ∧ ∀ x ∈ X, ∃ b, blkOf (V b) = some x
theorem Nx.refl {w w' : World} (V : Tag → Value) (k : Kept [] w w') : Nx w w' V V := ⟨fun a x h => .inl ⟨a, h⟩, [], k, by simp⟩
theorem Nx.same {w w' : World} {V : Tag → Value} {X : List Nat} (k : Kept X w w') (h : ∀ x ∈ X, ∃ b, blkOf (V b) = some x) : Nx w w' V V := ⟨fun a x h => .inl ⟨a, h⟩, X, k, h⟩
theorem Nx.then {w w' w'' : World} {V V' : Tag → Value} (h : Nx w w' V V') (k : Kept [] w' w'') : Nx w w'' V V' := by
  obtain ⟨h1, X, k1, h2⟩ := h
  exact ⟨h1, X, k1.then k, h2⟩
theorem Nx.trans {w w' w'' : World} {V V' V'' : Tag → Value} (h : Nx w w' V V') (h' : Nx w' w'' V' V'') : Nx w w'' V V'' := by
  obtain ⟨h1, X, k1, h2⟩ := h
  obtain ⟨h3, Y, k2, h4⟩ := h'
  have hs := k1.size
  refine ⟨fun a x q => ?_, X ++ Y.filter (fun y => decide (y < w.heap.size)), ?_, fun x hx => ?_⟩
  · rcases h3 a x q with ⟨b, r⟩ | r
    · exact h1 b x r
    · exact .inr (by omega)
  · refine (k1.mono (T := X ++ Y.filter (fun y => decide (y < w.heap.size))) (fun x hx => List.mem_append.2 (.inl hx))).trans k2 (fun y hy => ?_)
    by_cases q : y < w.heap.size
    · exact .inl (List.mem_append.2 (.inr (List.mem_filter.2 ⟨hy, by simpa using q⟩)))
    · exact .inr (by omega)
  · rcases List.mem_append.1 hx with q | q
    · exact h2 x q
    · obtain ⟨q1, q2⟩ := List.mem_filter.1 q
      obtain ⟨b, r⟩ := h4 x q1
      rcases h1 b x r with r | r
      · exact r
      · have : x < w.heap.size := by simpa using q2
        omega
/-- from a step of the State to what the face says of it -/
theorem Nx.face {w w' : World} {V V' : Tag → Value} {g : Nat} {F : List Nat} {c : Cf} {S S' : St} (h2 : ∀ a x, blkOf (V a) = some x → x ∈ F) (h3 : ∀ x ∈ F, x < w.heap.size) (h4 : 0 ∉ F) (h0 : 0 < w.heap.size) (hp : PpP w' V' g c S') (hn : Nx w w' V V') : ∃ F', Pz w' g F' c S' ∧ Fr w F F' ∧ Kept F w w' := by
  obtain ⟨h1, X, k, hX⟩ := hn
  exact ⟨grownF w w' F, Pz.next (S := S') h2 h3 h4 hp k.size h0 h1, fr_grownF w w' F, k.mono (fun x hx => by obtain ⟨b, q⟩ := hX x hx; exact h2 b x q)⟩
/-- one more is open -/
theorem PpP.addT {w w' : World} {V : Tag → Value} {g : Nat} {c : Cf} {S : St} (h : PpP w V g c S) {id : Int} (hf : findO S.opn id = none) {bo x hb n : Nat} {D : DataW Unit} (hbo : V .bo = .map (some bo)) (hx : w.heap.size ≤ x ∧ x < w'.heap.size) (hh : w.heap.size ≤ hb ∧ hb < w'.heap.size) (hne : hb ≠ x) (kk : Kept [bo] w w')
    (hT : Tel D (.int .i64 0) (fO V S.opn)) (hD : Maps.IsMap D) (ho : w'.ownsMap Tryd.prog 3 ptrElem bo n (D.put (.int .i64 id) (.lit (.int .i64 ((x : Int) + 1))))) (hbx : Blk w' x 81 [.map (some hb), .slice none 0 0, .int .i64 99]) (hm : Mp w' mapElem hb (.int .i64 0) (fun _ => none) [])
    (hok : OkS c ⟨S.done, S.opn ++ [⟨id, [], [], []⟩], S.used⟩) : ∃ V', PpP w' V' g c ⟨S.done, S.opn ++ [⟨id, [], [], []⟩], S.used⟩ ∧ ∀ a y, blkOf (V' a) = some y → (∃ b, blkOf (V b) = some y) ∨ w.heap.size ≤ y := by
  obtain ⟨V', hV'⟩ : ∃ V', V' = upd (upd (upd V (.hd id) (.map (some hb))) (.ch id) (.slice none 0 0)) (.tx id) (.pointer (some ⟨x, 0, none⟩)) := ⟨_, rfl⟩
  have hsz := kk.size
  have i1 : Inj w'.heap.size (upd V (.hd id) (.map (some hb))) := h.inj.upd hsz (fun y hy => .inl (by cases hy; exact hh))
  have i2 : Inj w'.heap.size (upd (upd V (.hd id) (.map (some hb))) (.ch id) (.slice none 0 0)) := i1.upd (Nat.le_refl _) (fun y hy => by cases hy)
  have hinj : Inj w'.heap.size V' := by
    refine ⟨fun a b y ha hb' => ?_, fun a y ha => ?_⟩
    · rw [hV'] at ha hb'
      unfold upd at ha hb'
      have lt : ∀ d z, blkOf (V d) = some z → z < w.heap.size := h.inj.lt
      by_cases a1 : a = .tx id
      · by_cases b1 : b = .tx id
        · rw [a1, b1]
        · rw [if_pos a1] at ha
          rw [if_neg b1] at hb'
          cases ha
          split at hb'
          · cases hb'
          · split at hb'
            · cases hb'; exact absurd rfl hne
            · exact absurd (show x < w.heap.size from lt _ _ hb') (by omega)
      · rw [if_neg a1] at ha
        by_cases b1 : b = .tx id
        · rw [if_pos b1] at hb'
          cases hb'
          split at ha
          · cases ha
          · split at ha
            · cases ha; exact absurd rfl hne
            · exact absurd (show x < w.heap.size from lt _ _ ha) (by omega)
        · rw [if_neg b1] at hb'
          exact i2.inj a b y ha hb'
    · rw [hV'] at ha
      unfold upd at ha
      split at ha
      · cases ha; exact hx.2
      · exact i2.lt a y ha
  have hother : ∀ a, ofT id a = false → V' a = V a := fun a ha => by
    rw [hV', upd_other (by intro e; subst e; simp [ofT] at ha), upd_other (by intro e; subst e; simp [ofT] at ha), upd_other (by intro e; subst e; simp [ofT] at ha)]
  have etx : V' (.tx id) = .pointer (some ⟨x, 0, none⟩) := by rw [hV', upd_same]
  have ech : V' (.ch id) = .slice none 0 0 := by rw [hV', upd_other (by simp), upd_same]
  have ehd : V' (.hd id) = .map (some hb) := by rw [hV', upd_other (by simp), upd_other (by simp), upd_same]
  have nk := findO_none.1 hf
  have out : ∀ a y, a ≠ .bo → blkOf (V a) = some y → y ∉ [bo] := fun a y ha hy hm => by
    have e : y = bo := by simpa using hm
    rw [e] at hy
    exact ha (h.inj.inj _ _ _ hy (by rw [hbo]; rfl))
  refine ⟨V', ⟨by rw [hother .g rfl]; exact h.vg, ?_, ?_, fun p p0 p1 => ?_, ?_, fun t ht => ?_, ?_, fun j l hj => ?_, hinj, hok, h.ok2.beg id _ _⟩, fun a y ha => ?_⟩
  · rw [hother .bp rfl, hother .bo rfl, hother .vd rfl]
    exact h.box.kept kk (out .g g (by simp) (by rw [h.vg]; rfl))
  · rw [hother .bp rfl, show (fun i : Nat => V' (.pg (i : Int))) = fun i : Nat => V (.pg (i : Int)) from funext fun i => hother _ rfl]
    exact h.pgs.kept kk (fun y hy => out .bp y (by simp) (by rw [Row.blkOf h.pgs]; exact hy))
  · obtain ⟨b, e2, h2⟩ := h.pg p p0 p1
    exact ⟨b, by rw [hother _ rfl]; exact e2, h2.kept kk (out (.pg p) b (by simp) (by rw [e2]; rfl))⟩
  · refine ⟨bo, by rw [hother .bo rfl]; exact hbo, Mp.of ho ((hT.put hD id (.int .i64 ((x : Int) + 1))).congr fun j => ?_) ?_⟩
    · show _ = fO V' (S.opn ++ [(⟨id, [], [], []⟩ : Tn)]) j
      unfold fO
      have e : (findO (S.opn ++ [(⟨id, [], [], []⟩ : Tn)]) j).isSome = ((findO S.opn j).isSome || j == id) := by
        rw [Bool.eq_iff_iff, findO_mem, Bool.or_eq_true, findO_mem]
        simp
      rw [e]
      by_cases q : j = id
      · subst q
        rw [if_pos rfl, if_pos (by simp), etx]; rfl
      · rw [if_neg q, hother (.tx j) (by simp [ofT, q])]
        simp [q]
    · refine ⟨?_, fun j => ?_, fun j hj => ?_⟩
      · show ((S.opn ++ [(⟨id, [], [], []⟩ : Tn)]).map Tn.id).Nodup
        exact List.pairwise_map.2 hok.dif
      · show j ∈ (S.opn ++ [(⟨id, [], [], []⟩ : Tn)]).map Tn.id ↔ _
        rw [← findO_mem]
        unfold fO
        split <;> simp_all
      · obtain ⟨t, ht, rfl⟩ := List.mem_map.1 hj
        have := hok.ids t ht
        unfold isId at this
        exact ⟨by omega, by omega⟩
  · rcases List.mem_append.1 ht with q | q
    · have hne' := nk t q
      have hk := (h.txs t q).kept kk (fun a y ha hy => out a y (by intro e; subst e; cases ha) hy)
      exact hk.congr (fun a ha => hother a (ofT_other ha hne')) (fun p _ => rfl)
    · simp at q
      subst q
      refine ⟨⟨x, etx, ?_⟩, ⟨hb, ehd, ?_⟩, ?_, by simp⟩
      · rw [ehd, ech]; exact hbx
      · have e : fH V' ⟨id, [], [], []⟩ = fun _ => none := by funext p; unfold fH; simp
        rw [e]; exact hm
      · rw [ech]; exact Cs.nil _ _
  · show Row w' 0 1 (V' .vd) S.done.length ((List.range S.done.length).map fun j => V' (.dn j))
    rw [hother .vd rfl, show (fun j : Nat => V' (.dn j)) = fun j => V (.dn j) from funext fun j => hother _ rfl]
    exact h.done.kept kk (fun y hy => out .vd y (by simp) (by rw [Row.blkOf h.done]; exact hy))
  · have q := h.dns j l hj
    rw [hother _ rfl]
    exact q.kept kk (fun y hy => out (.dn j) y (by simp) (by rw [Row.blkOf q]; exact hy))
  · rw [hV'] at ha
    unfold upd at ha
    split at ha
    · cases ha; exact .inr hx.1
    · split at ha
      · cases ha
      · split at ha
        · cases ha; exact .inr hh.1
        · exact .inl ⟨a, ha⟩
theorem ids_erase {l : List Tn} (h : l.Pairwise fun x y => x.id ≠ y.id) {k : Nat} {t : Tn} (hk : l[k]? = some t) (j : Int) : (findO (l.eraseIdx k) j).isSome = ((findO l j).isSome && j != t.id) := by
  rw [Bool.eq_iff_iff, Bool.and_eq_true, findO_mem, findO_mem]
  rw [← dropO_at h hk]
  unfold dropO
  simp only [List.mem_map, List.mem_filter, bne_iff_ne]
  constructor
  · rintro ⟨x, ⟨h1, h2⟩, rfl⟩
    exact ⟨⟨x, h1, rfl⟩, h2⟩
  · rintro ⟨⟨x, h1, rfl⟩, h2⟩
    exact ⟨x, ⟨h1, h2⟩, rfl⟩
theorem mem_erase {l : List Tn} (h : l.Pairwise fun x y => x.id ≠ y.id) {k : Nat} {t x : Tn} (hk : l[k]? = some t) (hx : x ∈ l.eraseIdx k) : x ∈ l ∧ x.id ≠ t.id := by
  rw [← dropO_at h hk] at hx
  obtain ⟨h1, h2⟩ := List.mem_filter.1 hx
  exact ⟨h1, by simpa using h2⟩
/-- one is open no more -/
theorem PpP.dropT {w w' : World} {V : Tag → Value} {g : Nat} {c : Cf} {S : St} (h : PpP w V g c S) {k : Nat} {t : Tn} (hk : S.opn[k]? = some t) {bo n : Nat} {D : DataW Unit} (hbo : V .bo = .map (some bo)) (kk : Kept [g, bo] w w') (hT : Tel D (.int .i64 0) (fO V S.opn)) (ho : w'.ownsMap Tryd.prog 3 ptrElem bo n (D.del (.int .i64 t.id))) {u : Int}
    (hb : Blk w' g 77 [.int .i64 c.pages, .int .i64 c.slots, .int .i64 c.log, .int .i64 c.frames, .int .i64 c.table, .int .i64 c.keys, V .bp, V .bo, .int .i64 u, V .vd]) (hok : OkS c ⟨S.done, S.opn.eraseIdx k, u⟩) : PpP w' V g c ⟨S.done, S.opn.eraseIdx k, u⟩ := by
  have out : ∀ a y, a ≠ .g → a ≠ .bo → blkOf (V a) = some y → y ∉ [g, bo] := fun a y ha ha' hy hm => by
    rcases List.mem_cons.1 hm with e | hm
    · rw [e] at hy
      exact ha (h.inj.inj _ _ _ hy (by rw [h.vg]; rfl))
    · have e : y = bo := by simpa using hm
      rw [e] at hy
      exact ha' (h.inj.inj _ _ _ hy (by rw [hbo]; rfl))
  refine ⟨h.vg, hb, h.pgs.kept kk (fun y hy => out .bp y (by simp) (by simp) (by rw [Row.blkOf h.pgs]; exact hy)), fun p p0 p1 => ?_, ⟨bo, hbo, Mp.of ho ((hT.del t.id).congr fun j => ?_) ?_⟩, fun x hx => ?_, h.done.kept kk (fun y hy => out .vd y (by simp) (by simp) (by rw [Row.blkOf h.done]; exact hy)), fun j l hj => ?_, h.inj.mono kk.size, hok, h.ok2.erase k _ _⟩
  · obtain ⟨b, e2, h2⟩ := h.pg p p0 p1
    exact ⟨b, e2, h2.kept kk (out (.pg p) b (by simp) (by simp) (by rw [e2]; rfl))⟩
  · show _ = fO V (S.opn.eraseIdx k) j
    unfold fO
    rw [ids_erase h.ok.dif hk]
    by_cases q : j = t.id
    · rw [if_pos q, q]; simp
    · rw [if_neg q]; simp [q]
  · refine ⟨List.pairwise_map.2 hok.dif, fun j => ?_, fun j hj => ?_⟩
    · show j ∈ (S.opn.eraseIdx k).map Tn.id ↔ _
      rw [← findO_mem]
      unfold fO
      split <;> simp_all
    · obtain ⟨x, hx, rfl⟩ := List.mem_map.1 hj
      exact h.id64 (mem_erase h.ok.dif hk hx).1
  · have hx' := mem_erase h.ok.dif hk hx
    exact ((h.txs x hx'.1).kept kk (fun a y ha hy => out a y (by intro e; subst e; cases ha) (by intro e; subst e; cases ha) hy)).congr (fun _ _ => rfl) (fun _ _ => rfl)
  · have q := h.dns j l hj
    exact q.kept kk (fun y hy => out (.dn j) y (by simp) (by simp) (by rw [Row.blkOf q]; exact hy))
end Go.Proofs.YtocpagpkpibmaaaDoor

/-
  OWN WORK. The landed plain (layer 18): begin, forget, abort.
-/
namespace Go.Proofs.YtocpagpkpibmaaaDoor
open Go.RowKit Go.Maps
set_option linter.unusedVariables false
set_option linter.unusedSimpArgs false
/-- an error or none, by number -/
def ErOk (n : Int) (v : Value) : Prop := (n = 0 ∧ v = .nilIface) ∨ (n ≠ 0 ∧ ∃ d, d ≤ 2 ∧ Er d v n)
theorem zeroPtr (w : World) : (zeroValue 78).run Tryd.prog w = .ok (.pointer none) w := by
  go_simp
  try rfl
set_option maxRecDepth 20000 in
set_option maxHeartbeats 3200000 in
theorem qBegin {V : Tag → Value} {g : Nat} {c : Cf} {S : St} (id : Int) (w : World) (h : PpP w V g c S) (hi : I64 id) : Calls Tryd.prog 37 #[.pointer (some ⟨g, 0, none⟩), .int .i64 id] w fun e w' => ∃ V' v, e = .returned v ∧ ErOk (begE c S id) v ∧ PpP w' V' g c (begS c S id) ∧ Nx w w' V V' := by
  obtain ⟨bo, e1, D, hO, hT, hK⟩ := h.opn
  have hkey := keyOf_int_mk (P := Tryd.prog) (k := 3) Tryd.underlying3 (wf_of_i64 hi)
  have B := h.box
  rw [e1] at B
  have c7 := B.cell (j := 7) rfl
  have c4 := B.cell (j := 4) rfl
  have h1 := hT.has id hi
  have h2 := hT.atk id hi
  have hszk := size_ks hO hT hK
  obtain ⟨n, hn⟩ : ∃ n, n = (S.opn.map Tn.id).length := ⟨_, rfl⟩
  rw [← hn] at hO
  have hzm : Maps.size D = S.opn.length := by rw [hszk.2, List.length_map]
  have HP := @hideH _ h
  have HT := @hideH _ hT
  have HZ := @hideH _ hi
  clear B hK h hT hszk hn
  cases hf : findO S.opn id with
  | some t =>
    obtain ⟨hm, hid⟩ := findO_some hf
    obtain ⟨x, ex, hb⟩ := (HP.out.txs t hm).box
    rw [hid] at ex
    rw [fO_there hf, ex] at h1 h2
    simp only [Option.isSome_some, Option.getD_some, nOf, blkOf] at h1 h2
    have HE := @hideH _ (show begE c S id = 160 ∧ begS c S id = S by
      have e : begE c S id = 160 := by unfold begE; rw [if_pos (.inr (by rw [hf]; rfl))]
      exact ⟨e, by unfold begS; rw [e, if_neg (by decide)]⟩)
    clear hf hb hm ex
    go_enter Tryd.func37, Tryd.ntmps37
    go_wp2_with (at_lookup; refine wpList_lookup_there w rfl _ _ 75 rfl 3 78 keyL Tryd.underlying75 (zeroPtr _) bo _ D rfl hO _ _ rfl hkey x h1 h2 ?_)
    try go_wp2
    go_ret
    rw [HE.out.1, HE.out.2]
    exact ⟨V, _, by first | rfl | trivial, .inr ⟨by decide, 0, by omega, by first | exact Er.ref 160 | simpa using Er.ref 160⟩, HP.out, Nx.refl V (Kept.refl _ _)⟩
  | none =>
    rw [fO_gone hf] at h1 h2
    simp only [Option.isSome_none, Option.getD_none] at h1 h2
    go_enter Tryd.func37, Tryd.ntmps37
    go_wp2_with (at_lookup; refine wpList_lookup_gone w rfl _ _ 75 rfl 3 78 keyL Tryd.underlying75 (zeroPtr _) bo _ D rfl hO _ _ rfl hkey h1 h2 ?_)
    refine (qWithin _ _ _ _).mono ?_
    rintro e ww ⟨rfl, rfl⟩
    by_cases hisI : isId id
    · have hisd : decide (1 ≤ id ∧ id ≤ 64) = true := decide_eq_true hisI
      rw [hisd]
      have HI := @hideH _ hisI
      clear hisd hisI
      obtain ⟨m, hm⟩ : ∃ m, m = S.opn.length := ⟨_, rfl⟩
      have hlen : ∀ q, (Builtin.len_ #[75] 3 #[.map (some bo)]).run Tryd.prog (ww.drewN q) = .ok (.int .i64 (m : Int)) (ww.drewN q) := fun q => by
        have r := (ownsMap_kept hO ((Kept.refl [] ww).drewN' q) (by simp)).len Tryd.underlying75 3
        rw [hzm, ← hm] at r
        exact r
      have HM := @hideH _ hm
      have HF := @hideH _ hf
      clear hzm hf hm
      by_cases hfull : c.table ≤ (m : Int)
      · have HE := @hideH _ (show begE c S id = 161 ∧ begS c S id = S by
          have e : begE c S id = 161 := by
            unfold begE
            rw [if_neg (by rw [HF.out]; simp [HI.out]), if_pos (by rw [← HM.out]; exact hfull)]
          exact ⟨e, by unfold begS; rw [e, if_neg (by decide)]⟩)
        go_upto_region 4 with fail
        go_quiet (fail)
        go_wp2
        go_ret
        rw [HE.out.1, HE.out.2]
        have kd : Kept [] ww (ww.drewN nq) := (Kept.refl [] ww).drewN' nq
        exact ⟨V, _, by first | rfl | trivial, .inr ⟨by decide, 0, by omega, by first | exact Er.ref 161 | simpa using Er.ref 161⟩, HP.out.then kd, Nx.refl V kd⟩
      · have hfull' : ¬ c.table ≤ (m : Int) := hfull
        go_upto_region 4 with fail
        go_quiet (fail)
        obtain ⟨wd, hwd⟩ : ∃ wx, wx = ww.drewN nq := ⟨_, rfl⟩
        have kd : Kept [] ww wd := by rw [hwd]; exact (Kept.refl [] ww).drewN' nq
        rw [← hwd]
        clear hwd
        have HQ := @hideH _ (qLog 34 99 wd (HP.out.then kd) (by omega) (by omega))
        have HD := @hideH _ (And.intro kd hfull)
        clear hlen c4 c7 kd
        go_wp2_with fail
        refine HQ.out.mono ?_
        clear HQ
        rintro e w1 (⟨hfit, rfl, P1, k1⟩ | ⟨hfit, rfl, k1⟩)
        · have HE := @hideH _ (show begE c S id = 0 ∧ begS c S id = ⟨S.done, S.opn ++ [⟨id, [], [], []⟩], S.used + 34⟩ by
            have e : begE c S id = 0 := by
              unfold begE
              rw [if_neg (by rw [HF.out]; simp [HI.out]), if_neg (by rw [← HM.out]; have := HD.out.2; omega), if_pos hfit]
            exact ⟨e, by unfold begS; rw [e, if_pos rfl]⟩)
          obtain ⟨bo', e1', D', hO', hT', hK'⟩ := P1.opn
          obtain rfl : bo = bo' := by rw [e1] at e1'; simpa using e1'
          have B1 := P1.box
          rw [e1] at B1
          have c7 := B1.cell (j := 7) rfl
          obtain ⟨w2, hw2⟩ : ∃ wx, wx = w1.alloc (.map #[] 0) := ⟨_, rfl⟩
          have k2 : Kept [] w1 w2 := by rw [hw2]; exact (Kept.refl [] w1).alloc _
          have m2 : Mp w2 mapElem w1.heap.size (.int .i64 0) (fun _ => none) [] := by rw [hw2]; exact Mp.made w1 _ _
          have z2 : w2.heap.size = w1.heap.size + 1 := by rw [hw2, World.size_alloc]
          obtain ⟨w3, hw3⟩ : ∃ wx, wx = w2.alloc (.cells #[.map (some w1.heap.size), .slice none 0 0, .int .i64 99] 81) := ⟨_, rfl⟩
          have k3 : Kept [] w2 w3 := by rw [hw3]; exact (Kept.refl [] w2).alloc _
          have b3 : Blk w3 (w1.heap.size + 1) 81 [.map (some w1.heap.size), .slice none 0 0, .int .i64 99] := by rw [hw3, ← z2]; exact Blk.new w2 _ _
          have z3 : w3.heap.size = w1.heap.size + 1 + 1 := by rw [hw3, World.size_alloc, z2]
          have hO3 := ownsMap_kept hO' (k2.then k3) (by simp)
          have hmk : (Instr.makeMap 79 none).run Tryd.prog w1 = .ok (.map (some w1.heap.size)) w2 := by rw [hw2]; rfl
          have hlt := hO'.lt
          obtain ⟨n', hn'⟩ : ∃ n', n' = (S.opn.map Tn.id).length := ⟨_, rfl⟩
          have hO3' : w3.ownsMap Tryd.prog 3 ptrElem bo n' D' := by rw [hn']; exact hO3
          have hn8 : n' < maxLen := by rw [hn', List.length_map]; have := P1.ok.lenN; unfold maxLen; show S.opn.length < _; have : S.opn.length ≤ 8 := P1.ok.lenN; omega
          have hval := ptrElem_some (w1.heap.size + 1)
          have HB := @hideH _ (And.intro P1 (And.intro hT' (And.intro (k2.then k3) (And.intro (m2.kept k3 (by simp)) (And.intro b3 (And.intro z3 (And.intro hlt (And.intro k1 hfit))))))))
          have HO := @hideH _ hO3
          clear P1 hT' hK' hO' hO3 B1 k1 k2 k3 m2 b3 hn' hfit hw2
          have hw3' : w2.alloc (.cells #[.map (some w1.heap.size), .slice none 0 0, .int .i64 99] 81) = w3 := hw3.symm
          have z2' : w2.heap.size = w1.heap.size + 1 := z2
          clear hw3 z2
          go_wp2_with (at_mapUpdate; (try rw [hw3']); (try rw [z2']); refine wpList_mapUpdate_own _ rfl _ _ _ 75 rfl 3 78 keyL Tryd.underlying75 _ bo n' D' rfl hO3' hn8 _ _ _ rfl rfl hkey _ [] hval ?_; intro w4 o4 hg4)
          try go_wp2
          go_ret
          have k4 : Kept [bo] w3 w4 := (Kept.refl _ w3).grown hg4 (fun k hk => .inl (by cases hk; simp))
          have hne3 : w1.heap.size ≠ bo := by have := HB.out.2.2.2.2.2.2.1; omega
          have hsz4 := k4.size
          have kb : Kept [bo] w1 w4 := (HB.out.2.2.1.mono (T := [bo]) (by simp)).trans k4 (fun x hx => .inl hx)
          have hfo : fitsS c S 34 99 = true := HB.out.2.2.2.2.2.2.2.2
          have hok : OkS c ⟨S.done, S.opn ++ [⟨id, [], [], []⟩], S.used + 34⟩ := by
            have q := HP.out.ok.beg id
            rw [HE.out.2] at q
            exact q
          obtain ⟨V', p', n''⟩ := HB.out.1.addT (id := id) (x := w1.heap.size + 1) (hb := w1.heap.size) HF.out e1 ⟨by omega, by have := HB.out.2.2.2.2.2.1; omega⟩ ⟨by omega, by have := HB.out.2.2.2.2.2.1; omega⟩ (by omega) kb HB.out.2.1 HO.out.isMap o4 (HB.out.2.2.2.2.1.kept k4 (by have := HB.out.2.2.2.2.2.2.1; simp; omega)) (HB.out.2.2.2.1.kept k4 (by simp [hne3])) hok
          refine ⟨V', .nilIface, by first | rfl | trivial, .inl ⟨HE.out.1, rfl⟩, by rw [HE.out.2]; exact p', ?_⟩
          have nx1 : Nx ww w1 V V := Nx.same ((HD.out.1.mono (T := [g]) (by simp)).trans HB.out.2.2.2.2.2.2.2.1 (fun x hx => .inl hx)) (fun x hx => ⟨.g, by rw [HP.out.vg]; simp at hx; rw [hx]; rfl⟩)
          exact nx1.trans ⟨n'', [bo], kb, fun x hx => ⟨.bo, by rw [e1]; simp at hx; rw [hx]; rfl⟩⟩
        · have HE := @hideH _ (show begE c S id = 170 ∧ begS c S id = S by
            have e : begE c S id = 170 := by
              unfold begE
              rw [if_neg (by rw [HF.out]; simp [HI.out]), if_neg (by rw [← HM.out]; have := HD.out.2; omega), if_neg (by rw [show fitsS c S 34 99 = false from hfit]; decide)]
            exact ⟨e, by unfold begS; rw [e, if_neg (by decide)]⟩)
          have HK := @hideH _ (HD.out.1.then k1)
          clear k1 hfit
          go_wp2_with fail
          refine (qWrap _ _ _ _).mono ?_
          rintro e wv ⟨rfl, rfl⟩
          go_wp2
          go_ret
          rw [HE.out.1, HE.out.2]
          exact ⟨V, _, by first | rfl | trivial, .inr ⟨by decide, 1, by omega, by first | exact Er.wrap _ (Er.ref 170) | simpa using Er.wrap _ (Er.ref 170)⟩, HP.out.then HK.out, Nx.refl V HK.out⟩
    · have hisd : decide (1 ≤ id ∧ id ≤ 64) = false := decide_eq_false hisI
      rw [hisd]
      have HE := @hideH _ (show begE c S id = 160 ∧ begS c S id = S by
        have e : begE c S id = 160 := by unfold begE; rw [if_pos (.inl hisI)]
        exact ⟨e, by unfold begS; rw [e, if_neg (by decide)]⟩)
      clear hisd hf hisI
      try go_wp2
      go_ret
      rw [HE.out.1, HE.out.2]
      exact ⟨V, _, by first | rfl | trivial, .inr ⟨by decide, 0, by omega, by first | exact Er.ref 160 | simpa using Er.ref 160⟩, HP.out, Nx.refl V (Kept.refl _ _)⟩
end Go.Proofs.YtocpagpkpibmaaaDoor

/-
  OWN WORK (by mkpp3.py). The landed plain (layer 18): forget, abort.
-/
namespace Go.Proofs.YtocpagpkpibmaaaDoor
open Go.RowKit Go.Maps
set_option linter.unusedVariables false
set_option linter.unusedSimpArgs false
set_option maxRecDepth 20000 in
set_option maxHeartbeats 3200000 in
theorem qForget {V : Tag → Value} {g : Nat} {c : Cf} {S : St} {k : Nat} {t : Tn} {x : Nat} (w : World) (h : PpP w V g c S) (hk : S.opn[k]? = some t) (hx : V (.tx t.id) = .pointer (some ⟨x, 0, none⟩)) : Calls Tryd.prog 59 #[.pointer (some ⟨g, 0, none⟩), .int .i64 t.id, .pointer (some ⟨x, 0, none⟩)] w fun e w' => e = .returned (.tuple #[]) ∧ PpP w' V g c ⟨S.done, S.opn.eraseIdx k, S.used + 66 + sumL t.lens⟩ ∧ Nx w w' V V := by
  have hm := List.mem_of_getElem? hk
  obtain ⟨bo, e1, D, hO, hT, hK⟩ := h.opn
  have hkey := keyOf_int_mk (P := Tryd.prog) (k := 3) Tryd.underlying3 (wf_of_i64 (h.id64 hm))
  obtain ⟨x', ex, hb⟩ := (h.txs t hm).box
  obtain rfl : x = x' := by rw [hx] at ex; simpa using ex
  have B := h.box
  have B' := B
  rw [e1] at B'
  have c8 := B'.cell (j := 8) rfl
  have c7 := B'.cell (j := 7) rfl
  have ck := hb.cell (j := 2) rfl
  have hone := h.ok.one hk
  have hkp := h.ok.kept
  have hlw := h.ok.low
  obtain ⟨u, hu⟩ : ∃ u, u = S.used := ⟨_, rfl⟩
  obtain ⟨kt, hkt⟩ : ∃ kt, kt = t.kept := ⟨_, rfl⟩
  have hktv : kt = 99 + sumL t.lens := hkt
  rw [← hu] at c8 B hkp hlw
  rw [← hkt] at ck
  have wv1 : IntKind.i64.wrap (kt - 33) = kt - 33 := wrap_i64_of (by omega) (by omega)
  have wv2 : IntKind.i64.wrap (u + (kt - 33)) = u + (kt - 33) := wrap_i64_of (by omega) (by omega)
  have HP := @hideH _ h
  have hok : OkS c ⟨S.done, S.opn.eraseIdx k, u + (kt - 33)⟩ := by
    have q := h.ok.undo hk
    rw [show u + (kt - 33) = S.used + 66 + sumL t.lens by omega]
    exact q
  have HOK := @hideH _ (And.intro hok (show u + (kt - 33) = S.used + 66 + sumL t.lens by omega))
  obtain ⟨n, hn⟩ : ∃ n, n = (S.opn.map Tn.id).length := ⟨_, rfl⟩
  rw [← hn] at hO
  have HT := @hideH _ hT
  obtain ⟨w6, hw6⟩ : ∃ wx, wx = w.drew := ⟨_, rfl⟩
  have k6 : Kept [] w w6 := by rw [hw6]; exact (Kept.refl [] w).drew
  have B6 := B.kept k6 (by simp)
  have hS : (fun w' : World => w'.cell? ⟨g, 8, none⟩ = some (.int .i64 u) ∧ w'.cell? ⟨x, 2, none⟩ = some (.int .i64 kt)) w6 := ⟨k6.cell c8 (by simp), k6.cell ck (by simp)⟩
  have c8' := B6.cell (j := 8) rfl
  have f8' := B6.free 8
  obtain ⟨w9, hw9⟩ : ∃ wx, wx = w6.setCell ⟨g, 8, none⟩ (.int .i64 (u + (kt - 33))) := ⟨_, rfl⟩
  obtain ⟨B9, k9⟩ := B6.set 8 (.int .i64 (u + (kt - 33)))
  rw [← hw9] at B9 k9
  have k69 := (k6.mono (T := [g]) (by simp)).trans k9 (fun x hx => .inl hx)
  have hgb : g ≠ bo := fun e => by
    have := h.inj.inj .g .bo g (by rw [h.vg]; rfl) (by rw [e1, e]; rfl)
    cases this
  have B9' := B9
  simp only [e1] at B9'
  have c7' := B9'.cell (j := 7) (v := .map (some bo)) rfl
  have hO9 := ownsMap_kept hO k69 (by simpa using Ne.symm hgb)
  have HB := @hideH _ (And.intro B9 k69)
  try dsimp only at hS
  clear B B' B6 B9 B9' hb hone hkp hlw hktv hok hK hT h hn hu hkt k6 k9 k69 c8 c7 ck c8' hO
  go_enter Tryd.func59, Tryd.ntmps59
  go_upto_region 0 with fail
  refine wp_region_late (fun w' => w'.cell? ⟨g, 8, none⟩ = some (.int .i64 u) ∧ w'.cell? ⟨x, 2, none⟩ = some (.int .i64 kt)) 12 (by kernel_rfl) ?_
  rw [← hw6]
  clear hw6
  refine wpAnyZ_take 0 (v := ?va0_1) rfl (by kernel_rfl) (by kernel_rfl) (by kernel_rfl) (by kernel_rfl) (fun _ _ _ h => h) (by rfl) ?hya0_1 hS ?resta0_1
  case hya0_1 => (intro wx hSx; obtain ⟨s1, s2⟩ := hSx; go_simp; (try with_reducible rfl))
  (try simp only [Act.put, List.getElem_toArray, List.getElem_cons_zero, List.getElem_cons_succ, List.setIfInBounds_toArray, List.set_cons_zero, List.set_cons_succ])
  refine wpAnyZ_take 1 (v := ?va1_2) rfl (by kernel_rfl) (by kernel_rfl) (by kernel_rfl) (by kernel_rfl) (fun _ _ _ h => h) (by rfl) ?hya1_2 hS ?resta1_2
  case hya1_2 => (intro wx hSx; obtain ⟨s1, s2⟩ := hSx; go_simp; (try with_reducible rfl))
  (try simp only [Act.put, List.getElem_toArray, List.getElem_cons_zero, List.getElem_cons_succ, List.setIfInBounds_toArray, List.set_cons_zero, List.set_cons_succ])
  refine wpAnyZ_take 2 (v := ?va2_3) rfl (by kernel_rfl) (by kernel_rfl) (by kernel_rfl) (by kernel_rfl) (fun _ _ _ h => h) (by rfl) ?hya2_3 hS ?resta2_3
  case hya2_3 => (intro wx hSx; obtain ⟨s1, s2⟩ := hSx; go_simp; (try with_reducible rfl))
  (try simp only [Act.put, List.getElem_toArray, List.getElem_cons_zero, List.getElem_cons_succ, List.setIfInBounds_toArray, List.set_cons_zero, List.set_cons_succ])
  refine wpAnyZ_take 3 (v := ?va3_4) rfl (by kernel_rfl) (by kernel_rfl) (by kernel_rfl) (by kernel_rfl) (fun _ _ _ h => h) (by rfl) ?hya3_4 hS ?resta3_4
  case hya3_4 => (intro wx hSx; obtain ⟨s1, s2⟩ := hSx; go_simp; (try with_reducible rfl))
  (try simp only [Act.put, List.getElem_toArray, List.getElem_cons_zero, List.getElem_cons_succ, List.setIfInBounds_toArray, List.set_cons_zero, List.set_cons_succ])
  refine wpAnyZ_take 4 (v := ?va4_5) rfl (by kernel_rfl) (by kernel_rfl) (by kernel_rfl) (by kernel_rfl) (fun _ _ _ h => h) (by rfl) ?hya4_5 hS ?resta4_5
  case hya4_5 => (intro wx hSx; obtain ⟨s1, s2⟩ := hSx; go_simp; (try with_reducible rfl))
  (try simp only [Act.put, List.getElem_toArray, List.getElem_cons_zero, List.getElem_cons_succ, List.setIfInBounds_toArray, List.set_cons_zero, List.set_cons_succ])
  refine wpAnyZ_take 5 (v := ?va5_6) rfl (by kernel_rfl) (by kernel_rfl) (by kernel_rfl) (by kernel_rfl) (fun _ _ _ h => h) (by rfl) ?hya5_6 hS ?resta5_6
  case hya5_6 => (intro wx hSx; obtain ⟨s1, s2⟩ := hSx; go_simp; (try with_reducible rfl))
  (try simp only [Act.put, List.getElem_toArray, List.getElem_cons_zero, List.getElem_cons_succ, List.setIfInBounds_toArray, List.set_cons_zero, List.set_cons_succ])
  refine wpAnyZ_take 6 (v := ?va6_7) rfl (by kernel_rfl) (by kernel_rfl) (by kernel_rfl) (by kernel_rfl) (fun _ _ _ h => h) (by rfl) ?hya6_7 hS ?resta6_7
  case hya6_7 => (intro wx hSx; obtain ⟨s1, s2⟩ := hSx; go_simp; (try with_reducible rfl))
  (try simp only [Act.put, List.getElem_toArray, List.getElem_cons_zero, List.getElem_cons_succ, List.setIfInBounds_toArray, List.set_cons_zero, List.set_cons_succ])
  refine wpAnyZ_take 7 (v := ?va7_8) rfl (by kernel_rfl) (by kernel_rfl) (by kernel_rfl) (by kernel_rfl) (fun _ _ _ h => h) (by rfl) ?hya7_8 hS ?resta7_8
  case hya7_8 => (intro wx hSx; obtain ⟨s1, s2⟩ := hSx; go_simp; (try with_reducible rfl))
  (try simp only [Act.put, List.getElem_toArray, List.getElem_cons_zero, List.getElem_cons_succ, List.setIfInBounds_toArray, List.set_cons_zero, List.set_cons_succ])
  refine wpAnyZ_take 8 (v := ?va8_9) rfl (by kernel_rfl) (by kernel_rfl) (by kernel_rfl) (by kernel_rfl) (fun _ _ _ h => h) (by rfl) ?hya8_9 hS ?resta8_9
  case hya8_9 => (intro wx hSx; obtain ⟨s1, s2⟩ := hSx; go_simp; (try with_reducible rfl))
  (try simp only [Act.put, List.getElem_toArray, List.getElem_cons_zero, List.getElem_cons_succ, List.setIfInBounds_toArray, List.set_cons_zero, List.set_cons_succ])
  refine wpAnyZ_take 9 (v := ?va9_10) rfl (by kernel_rfl) (by kernel_rfl) (by kernel_rfl) (by kernel_rfl) (fun _ _ _ h => h) (by rfl) ?hya9_10 hS ?resta9_10
  case hya9_10 => (intro wx hSx; obtain ⟨s1, s2⟩ := hSx; go_simp; (try with_reducible rfl))
  (try simp only [Act.put, List.getElem_toArray, List.getElem_cons_zero, List.getElem_cons_succ, List.setIfInBounds_toArray, List.set_cons_zero, List.set_cons_succ])
  refine wpAnyZ_one 10 rfl (by kernel_rfl) (fun K hK => ?_)
  go_simp
  refine hK _ _ (fun _ => hS) ?_
  clear hK K
  (try simp only [Act.put, List.getElem_toArray, List.getElem_cons_zero, List.getElem_cons_succ, List.setIfInBounds_toArray, List.set_cons_zero, List.set_cons_succ])
  refine wpAnyZ_one 11 rfl (by kernel_rfl) (fun K hK => ?_)
  go_simp
  refine hK _ _ (fun _ => hS) ?_
  clear hK K
  (try simp only [Act.put, List.getElem_toArray, List.getElem_cons_zero, List.getElem_cons_succ, List.setIfInBounds_toArray, List.set_cons_zero, List.set_cons_succ])
  refine wpAnyZ_one 12 rfl (by kernel_rfl) (fun K hK => ?_)
  go_simp
  refine hK _ _ (fun h => absurd rfl h) ?_
  clear hK K
  (try simp only [Act.put, List.getElem_toArray, List.getElem_cons_zero, List.getElem_cons_succ, List.setIfInBounds_toArray, List.set_cons_zero, List.set_cons_succ])
  refine wpAnyZ_done (by kernel_rfl) ?_ _
  rw [← hw9]
  clear hw9 hS f8'
  go_wp2_with (at_delete; refine wpList_delete_own _ rfl _ _ 75 3 rfl 78 keyL Tryd.underlying75 _ bo n D rfl hO9 _ _ rfl hkey ?_; intro w10 o10 ht10)
  try go_wp2
  go_end0
  have k10 : Kept [bo] w9 w10 := (Kept.refl _ w9).grown ht10.grown (fun k hk => .inl (by cases hk; simp))
  have kk : Kept [g, bo] w w10 := (HB.out.2.mono (T := [g, bo]) (by simp)).trans (k10.mono (T := [g, bo]) (by simp)) (fun x hx => .inl hx)
  have hp := HP.out.dropT hk e1 kk HT.out o10 (u := u + (kt - 33)) (HB.out.1.kept k10 (by simpa using hgb)) HOK.out.1
  rw [HOK.out.2] at hp
  refine ⟨by first | rfl | trivial, hp, Nx.same kk (fun y hy => ?_)⟩
  rcases List.mem_cons.1 hy with e | hy
  · exact ⟨.g, by rw [HP.out.vg, e]; rfl⟩
  · exact ⟨.bo, by rw [e1, show y = bo by simpa using hy]; rfl⟩
theorem PpP.idx {w : World} {V : Tag → Value} {g : Nat} {c : Cf} {S : St} (h : PpP w V g c S) {id : Int} {t : Tn} (hf : findO S.opn id = some t) : ∃ k : Nat, S.opn[k]? = some t := List.getElem?_of_mem (findO_some hf).1
set_option maxRecDepth 20000 in
set_option maxHeartbeats 3200000 in
theorem qAbort {V : Tag → Value} {g : Nat} {c : Cf} {S : St} (id : Int) (w : World) (h : PpP w V g c S) (hi : I64 id) : Calls Tryd.prog 44 #[.pointer (some ⟨g, 0, none⟩), .int .i64 id] w fun e w' => ∃ V' v, e = .returned v ∧ ErOk (endE S id) v ∧ PpP w' V' g c (aboS S id) ∧ Nx w w' V V' := by
  have HP := @hideH _ h
  have HF := @hideH _ (qFind id w h hi)
  clear h
  go_enter Tryd.func44, Tryd.ntmps44
  go_wp2_with fail
  refine HF.out.mono ?_
  clear HF
  rintro e wf ⟨rfl, ⟨hf, rfl⟩ | ⟨t, x, hf, hx, rfl⟩⟩
  · have HE := @hideH _ (And.intro (abo_none hf).1 (abo_none hf).2.1)
    clear hf
    go_wp2_with fail
    refine (qWrap _ _ _ _).mono ?_
    rintro e wv ⟨rfl, rfl⟩
    go_wp2
    go_ret
    rw [HE.out.1, HE.out.2]
    exact ⟨V, _, by first | rfl | trivial, .inr ⟨by decide, 1, by omega, by first | exact Er.wrap _ (Er.ref 160) | simpa using Er.wrap _ (Er.ref 160)⟩, HP.out, Nx.refl V (Kept.refl _ _)⟩
  · obtain ⟨k, hk⟩ := HP.out.idx hf
    have hid := (findO_some hf).2
    have HE := @hideH _ (abo_some HP.out.ok hk hf)
    have HQ := @hideH _ (qForget wf HP.out hk (by rw [hid]; exact hx))
    rw [hid] at HQ
    clear hf
    go_wp2_with fail
    refine HQ.out.mono ?_
    rintro e w2 ⟨rfl, hp, hn⟩
    have HN := @hideH _ (And.intro hp hn)
    clear hp hn HQ
    go_wp2
    go_ret
    rw [HE.out.1, HE.out.2.1]
    exact ⟨V, _, by first | rfl | trivial, .inl ⟨rfl, by first | rfl | trivial⟩, HN.out.1, HN.out.2⟩
end Go.Proofs.YtocpagpkpibmaaaDoor

/-
  OWN WORK. The landed plain (layer 18): how its State lies behind a page that one holds, and behind a change; get.
-/
namespace Go.Proofs.YtocpagpkpibmaaaDoor
open Go.RowKit Go.Maps
set_option linter.unusedVariables false
set_option linter.unusedSimpArgs false
theorem PpP.hold {w w' : World} {V : Tag → Value} {g : Nat} {c : Cf} {S : St} (h : PpP w V g c S) {k : Nat} {t t' : Tn} (hk : S.opn[k]? = some t) {p : Int} (hid : t'.id = t.id) (hpg : t'.pages = (heldT t p).pages) {x hd b n N1 : Nat} {D : DataW Unit} {vc : Value} {X : List Nat}
    (ex : V (.tx t.id) = .pointer (some ⟨x, 0, none⟩)) (ehd : V (.hd t.id) = .map (some hd)) (hb : (p ∈ t.pages ∧ V (.ow t.id p) = .map (some b)) ∨ (p ∉ t.pages ∧ w.heap.size ≤ b ∧ b < N1)) (hN : w.heap.size ≤ N1 ∧ N1 ≤ w'.heap.size)
    (kk : Kept X w w') {u : Int} (hbg : Blk w' g 77 [.int .i64 c.pages, .int .i64 c.slots, .int .i64 c.log, .int .i64 c.frames, .int .i64 c.table, .int .i64 c.keys, V .bp, V .bo, .int .i64 u, V .vd]) (hX : ∀ y ∈ X, w.heap.size ≤ y ∨ y = g ∨ blkOf (V (.tx t.id)) = some y ∨ blkOf (V (.hd t.id)) = some y ∨ blkOf (V (.ch t.id)) = some y ∨ blkOf (V (.ow t.id p)) = some y)
    (hvc : ∀ y, blkOf vc = some y → (N1 ≤ y ∧ y < w'.heap.size) ∨ blkOf (V (.ch t.id)) = some y) (hbx : Blk w' x 81 [.map (some hd), vc, .int .i64 t'.kept]) (hcs : Cs w' 0 vc t'.chs)
    (hT : Tel D (.int .i64 0) (fH V t)) (hD : Maps.IsMap D) (ho : w'.ownsMap Tryd.prog 3 mapElem hd n (D.put (.int .i64 p) (.lit (.int .i64 ((b : Int) + 1))))) (hv : Vm w' b (pgT c S t' p)) (hq : ∀ q ∈ t.pages, q ≠ p → pgT c S t' q = pgT c S t q)
    (hok : OkS c ⟨S.done, S.opn.set k t', u⟩) (hok2 : Ok2 c ⟨S.done, S.opn.set k t', u⟩) : ∃ V', PpP w' V' g c ⟨S.done, S.opn.set k t', u⟩ ∧ ∀ a y, blkOf (V' a) = some y → (∃ d, blkOf (V d) = some y) ∨ w.heap.size ≤ y := by
  have hm := List.mem_of_getElem? hk
  have hmem' : t' ∈ S.opn.set k t' := List.mem_set (List.getElem?_eq_some_iff.1 hk).1 _
  obtain ⟨V', hV'⟩ : ∃ V', V' = upd (upd V (.ow t.id p) (.map (some b))) (.ch t.id) vc := ⟨_, rfl⟩
  have hother : ∀ a, a ≠ .ow t.id p → a ≠ .ch t.id → V' a = V a := fun a h1 h2 => by rw [hV', upd_other h2, upd_other h1]
  have eow : V' (.ow t.id p) = .map (some b) := by rw [hV', upd_other (by simp), upd_same]
  have ech : V' (.ch t.id) = vc := by rw [hV', upd_same]
  have i1 : Inj N1 (upd V (.ow t.id p) (.map (some b))) := h.inj.upd hN.1 (fun y hy => by
    cases hy
    rcases hb with ⟨-, e⟩ | ⟨-, e⟩
    · exact .inr (by rw [e]; rfl)
    · exact .inl e)
  have hinj : Inj w'.heap.size V' := by
    rw [hV']
    refine i1.upd hN.2 (fun y hy => ?_)
    rcases hvc y hy with q | q
    · exact .inl q
    · exact .inr (by rw [upd_other (by simp)]; exact q)
  have hTx : TxP w' V' c S t' := by
    have e1 : V' (.tx t'.id) = V (.tx t.id) := by rw [hid]; exact hother _ (by simp) (by simp)
    have e2 : V' (.hd t'.id) = V (.hd t.id) := by rw [hid]; exact hother _ (by simp) (by simp)
    have mem' : ∀ q, q ∈ t'.pages ↔ q ∈ t.pages ∨ q = p := fun q => by rw [hpg]; exact mem_held
    refine ⟨⟨x, by rw [e1]; exact ex, by rw [e2, ehd, hid, ech]; exact hbx⟩, ⟨hd, by rw [e2]; exact ehd, Mp.of ho ((hT.put hD p (.int .i64 ((b : Int) + 1))).congr fun q => ?_) ?_⟩, by rw [hid, ech]; exact hcs, fun q hq' => ?_⟩
    · unfold fH
      by_cases e : q = p
      · rw [if_pos e, if_pos ((mem' q).2 (.inr e)), e, hid, eow]; rfl
      · rw [if_neg e, hid, hother (.ow t.id q) (by simp [e]) (by simp)]
        by_cases r : q ∈ t.pages
        · rw [if_pos r, if_pos ((mem' q).2 (.inl r))]
        · rw [if_neg r, if_neg (fun s => by rcases (mem' q).1 s with s | s; exact r s; exact e s)]
    · have ot := hok.tns t' hmem'
      refine ⟨ot.pgs.1, fun q => ?_, fun q hq' => ?_⟩
      · unfold fH
        split <;> simp_all
      · have := ot.pgs.2 q hq'; have := h.ok.may.1; exact ⟨by omega, by omega⟩
    · by_cases e : q = p
      · subst e
        exact ⟨b, by rw [hid]; exact eow, hv⟩
      · rcases (mem' q).1 hq' with r | r
        · obtain ⟨o, e3, h3⟩ := (h.txs t hm).own q r
          refine ⟨o, by rw [hid, hother (.ow t.id q) (by simp [e]) (by simp)]; exact e3, ?_⟩
          rw [hq q r e]
          refine h3.kept kk (fun hy => ?_)
          have e4 : blkOf (V (.ow t.id q)) = some o := by rw [e3]; rfl
          rcases hX o hy with s | s | s | s | s | s
          · have := h3.lt; omega
          · rw [s] at e4; have := h.inj.inj _ _ _ e4 (show blkOf (V .g) = some g by rw [h.vg]; rfl); cases this
          · have := h.inj.inj _ _ _ e4 s; cases this
          · have := h.inj.inj _ _ _ e4 s; cases this
          · have := h.inj.inj _ _ _ e4 s; cases this
          · have := h.inj.inj _ _ _ e4 s; simp at this; exact e this
        · exact absurd r e
  refine ⟨V', h.setT hk hid kk (fun y hy => ?_) (fun a ha => hother a (by intro e; subst e; simp [ofT] at ha) (by intro e; subst e; simp [ofT] at ha)) (hbg := hbg) (hother _ (by simp) (by simp)) hTx hinj hok hok2, fun a y ha => ?_⟩
  · rcases hX y hy with s | s | s | s | s | s
    · exact .inl s
    · exact .inr (.inl s)
    · exact .inr (.inr ⟨.tx t.id, by simp [ofT], s⟩)
    · exact .inr (.inr ⟨.hd t.id, by simp [ofT], s⟩)
    · exact .inr (.inr ⟨.ch t.id, by simp [ofT], s⟩)
    · exact .inr (.inr ⟨.ow t.id p, by simp [ofT], s⟩)
  · rw [hV'] at ha
    unfold upd at ha
    split at ha
    · rcases hvc y ha with q | q
      · exact .inr (by omega)
      · exact .inl ⟨_, q⟩
    · split at ha
      · cases ha
        rcases hb with ⟨-, e⟩ | ⟨-, e⟩
        · exact .inl ⟨.ow t.id p, by rw [e]; rfl⟩
        · exact .inr e.1
      · exact .inl ⟨a, ha⟩
theorem ask_busy {c : Cf} {S : St} {id key : Int} (h : askE c S id key = 0) : busy S.opn id (key % c.pages) = false := by
  unfold askE at h
  split at h
  · cases h
  · split at h
    · cases h
    · split at h
      · cases h
      · rename_i q; simpa using q
theorem pgT_len {c : Cf} {S : St} {k : Nat} {t : Tn} (hk : S.opn[k]? = some t) (p : Int) (hs : small S) : (pgT c S t p).length ≤ 3600000000000 := by
  have e1 : (pgT c S t p).length ≤ (foldE (foldL S.done) t.chs).length := List.length_filter_le _ _
  have e2 := foldE_len t.chs (foldL S.done)
  have e3 := foldL_len S.done []
  have e4 := chsN_at hk
  unfold small cnt at hs
  have e5 : (foldL S.done).length ≤ S.done.flatten.length := by unfold foldL; simpa using e3
  omega
theorem zeroMap (w : World) : (zeroValue 59).run Tryd.prog w = .ok (.map none) w := by
  go_simp
  try rfl
theorem zeroU64 (w : World) : (zeroValue 49).run Tryd.prog w = .ok (.int .u64 0) w := by
  go_simp
  try rfl
/-- what a map of values tells of a key -/
theorem Vm.look {w : World} {b : Nat} {l : List (Int × Int)} (h : Vm w b l) {key : Int} (hi : I64 key) : ∃ (n : Nat) (D : DataW Unit), w.ownsMap Tryd.prog 3 (plainElem Tryd.prog 49) b n D ∧ Maps.has D (.int .i64 key) = (pairO (lookE l key)).2 ∧ D.atKey (.int .i64 key) (.lit (.int .u64 0)) = .lit (.int .u64 (pairO (lookE l key)).1) ∧ Maps.size D = l.length := by
  obtain ⟨⟨D, hO, hT, hK⟩, hr⟩ := h
  refine ⟨_, D, hO, ?_, ?_, by rw [(size_ks hO hT hK).2, List.length_map]⟩
  · rw [hT.has key hi, fV_isSome]
    cases lookE l key <;> rfl
  · rw [hT.atk key hi]
    unfold fV
    cases lookE l key <;> rfl
set_option maxRecDepth 20000 in
set_option maxHeartbeats 3200000 in
theorem qGet {V : Tag → Value} {g : Nat} {c : Cf} {S : St} (id key : Int) (w : World) (h : PpP w V g c S) (hs : small S) (hi : I64 id) (hk : I64 key) : Calls Tryd.prog 39 #[.pointer (some ⟨g, 0, none⟩), .int .i64 id, .int .i64 key] w fun e w' => ∃ V' v, e = .returned (.tuple #[.int .u64 (getA c S id key).1, .bool (getA c S id key).2.1, v]) ∧ ErOk (getA c S id key).2.2 v ∧ PpP w' V' g c (getS c S id key) ∧ Nx w w' V V' := by
  have HP := @hideH _ h
  have HQ := @hideH _ (qAsk id key w h hi hk)
  have HS := @hideH _ hs
  have hkey := keyOf_int_mk (P := Tryd.prog) (k := 3) Tryd.underlying3 (wf_of_i64 hk)
  clear h hs
  go_enter Tryd.func39, Tryd.ntmps39
  go_wp2_with fail
  refine HQ.out.mono ?_
  clear HQ
  rintro e w1 ⟨k1, ⟨ha, rfl⟩ | ⟨ha, t, x, hf, hx, rfl⟩⟩
  · have HE := @hideH _ (And.intro ha (get_no ha))
    have HK := @hideH _ k1
    clear ha k1
    obtain ⟨E, hE⟩ : ∃ E, E = askE c S id key := ⟨_, rfl⟩
    rw [← hE] at HE
    have HEE := @hideH _ hE
    simp only [← hE]
    clear hE
    go_wp2_with fail
    refine (qWrap _ _ _ _).mono ?_
    rintro e wv ⟨rfl, rfl⟩
    go_wp2
    go_ret3
    rw [HE.out.2.1, HE.out.2.2]
    exact ⟨V, _, by first | rfl | trivial, .inr ⟨HE.out.1, 1, by omega, Er.wrap _ (Er.ref E)⟩, HP.out.then HK.out, Nx.refl V HK.out⟩
  · obtain ⟨kx, hkx⟩ := HP.out.idx hf
    obtain ⟨hm, hid⟩ := findO_some hf
    have hpr := ask_page HP.out.ok ha
    have P1 := HP.out.then k1
    obtain ⟨pg, hpg⟩ : ∃ pg, pg = key % c.pages := ⟨_, rfl⟩
    have HSN := @hideH _ (qSeen (x := x) pg w1 P1 hm (by rw [hid]; exact hx) (by rw [hpg]; exact hpr.2) (pgT_len hkx pg HS.out))
    have HG := @hideH _ (get_yes HP.out.ok ha hkx hf)
    have HB := @hideH _ (ask_busy ha)
    have HX := @hideH _ (And.intro hkx (And.intro hm (And.intro hid (And.intro hx (And.intro hpg (And.intro k1 (And.intro hpr hf)))))))
    have hpi : I64 pg := by have := HP.out.ok.may.1; exact ⟨by omega, by omega⟩
    have hkeyp := keyOf_int_mk (P := Tryd.prog) (k := 3) Tryd.underlying3 (wf_of_i64 hpi)
    rw [← hpg]
    clear ha hkx hm hid hx k1 hpr hf P1 hpg
    go_wp2_with fail
    refine HSN.out.mono ?_
    clear HSN
    rintro e w2 ⟨k2, b, rfl, hv, hbb⟩
    have k12 := HX.out.2.2.2.2.2.1.then k2
    have P2 := HP.out.then k12
    have T2 := P2.txs t HX.out.2.1
    obtain ⟨x', ex, hbx⟩ := T2.box
    obtain ⟨hd, ehd, D, hO, hT, hK⟩ := T2.hd
    have exx : V (.tx t.id) = .pointer (some ⟨x, 0, none⟩) := by rw [HX.out.2.2.1]; exact HX.out.2.2.2.1
    obtain rfl : x = x' := by rw [exx] at ex; simpa using ex
    rw [ehd] at hbx
    have c0 := hbx.cell (j := 0) rfl
    have hn : t.pages.length < maxLen := by have := (HP.out.ok.few HX.out.1).2.2; unfold maxLen; omega
    have hval := mapElem_some b
    have hne : b ≠ hd := fun e => by
      subst e
      rcases hbb with ⟨q1, q2⟩ | ⟨q1, q2⟩
      · have := HP.out.inj.inj (.ow t.id pg) (.hd t.id) b (by rw [q2]; rfl) (by rw [ehd]; rfl)
        cases this
      · have := (HP.out.then HX.out.2.2.2.2.2.1).inj.lt (.hd t.id) b (by rw [ehd]; rfl); omega
    have HA := @hideH _ (And.intro P2 (And.intro hbx (And.intro hv (And.intro hbb (And.intro k2 (And.intro hT (And.intro hK (And.intro ehd (And.intro T2 (And.intro k12 exx))))))))))
    have HO := @hideH _ hO
    obtain ⟨m, hmm⟩ : ∃ m, m = t.pages.length := ⟨_, rfl⟩
    have hO' : w2.ownsMap Tryd.prog 3 mapElem hd m D := by rw [hmm]; exact hO
    rw [← hmm] at hn
    clear P2 hbx hv hbb k2 hT hK T2 ex k12 ehd hO hmm
    go_upto_region 6 with (at_mapUpdate; refine wpList_mapUpdate_own _ rfl _ _ _ 79 rfl 3 59 keyL Tryd.underlying79 _ hd m D rfl hO' hn _ _ _ rfl rfl hkeyp _ [] hval ?_; intro w3 o3 hg3)
    have k3 : Kept [hd] w2 w3 := (Kept.refl _ w2).grown hg3 (fun k hk => .inl (by cases hk; simp))
    have v3 := HA.out.2.2.1.kept k3 (by simpa using hne)
    obtain ⟨n4, D4, hO4, h4, h5, -⟩ := v3.look hk
    have HR := @hideH _ (show pairO (lookE (pgT c S t pg) key) = seesT S t key by rw [HX.out.2.2.2.2.1]; exact look_pgT)
    rw [HR.out] at h4 h5
    obtain ⟨q, hq⟩ : ∃ q, q = seesT S t key := ⟨_, rfl⟩
    rw [← hq] at h4 h5
    have HQQ := @hideH _ hq
    have HK3 := @hideH _ (And.intro k3 (And.intro v3 (And.intro o3 hne)))
    clear k3 v3 o3 hg3 hne hq c0
    go_wp2_with (at_lookup; refine wpList_lookup_own_ok_int _ rfl _ _ 59 rfl 3 49 .u64 keyL Tryd.underlying59 Tryd.underlying49 (zeroU64 _) b n4 D4 rfl hO4 _ _ rfl hkey ?_; intro cc hcc hwc; (obtain rfl : q.1 = cc := (by rw [h5] at hcc; simpa using hcc)); rw [h4])
    try go_wp2
    go_ret3
    have b3 := HA.out.2.1.kept HK3.out.1 (by
      have : x ≠ hd := fun e => by
        have := HP.out.inj.inj (.tx t.id) (.hd t.id) x (by rw [HA.out.2.2.2.2.2.2.2.2.2.2]; rfl) (by rw [HA.out.2.2.2.2.2.2.2.1, e]; rfl)
        cases this
      simpa using this)
    have hk3 := HK3.out.1
    have hcs3 := HA.out.2.2.2.2.2.2.2.2.1.chs.kept hk3 (fun y hy hyX => by
      have e : y = hd := by simpa using hyX
      rw [e] at hy
      have := HA.out.1.inj.inj (.ch t.id) (.hd t.id) hd (by rw [Row.blkOf HA.out.2.2.2.2.2.2.2.2.1.chs]; exact hy) (by rw [HA.out.2.2.2.2.2.2.2.1]; rfl)
      cases this)
    have hok3 := HP.out.ok.hold HX.out.1 (p := pg) (by rw [HX.out.2.2.2.2.1]; exact HX.out.2.2.2.2.2.2.1.2)
    have hok23 := HP.out.ok2.hold HP.out.ok HX.out.1 (p := pg) (by rw [HX.out.2.2.1, HX.out.2.2.2.2.1]; exact HB.out) S.used
    have k1 := HX.out.2.2.2.2.2.1
    have k2 := HA.out.2.2.2.2.1
    have kk : Kept [hd] w1 w3 := (k2.mono (T := [hd]) (by simp)).trans hk3 (fun x hx => .inl hx)
    obtain ⟨V', p', n'⟩ := (HP.out.then k1).hold (t' := heldT t pg) (p := pg) (x := x) (hd := hd) (b := b) (N1 := w2.heap.size) (vc := V (.ch t.id)) HX.out.1 (heldT_id t pg).1 rfl HA.out.2.2.2.2.2.2.2.2.2.2 HA.out.2.2.2.2.2.2.2.1
      (by
        rcases HA.out.2.2.2.1 with q | ⟨q1, q2⟩
        · exact .inl q
        · exact .inr ⟨q1, q2, HA.out.2.2.1.lt⟩) ⟨k2.size, hk3.size⟩ kk (u := S.used) (hbg := HP.out.box.kept (k1.then k2) (by simp) |>.kept hk3 (by have : g ≠ hd := fun e => (by have := HP.out.inj.inj .g (.hd t.id) g (by rw [HP.out.vg]; rfl) (by rw [HA.out.2.2.2.2.2.2.2.1, e]; rfl); cases this); simpa using this)) (fun y hy => .inr (.inr (.inr (.inl (by have e : y = hd := (by simpa using hy); rw [HA.out.2.2.2.2.2.2.2.1, e]; rfl))))) (fun y hy => .inr hy)
      (by rw [(heldT_id t pg).2.1]; exact b3) (by rw [(heldT_id t pg).2.2.1]; exact hcs3) HA.out.2.2.2.2.2.1 HO.out.isMap HK3.out.2.2.1 (by rw [pgT_held]; exact HK3.out.2.1) (fun q _ _ => pgT_held c S t q pg) hok3 hok23
    rw [HG.out.1, HG.out.2, ← HQQ.out, ← HX.out.2.2.2.2.1]
    refine ⟨V', .nilIface, by first | rfl | simp, .inl ⟨rfl, rfl⟩, p', (Nx.refl V k1).trans ⟨n', [hd], kk, fun y hy => ⟨.hd t.id, by have e : y = hd := (by simpa using hy); rw [HA.out.2.2.2.2.2.2.2.1, e]; rfl⟩⟩⟩
end Go.Proofs.YtocpagpkpibmaaaDoor

/-
  OWN WORK (by mkpp4.py). The landed plain (layer 18): update.
-/
namespace Go.Proofs.YtocpagpkpibmaaaDoor
open Go.RowKit Go.Maps
set_option linter.unusedVariables false
set_option linter.unusedSimpArgs false
theorem snocC (l : List Chg) (x : Chg) : ccells (l ++ [x]) = ccells l ++ [.int .i64 x.key, .int .u64 x.val, .bool x.gone] := by rw [ccells_append]; rfl
theorem srcC {P : Program} (w : World) (t e : TypeId) (ht : P.underlying t = some (.slice e)) (x : Chg) : Src P 3 t (.slice (some ⟨w.heap.size, 0, none⟩) 1 1) 1 [.int .i64 x.key, .int .u64 x.val, .bool x.gone] (w.alloc (.cells #[.int .i64 x.key, .int .u64 x.val, .bool x.gone] e)) := by
  refine Src.ofSlice _ ht _ _ _ _ rfl (fun j u hj => ?_) (fun u hu => ?_)
  · rw [add_none rfl]
    have q := (Blk.new w e [.int .i64 x.key, .int .u64 x.val, .bool x.gone]).cell hj
    simpa using q
  · simp at hu
    rcases hu with rfl | rfl | rfl <;> rfl
set_option maxRecDepth 20000 in
set_option maxHeartbeats 6400000 in
theorem qUpdate {V : Tag → Value} {g : Nat} {c : Cf} {S : St} {k : Nat} {t : Tn} {x : Nat} (y : Chg) (n : Int) (w : World) (h : PpP w V g c S) (hk : S.opn[k]? = some t) (hx : V (.tx t.id) = .pointer (some ⟨x, 0, none⟩)) (hn : 1 ≤ n ∧ n ≤ 16) : Calls Tryd.prog 58 #[.pointer (some ⟨g, 0, none⟩), .pointer (some ⟨x, 0, none⟩), .agg #[.int .i64 y.key, .int .u64 y.val, .bool y.gone], .int .i64 n] w fun e w' => (fitsS c S (38 + 2 * n) (46 + n) = false ∧ (∃ s, e = .returned (.iface 152 (.agg #[.string s, .iface 108 (.int .i64 170)]))) ∧ Kept [] w w') ∨ (fitsS c S (38 + 2 * n) (46 + n) = true ∧ e = .returned .nilIface ∧ ∃ w1 vc, PpP w1 V g c ⟨S.done, S.opn, S.used + (38 + 2 * n)⟩ ∧ Kept [g] w w1 ∧ Kept (x :: (V (.ch t.id)).ownBlock.toList) w1 w' ∧ Blk w' x 81 [V (.hd t.id), vc, .int .i64 (t.kept + (46 + n))] ∧ Cs w' 0 vc (t.chs ++ [y]) ∧ (blkOf vc = blkOf (V (.ch t.id)) ∨ ∃ z, blkOf vc = some z ∧ w1.heap.size ≤ z ∧ z < w'.heap.size)) := by
  have hm := List.mem_of_getElem? hk
  obtain ⟨w0, hw0⟩ : ∃ wx, wx = w.alloc (.cells #[.int .i64 y.key, .int .u64 y.val, .bool y.gone] 56) := ⟨_, rfl⟩
  have k0 : Kept [] w w0 := by rw [hw0]; exact (Kept.refl [] w).alloc _
  have B0 : Blk w0 w.heap.size 56 [.int .i64 y.key, .int .u64 y.val, .bool y.gone] := by rw [hw0]; exact Blk.new w _ _
  have hv1 : IntKind.i64.wrap (2 * n) = 2 * n := wrap_i64_of (by omega) (by omega)
  have hv2 : IntKind.i64.wrap (38 + 2 * n) = 38 + 2 * n := wrap_i64_of (by omega) (by omega)
  have hv3 : IntKind.i64.wrap (46 + n) = 46 + n := wrap_i64_of (by omega) (by omega)
  have HQ := @hideH _ (qLog (38 + 2 * n) (46 + n) w0 (h.then k0) (by omega) (by omega))
  have HP := @hideH _ h
  have HK0 := @hideH _ (And.intro k0 B0)
  have HN := @hideH _ hn
  have HM := @hideH _ (And.intro hm hk)
  clear h k0 B0 hn hm hk
  go_enter Tryd.func58, Tryd.ntmps58
  go_upto_region 1 with fail
  rw [← hw0]
  clear hw0
  go_wp2_with fail
  refine HQ.out.mono ?_
  clear HQ
  rintro e w1 (⟨hfit, rfl, P1, k1⟩ | ⟨hfit, rfl, k1⟩)
  rotate_left
  · have HK := @hideH _ (And.intro hfit (HK0.out.1.then k1))
    clear k1 hfit
    go_wp2_with fail
    refine (qWrap _ _ _ _).mono ?_
    rintro e wv ⟨rfl, rfl⟩
    go_wp2
    go_ret
    exact .inl ⟨HK.out.1, ⟨_, by first | rfl | trivial⟩, HK.out.2⟩
  have T1 := P1.txs t HM.out.1
  obtain ⟨x', ex, hbx⟩ := T1.box
  obtain rfl : x = x' := by rw [hx] at ex; simpa using ex
  have hch := T1.chs
  have hfew := (HP.out.ok.few HM.out.2).2.1
  have hone := HP.out.ok.one HM.out.2
  have hkp := HP.out.ok.kept
  have hkv : t.kept = 99 + sumL t.lens := rfl
  obtain ⟨pc, cc, evc, hnc, hcm⟩ := hch.shape
  have hge : g < w.heap.size := HP.out.box.lt
  have B1 := HK0.out.2.kept k1 (by simp; omega)
  have hxl : x < w.heap.size := HP.out.inj.lt (.tx t.id) x (by rw [hx]; rfl)
  have hxB : x ≠ w.heap.size := by omega
  have hchlt : ∀ z, (V (.ch t.id)).ownBlock = some z → z < w.heap.size ∧ z ≠ x := fun z hz => by
    have e : blkOf (V (.ch t.id)) = some z := by rw [Row.blkOf hch]; exact hz
    refine ⟨HP.out.inj.lt (.ch t.id) z e, fun q => ?_⟩
    rw [q] at e
    have := HP.out.inj.inj _ _ _ e (show blkOf (V (.tx t.id)) = some x by rw [hx]; rfl)
    cases this
  rw [evc] at hbx hch hchlt
  obtain ⟨q, hq⟩ : ∃ q, q = t.chs.length := ⟨_, rfl⟩
  obtain ⟨kt, hkt⟩ : ∃ kt, kt = t.kept := ⟨_, rfl⟩
  rw [← hkt] at hkv hbx
  rw [← hq] at hbx hch hchlt
  have hqs : q ≤ 1400 := by rw [hq]; exact hfew
  have wk : IntKind.i64.wrap (kt + (46 + n)) = kt + (46 + n) := wrap_i64_of (by have := HN.out; omega) (by have := HN.out; omega)
  have c1 := hbx.cell (j := 1) rfl
  have c2 := hbx.cell (j := 2) rfl
  have y0 := B1.cell (j := 0) rfl
  have y1 := B1.cell (j := 1) rfl
  have y2 := B1.cell (j := 2) rfl
  have HQQ := @hideH _ (And.intro hq hqs)
  have HKT := @hideH _ hkt
  have HCS := @hideH _ hch
  have HBX := @hideH _ (And.intro hbx (And.intro B1 (And.intro hchlt (And.intro hxB hxl))))
  have HP1 := @hideH _ (And.intro P1 (And.intro ((HK0.out.1.mono (T := [g]) (by simp)).trans k1 (fun x hx => .inl hx)) (And.intro hfit k1.size)))
  have EV := @hideH _ evc
  obtain ⟨infC, hin1, hin2, hin3, hin4⟩ := info_parts3 (show (Tryd.prog.info? 56).map (fun i => (i.zero, i.size, i.bytes)) = some (some (.agg #[.int .i64 0, .int .u64 0, .bool false]), 3, 24) by kernel_rfl)
  have HIC := @hideH _ (And.intro hin1 (And.intro hin2 (And.intro hin3 hin4)))
  clear hin1 hin2 hin3 hin4
  clear P1 k1 T1 ex hch hfew hone hkp hkv hnc hcm B1 hbx hchlt hxB hxl hq hqs hkt evc hfit
  go_upto_region 4 with fail
  obtain ⟨w6, hw6⟩ : ∃ wx, wx = w1.drew := ⟨_, rfl⟩
  have k6 : Kept [] w1 w6 := by rw [hw6]; exact (Kept.refl [] w1).drew
  have hS : (fun w' => w'.cell? ⟨x, 1, none⟩ = some (.slice pc q cc) ∧ w'.cell? ⟨w.heap.size, 0, none⟩ = some (.int .i64 y.key) ∧ w'.cell? ⟨w.heap.size, 1, none⟩ = some (.int .u64 y.val) ∧ w'.cell? ⟨w.heap.size, 2, none⟩ = some (.bool y.gone)) w6 := ⟨k6.cell c1 (by simp), k6.cell y0 (by simp), k6.cell y1 (by simp), k6.cell y2 (by simp)⟩
  try dsimp only at hS
  obtain ⟨w7, hw7⟩ : ∃ wx, wx = w6.alloc (.cells #[.int .i64 y.key, .int .u64 y.val, .bool y.gone] 56) := ⟨_, rfl⟩
  have k7 : Kept [] w6 w7 := by rw [hw7]; exact (Kept.refl [] w6).alloc _
  have hS7 := (⟨k7.cell hS.1 (by simp), k7.cell hS.2.1 (by simp), k7.cell hS.2.2.1 (by simp), k7.cell hS.2.2.2 (by simp)⟩ : (fun w' => w'.cell? ⟨x, 1, none⟩ = some (.slice pc q cc) ∧ w'.cell? ⟨w.heap.size, 0, none⟩ = some (.int .i64 y.key) ∧ w'.cell? ⟨w.heap.size, 1, none⟩ = some (.int .u64 y.val) ∧ w'.cell? ⟨w.heap.size, 2, none⟩ = some (.bool y.gone)) w7)
  try dsimp only at hS7
  refine wp_region_late (fun w' => w'.cell? ⟨x, 1, none⟩ = some (.slice pc q cc) ∧ w'.cell? ⟨w.heap.size, 0, none⟩ = some (.int .i64 y.key) ∧ w'.cell? ⟨w.heap.size, 1, none⟩ = some (.int .u64 y.val) ∧ w'.cell? ⟨w.heap.size, 2, none⟩ = some (.bool y.gone)) 10 (by kernel_rfl) ?_
  rw [← hw6]
  clear hw6 c1 c2 y0 y1 y2
  refine wpAnyZ_take 0 (v := ?va0_1) rfl (by kernel_rfl) (by kernel_rfl) (by kernel_rfl) (by kernel_rfl) (fun _ _ _ h => h) (by rfl) ?hya0_1 hS ?resta0_1
  case hya0_1 => (intro wx hSx; obtain ⟨s1, s2, s3, s4⟩ := hSx; go_simp; (try with_reducible rfl))
  (try simp only [Act.put, List.getElem_toArray, List.getElem_cons_zero, List.getElem_cons_succ, List.setIfInBounds_toArray, List.set_cons_zero, List.set_cons_succ])
  refine wpAnyZ_take 1 (v := ?va1_2) rfl (by kernel_rfl) (by kernel_rfl) (by kernel_rfl) (by kernel_rfl) (fun _ _ _ h => h) (by rfl) ?hya1_2 hS ?resta1_2
  case hya1_2 => (intro wx hSx; obtain ⟨s1, s2, s3, s4⟩ := hSx; go_simp; (try with_reducible rfl))
  (try simp only [Act.put, List.getElem_toArray, List.getElem_cons_zero, List.getElem_cons_succ, List.setIfInBounds_toArray, List.set_cons_zero, List.set_cons_succ])
  refine wpAnyZ_take 2 (v := ?va2_3) rfl (by kernel_rfl) (by kernel_rfl) (by kernel_rfl) (by kernel_rfl) (fun _ _ _ h => h) (by rfl) ?hya2_3 hS ?resta2_3
  case hya2_3 => (intro wx hSx; obtain ⟨s1, s2, s3, s4⟩ := hSx; go_simp; (try with_reducible rfl))
  (try simp only [Act.put, List.getElem_toArray, List.getElem_cons_zero, List.getElem_cons_succ, List.setIfInBounds_toArray, List.set_cons_zero, List.set_cons_succ])
  refine wpAnyZ_take 3 (v := ?va3_4) rfl (by kernel_rfl) (by kernel_rfl) (by kernel_rfl) (by kernel_rfl) (fun _ _ _ h => h) (by rfl) ?hya3_4 hS ?resta3_4
  case hya3_4 => (intro wx hSx; obtain ⟨s1, s2, s3, s4⟩ := hSx; go_simp; (try with_reducible rfl))
  (try simp only [Act.put, List.getElem_toArray, List.getElem_cons_zero, List.getElem_cons_succ, List.setIfInBounds_toArray, List.set_cons_zero, List.set_cons_succ])
  refine wpAnyZ_take 4 (v := ?va4_5) rfl (by kernel_rfl) (by kernel_rfl) (by kernel_rfl) (by kernel_rfl) (fun _ _ _ h => h) (by rfl) ?hya4_5 hS ?resta4_5
  case hya4_5 => (intro wx hSx; obtain ⟨s1, s2, s3, s4⟩ := hSx; go_simp; (try with_reducible rfl))
  (try simp only [Act.put, List.getElem_toArray, List.getElem_cons_zero, List.getElem_cons_succ, List.setIfInBounds_toArray, List.set_cons_zero, List.set_cons_succ])
  refine wpAnyZ_take 5 (v := ?va5_6) rfl (by kernel_rfl) (by kernel_rfl) (by kernel_rfl) (by kernel_rfl) (fun _ _ _ h => h) (by rfl) ?hya5_6 hS ?resta5_6
  case hya5_6 => (intro wx hSx; obtain ⟨s1, s2, s3, s4⟩ := hSx; go_simp; (try with_reducible rfl))
  (try simp only [Act.put, List.getElem_toArray, List.getElem_cons_zero, List.getElem_cons_succ, List.setIfInBounds_toArray, List.set_cons_zero, List.set_cons_succ])
  refine wpAnyZ_one 6 rfl (by kernel_rfl) (fun K hK => ?_)
  go_simp
  refine hK _ _ (fun _ => by rw [← hw7]; exact hS7) ?_
  clear hK K
  (try simp only [Act.put, List.getElem_toArray, List.getElem_cons_zero, List.getElem_cons_succ, List.setIfInBounds_toArray, List.set_cons_zero, List.set_cons_succ])
  have hsrc := srcC (P := Tryd.prog) w6 33 56 Tryd.underlying33 y
  rw [← hw7] at hsrc
  rw [← hw7]
  clear hw7
  have k07 := k6.then k7
  have R7 := HCS.out.kept k07 (by simp)
  unfold Cs at R7
  rw [← HQQ.out.1] at R7
  refine wpAnyZ_one 7 rfl (by kernel_rfl) (fun K hK => ?_)
  refine step_append_row2 rfl (.tmp 25) (.tmp 27) 33 rfl 0 56 infC (.agg #[.int .i64 0, .int .u64 0, .bool false]) 3 24 Tryd.underlying33 HIC.out.1 HIC.out.2.1 HIC.out.2.2.1 HIC.out.2.2.2 rfl _ _ _ (by rfl) R7 _ 1 _ (by rfl) hsrc (by have e1 := HQQ.out.2; omega) (by have e1 := HQQ.out.2; unfold maxLen; omega) (by have e1 := HQQ.out.2; omega) (Nat.zero_le _) ?_
  intro v' w8 r8 k8 o8
  obtain ⟨p', c', hv', -⟩ := Row.shape r8
  subst hv'
  have hnot : ∀ z ∈ (Value.slice pc q cc).ownBlock.toList, z < w.heap.size ∧ z ≠ x := fun z hz => HBX.out.2.2.1 z (own_mem.1 hz)
  have b8x := ((HBX.out.1.kept k07 (by simp)).kept k8 (fun hm => (hnot x hm).2 rfl))
  have B8 := ((HBX.out.2.1.kept k07 (by simp)).kept k8 (fun hm => by have := (hnot _ hm).1; omega))
  have f8 := b8x.free 1
  have hS8 := (⟨b8x.cell (j := 1) rfl, B8.cell (j := 0) rfl, B8.cell (j := 1) rfl, B8.cell (j := 2) rfl⟩ : (fun w' => w'.cell? ⟨x, 1, none⟩ = some (.slice pc q cc) ∧ w'.cell? ⟨w.heap.size, 0, none⟩ = some (.int .i64 y.key) ∧ w'.cell? ⟨w.heap.size, 1, none⟩ = some (.int .u64 y.val) ∧ w'.cell? ⟨w.heap.size, 2, none⟩ = some (.bool y.gone)) w8)
  try dsimp only at hS8
  have HR8 := @hideH _ (And.intro r8 (And.intro k8 (And.intro o8 (And.intro k07 (And.intro b8x hnot)))))
  clear r8 k8 o8 hsrc R7 k07 hS7 k7 hS k6 b8x B8 hnot
  refine hK _ _ (fun _ => hS8) ?_
  clear hK K
  (try simp only [Act.put, List.getElem_toArray, List.getElem_cons_zero, List.getElem_cons_succ, List.setIfInBounds_toArray, List.set_cons_zero, List.set_cons_succ])
  refine wpAnyZ_one 8 rfl (by kernel_rfl) (fun K hK => ?_)
  go_simp
  refine hK _ _ (fun _ => hS8) ?_
  clear hK K
  (try simp only [Act.put, List.getElem_toArray, List.getElem_cons_zero, List.getElem_cons_succ, List.setIfInBounds_toArray, List.set_cons_zero, List.set_cons_succ])
  refine wpAnyZ_one 9 rfl (by kernel_rfl) (fun K hK => ?_)
  go_simp
  refine hK _ _ (fun _ => hS8) ?_
  clear hK K
  (try simp only [Act.put, List.getElem_toArray, List.getElem_cons_zero, List.getElem_cons_succ, List.setIfInBounds_toArray, List.set_cons_zero, List.set_cons_succ])
  refine wpAnyZ_one 10 rfl (by kernel_rfl) (fun K hK => ?_)
  go_simp
  refine hK _ _ (fun h => absurd rfl h) ?_
  clear hK K
  (try simp only [Act.put, List.getElem_toArray, List.getElem_cons_zero, List.getElem_cons_succ, List.setIfInBounds_toArray, List.set_cons_zero, List.set_cons_succ])
  refine wpAnyZ_done (by kernel_rfl) ?_ _
  obtain ⟨w9, hw9⟩ : ∃ wx, wx = w8.setCell ⟨x, 1, none⟩ (.slice p' (q + 1) c') := ⟨_, rfl⟩
  obtain ⟨b9, k9⟩ := HR8.out.2.2.2.2.1.set 1 (.slice p' (q + 1) c')
  rw [← hw9] at b9 k9
  rw [← hw9]
  clear hw9 hS8 f8
  have c29 := b9.cell (j := 2) (v := .int .i64 kt) rfl
  have f29 := b9.free 2
  obtain ⟨w10, hw10⟩ : ∃ wx, wx = w9.setCell ⟨x, 2, none⟩ (.int .i64 (kt + (46 + n))) := ⟨_, rfl⟩
  obtain ⟨b10, k10⟩ := b9.set 2 (.int .i64 (kt + (46 + n)))
  rw [← hw10] at b10 k10
  have HF := @hideH _ (And.intro b10 (And.intro k9 k10))
  clear b9 b10 k9 k10
  go_wp2
  rw [← hw10]
  try go_wp2
  go_ret
  have kx : Kept [x] w8 w10 := HF.out.2.1.trans HF.out.2.2 (fun z hz => .inl hz)
  have hnot := HR8.out.2.2.2.2.2
  have k18 : Kept (Value.slice pc q cc).ownBlock.toList w1 w8 := (HR8.out.2.2.2.1.mono (T := (Value.slice pc q cc).ownBlock.toList) (by simp)).trans HR8.out.2.1 (fun z hz => .inl hz)
  have kall : Kept (x :: (Value.slice pc q cc).ownBlock.toList) w1 w10 := (k18.mono (T := x :: (Value.slice pc q cc).ownBlock.toList) (fun z hz => List.mem_cons_of_mem _ hz)).trans kx (fun z hz => .inl (by simp at hz; simp [hz]))
  have ev : V (.ch t.id) = .slice pc q cc := by rw [EV.out, HQQ.out.1]
  refine .inr ⟨HP1.out.2.2.1, by first | rfl | trivial, w1, .slice p' (q + 1) c', HP1.out.1, HP1.out.2.1, by rw [ev]; exact kall, ?_, ?_, ?_⟩
  · rw [HKT.out] at HF; exact HF.out.1
  · have r := HR8.out.1
    have r2 : Row w10 0 3 (.slice p' (q + 1) c') (q + 1) (ccells t.chs ++ [.int .i64 y.key, .int .u64 y.val, .bool y.gone]) := r.kept kx (fun z hz hzx => by
      have ez : z = x := by simpa using hzx
      rcases HR8.out.2.2.1 with o | ⟨o, -⟩
      · rw [o] at hz
        exact (hnot z (own_mem.2 hz)).2 ez
      · rw [o] at hz
        have e2 : z = _ := (Option.some.inj hz).symm
        have := HR8.out.2.2.2.1.size
        have := HP1.out.2.2.2
        have := HBX.out.2.2.2.2
        have := HP1.out.2.1.size
        omega)
    unfold Cs
    rw [List.length_append, snocC, ← HQQ.out.1]
    exact r2
  · rw [ev]
    rcases HR8.out.2.2.1 with o | ⟨o, -⟩
    · refine .inl ?_
      rw [blkOf_slice rfl, blkOf_slice rfl]
      exact o
    · refine .inr ⟨_, by rw [blkOf_slice rfl]; exact o, ?_, ?_⟩
      · exact HR8.out.2.2.2.1.size
      · have h1 := HR8.out.1.lt _ o
        have := kx.size
        omega
end Go.Proofs.YtocpagpkpibmaaaDoor

/-
  OWN WORK (by mkpp5.py). The landed plain (layer 18): how its State lies behind a change.
-/
namespace Go.Proofs.YtocpagpkpibmaaaDoor
open Go.RowKit Go.Maps
set_option linter.unusedVariables false
set_option linter.unusedSimpArgs false
/-- the page's own map is no other part of the State -/
theorem own_apart {w : World} {V : Tag → Value} {g : Nat} {c : Cf} {S : St} (h : PpP w V g c S) {t : Tn} {p : Int} {b : Nat} (hb : (p ∈ t.pages ∧ V (.ow t.id p) = .map (some b)) ∨ (p ∉ t.pages ∧ w.heap.size ≤ b)) {a : Tag} {z : Nat} (ha : a ≠ .ow t.id p) (hz : blkOf (V a) = some z) : b ≠ z := fun e => by
  subst e
  rcases hb with ⟨-, q⟩ | ⟨-, q⟩
  · exact ha (h.inj.inj _ _ _ hz (by rw [q]; rfl))
  · have := h.inj.lt _ _ hz; omega
theorem own_part {w : World} {V : Tag → Value} {t : Tn} {p : Int} {b : Nat} (hb : (p ∈ t.pages ∧ V (.ow t.id p) = .map (some b)) ∨ (p ∉ t.pages ∧ w.heap.size ≤ b)) : w.heap.size ≤ b ∨ blkOf (V (.ow t.id p)) = some b := by
  rcases hb with ⟨-, q⟩ | ⟨-, q⟩
  · exact .inr (by rw [q]; rfl)
  · exact .inl q
section
variable {w1 w6 w7 w8 : World} {V : Tag → Value} {g : Nat} {c : Cf} {S : St} {t : Tn} {kx x hd b m : Nat} {pg : Int} {D : DataW Unit} {y : Chg}
/-- .. one that changes nothing -/
theorem PpP.chg0 (P1 : PpP w1 V g c S) (hkx : S.opn[kx]? = some t) (exx : V (.tx t.id) = .pointer (some ⟨x, 0, none⟩)) (ehd : V (.hd t.id) = .map (some hd)) (hpg : pg = y.key % c.pages) (hpr : 0 ≤ pg ∧ pg < c.pages) (hbu : busy S.opn t.id (y.key % c.pages) = false) (hy : okC c y) (hl : ¬ 0 < lenC S t y)
    (hbb : (pg ∈ t.pages ∧ V (.ow t.id pg) = .map (some b)) ∨ (pg ∉ t.pages ∧ w1.heap.size ≤ b)) (k16 : Kept [] w1 w6) (hb6 : b < w6.heap.size) (v7 : Vm w7 b (layE y y.gone (pgT c S t pg))) (k7 : Kept [b] w6 w7) (hT : Tel D (.int .i64 0) (fH V t)) (hD : Maps.IsMap D) (k8 : Kept [hd] w7 w8) (o8 : w8.ownsMap Tryd.prog 3 mapElem hd m (D.put (.int .i64 pg) (.lit (.int .i64 ((b : Int) + 1))))) :
    ∃ V', PpP w8 V' g c (chgS c S t (y.key % c.pages) y) ∧ Nx w1 w8 V V' := by
  have hm := List.mem_of_getElem? hkx
  have e := (chg_zero (page := y.key % c.pages) P1.ok hkx rfl hl).2
  rw [← hpg] at e
  have bg := own_apart P1 hbb (a := .g) (z := g) (by simp) (by rw [P1.vg]; rfl)
  have bx := own_apart P1 hbb (a := .tx t.id) (z := x) (by simp) (by rw [exx]; rfl)
  have bh := own_apart P1 hbb (a := .hd t.id) (z := hd) (by simp) (by rw [ehd]; rfl)
  have gh : g ≠ hd := fun q => by have := P1.inj.inj .g (.hd t.id) g (by rw [P1.vg]; rfl) (by rw [ehd, q]; rfl); cases this
  have xh : x ≠ hd := fun q => by have := P1.inj.inj (.tx t.id) (.hd t.id) x (by rw [exx]; rfl) (by rw [ehd, q]; rfl); cases this
  have kk : Kept [b, hd] w1 w8 := (((k16.mono (T := [b, hd]) (by simp)).trans (k7.mono (T := [b, hd]) (by simp)) (fun z hz => .inl hz)).trans (k8.mono (T := [b, hd]) (by simp)) (fun z hz => .inl hz))
  have T1 := P1.txs t hm
  obtain ⟨x', ex, hbx⟩ := T1.box
  obtain rfl : x = x' := by rw [exx] at ex; simpa using ex
  rw [ehd] at hbx
  have hs := lay_same hy (sees_u64 P1.ok hm y.key) hl
  rw [← hpg] at hs
  rw [hs] at v7
  obtain ⟨V', p', n'⟩ := P1.hold (w' := w8) (t' := heldT t pg) (p := pg) (x := x) (hd := hd) (b := b) (N1 := w6.heap.size) (vc := V (.ch t.id)) (X := [b, hd]) (u := S.used) hkx (heldT_id t pg).1 rfl exx ehd
    (hbb.imp id (fun q => ⟨q.1, q.2, hb6⟩)) ⟨k16.size, Nat.le_trans k7.size k8.size⟩ kk (P1.box.kept kk (by simp [Ne.symm bg, gh]))
    (fun z hz => by
      rcases List.mem_cons.1 hz with q | hz
      · rw [q]; rcases own_part hbb with r | r
        · exact .inl r
        · exact .inr (.inr (.inr (.inr (.inr r))))
      · exact .inr (.inr (.inr (.inl (by rw [ehd, show z = hd by simpa using hz]; rfl))))) (fun z hz => .inr hz)
    (by rw [(heldT_id t pg).2.1]; exact hbx.kept kk (by simp [Ne.symm bx, xh]))
    (by
      rw [(heldT_id t pg).2.2.1]
      exact T1.chs.kept kk (fun z hz hm' => by
        have ez : blkOf (V (.ch t.id)) = some z := by rw [Row.blkOf T1.chs]; exact hz
        rcases List.mem_cons.1 hm' with q | hm'
        · exact own_apart P1 hbb (a := .ch t.id) (z := z) (by simp) ez q.symm
        · have q : z = hd := by simpa using hm'
          rw [q] at ez
          have := P1.inj.inj (.ch t.id) (.hd t.id) hd ez (by rw [ehd]; rfl)
          cases this))
    hT hD o8 (by rw [pgT_held]; exact v7.kept k8 (by simpa using bh)) (fun q _ _ => pgT_held c S t q pg)
    (P1.ok.hold hkx hpr) (P1.ok2.hold P1.ok hkx (by rw [hpg]; exact hbu) S.used)
  rw [hpg] at *
  rw [e]
  refine ⟨V', p', n', [b, hd].filter (fun z => decide (z < w1.heap.size)), ?_, fun z hz => ?_⟩
  · refine ⟨kk.os, kk.tape, kk.output, kk.size, fun z hz hn => kk.block z hz (fun q => hn (List.mem_filter.2 ⟨q, by simpa using hz⟩))⟩
  · obtain ⟨q1, q2⟩ := List.mem_filter.1 hz
    have hlt : z < w1.heap.size := by simpa using q2
    rcases List.mem_cons.1 q1 with q | q
    · rcases own_part hbb with r | r
      · omega
      · exact ⟨_, by rw [q]; exact r⟩
    · exact ⟨.hd t.id, by rw [ehd, show z = hd by simpa using q]; rfl⟩
/-- .. one that is an update -/
theorem PpP.chg1 {w5 wL : World} {n : Int} {vc : Value} (P1 : PpP w1 V g c S) (hkx : S.opn[kx]? = some t) (exx : V (.tx t.id) = .pointer (some ⟨x, 0, none⟩)) (ehd : V (.hd t.id) = .map (some hd)) (hpg : pg = y.key % c.pages) (hpr : 0 ≤ pg ∧ pg < c.pages) (hbu : busy S.opn t.id (y.key % c.pages) = false) (hy : okC c y) (hn : n = lenC S t y) (hl : 0 < n) (hfit : fitsS c S (38 + 2 * n) (46 + n) = true)
    (hbb : (pg ∈ t.pages ∧ V (.ow t.id pg) = .map (some b)) ∨ (pg ∉ t.pages ∧ w1.heap.size ≤ b)) (k15 : Kept [] w1 w5) (hb5 : b < w5.heap.size) (PL : PpP wL V g c ⟨S.done, S.opn, S.used + (38 + 2 * n)⟩) (k5L : Kept [g] w5 wL) (kL6 : Kept (x :: (V (.ch t.id)).ownBlock.toList) wL w6) (bx6 : Blk w6 x 81 [V (.hd t.id), vc, .int .i64 (t.kept + (46 + n))]) (cs6 : Cs w6 0 vc (t.chs ++ [y])) (hvc : blkOf vc = blkOf (V (.ch t.id)) ∨ ∃ z, blkOf vc = some z ∧ wL.heap.size ≤ z ∧ z < w6.heap.size)
    (v7 : Vm w7 b (layE y y.gone (pgT c S t pg))) (k7 : Kept [b] w6 w7) (hT : Tel D (.int .i64 0) (fH V t)) (hD : Maps.IsMap D) (k8 : Kept [hd] w7 w8) (o8 : w8.ownsMap Tryd.prog 3 mapElem hd m (D.put (.int .i64 pg) (.lit (.int .i64 ((b : Int) + 1))))) :
    ∃ V', PpP w8 V' g c (chgS c S t (y.key % c.pages) y) ∧ Nx w1 w8 V V' := by
  have hm := List.mem_of_getElem? hkx
  have e := (chg_fit (page := y.key % c.pages) P1.ok hkx hn hl hfit).2
  rw [← hpg] at e
  have n16 : n ≤ 16 := by rw [hn]; exact lenC_le S t y
  have T1 := P1.txs t hm
  have hch := Row.blkOf T1.chs
  have bg := own_apart P1 hbb (a := .g) (z := g) (by simp) (by rw [P1.vg]; rfl)
  have bx := own_apart P1 hbb (a := .tx t.id) (z := x) (by simp) (by rw [exx]; rfl)
  have bh := own_apart P1 hbb (a := .hd t.id) (z := hd) (by simp) (by rw [ehd]; rfl)
  have vg : blkOf (V .g) = some g := by rw [P1.vg]; rfl
  have vx : blkOf (V (.tx t.id)) = some x := by rw [exx]; rfl
  have vh : blkOf (V (.hd t.id)) = some hd := by rw [ehd]; rfl
  have gh : g ≠ hd := fun q => by rw [← q] at vh; have := P1.inj.inj _ _ _ vg vh; cases this
  have xh : x ≠ hd := fun q => by rw [← q] at vh; have := P1.inj.inj _ _ _ vx vh; cases this
  have gx : g ≠ x := fun q => by rw [← q] at vx; have := P1.inj.inj _ _ _ vg vx; cases this
  have chn : ∀ z ∈ (V (.ch t.id)).ownBlock.toList, blkOf (V (.ch t.id)) = some z ∧ z ≠ g ∧ z ≠ x ∧ z ≠ hd ∧ b ≠ z := fun z hz => by
    have ez : blkOf (V (.ch t.id)) = some z := by rw [hch]; exact own_mem.1 hz
    refine ⟨ez, fun q => ?_, fun q => ?_, fun q => ?_, own_apart P1 hbb (a := .ch t.id) (by simp) ez⟩
    · rw [q] at ez; have := P1.inj.inj _ _ _ ez vg; cases this
    · rw [q] at ez; have := P1.inj.inj _ _ _ ez vx; cases this
    · rw [q] at ez; have := P1.inj.inj _ _ _ ez vh; cases this
  obtain ⟨X, hX⟩ : ∃ X, X = g :: x :: b :: hd :: (V (.ch t.id)).ownBlock.toList := ⟨_, rfl⟩
  have k1L : Kept X w1 wL := (k15.mono (T := X) (by simp)).trans (k5L.mono (T := X) (by intro z hz; rw [hX]; simp at hz; simp [hz])) (fun z hz => .inl hz)
  have k16 : Kept X w1 w6 := k1L.trans (kL6.mono (T := X) (by intro z hz; rw [hX]; rcases List.mem_cons.1 hz with q | q; simp [q]; simp only [List.mem_cons]; exact .inr (.inr (.inr (.inr q))))) (fun z hz => .inl hz)
  have k17 : Kept X w1 w7 := k16.trans (k7.mono (T := X) (by intro z hz; rw [hX]; simp at hz; simp [hz])) (fun z hz => .inl hz)
  have kk : Kept X w1 w8 := k17.trans (k8.mono (T := X) (by intro z hz; rw [hX]; simp at hz; simp [hz])) (fun z hz => .inl hz)
  have hbL : b < wL.heap.size := Nat.lt_of_lt_of_le hb5 k5L.size
  have hgL : g ∉ x :: (V (.ch t.id)).ownBlock.toList := fun q => by
    rcases List.mem_cons.1 q with q | q
    · exact gx q
    · exact (chn _ q).2.1 rfl
  have sz6 : wL.heap.size ≤ w6.heap.size := kL6.size
  have sz8 : w6.heap.size ≤ w8.heap.size := Nat.le_trans k7.size k8.size
  have hxL : hd < wL.heap.size := Nat.lt_of_lt_of_le (P1.inj.lt _ _ vh) k1L.size
  have vcb : ∀ z, blkOf vc = some z → z ≠ b ∧ z ≠ hd := fun z hz => by
    rcases hvc with q | ⟨z', q1, q2, -⟩
    · rw [q] at hz
      have r := chn z (own_mem.2 (by rw [← hch]; exact hz))
      exact ⟨fun s => r.2.2.2.2 s.symm, r.2.2.2.1⟩
    · rw [q1] at hz
      have ez : z' = z := Option.some.inj hz
      omega
  have hbg := ((PL.box.kept kL6 hgL).kept k7 (by simpa using Ne.symm bg)).kept k8 (by simpa using gh)
  have hok := P1.ok.chg hkx hy hpr (n := n) ⟨by omega, n16⟩ hfit
  have hok2 := P1.ok2.chg P1.ok hkx (x := y) n hbu (S.used + 38 + 2 * n)
  rw [← hpg] at hok2
  obtain ⟨V', p', n'⟩ := P1.hold (w' := w8) (t' := heldT ⟨t.id, t.pages, t.chs ++ [y], t.lens ++ [n]⟩ pg) (p := pg) (x := x) (hd := hd) (b := b) (N1 := wL.heap.size) (vc := vc) (X := X) (u := S.used + 38 + 2 * n) hkx (heldT_id ⟨t.id, t.pages, t.chs ++ [y], t.lens ++ [n]⟩ pg).1
    (by unfold heldT; dsimp only; split <;> rfl) exx ehd
    (hbb.imp id (fun q => ⟨q.1, q.2, hbL⟩)) ⟨k1L.size, Nat.le_trans sz6 sz8⟩ kk (by rw [show S.used + 38 + 2 * n = S.used + (38 + 2 * n) by omega]; exact hbg)
    (fun z hz => by
      rw [hX] at hz
      rcases List.mem_cons.1 hz with q | hz
      · exact .inr (.inl q)
      · rcases List.mem_cons.1 hz with q | hz
        · exact .inr (.inr (.inl (by rw [q]; exact vx)))
        · rcases List.mem_cons.1 hz with q | hz
          · rw [q]; rcases own_part hbb with r | r
            · exact .inl r
            · exact .inr (.inr (.inr (.inr (.inr r))))
          · rcases List.mem_cons.1 hz with q | hz
            · exact .inr (.inr (.inr (.inl (by rw [q]; exact vh))))
            · exact .inr (.inr (.inr (.inr (.inl (chn z hz).1)))))
    (fun z hz => by
      rcases hvc with q | ⟨z', q1, q2, q3⟩
      · exact .inr (by rw [← q]; exact hz)
      · rw [q1] at hz
        have ez : z' = z := Option.some.inj hz
        exact .inl (by omega))
    (by
      rw [(heldT_id ⟨t.id, t.pages, t.chs ++ [y], t.lens ++ [n]⟩ pg).2.1, show (⟨t.id, t.pages, t.chs ++ [y], t.lens ++ [n]⟩ : Tn).kept = t.kept + (46 + n) by simp only [Tn.kept, sumL_append, sumL]; omega]
      rw [ehd] at bx6
      exact (bx6.kept k7 (by simpa using Ne.symm bx)).kept k8 (by simpa using xh))
    (by
      rw [(heldT_id ⟨t.id, t.pages, t.chs ++ [y], t.lens ++ [n]⟩ pg).2.2.1]
      have q := cs6.kept k7 (fun z hz hzb => (vcb z (by rw [Row.blkOf cs6]; exact hz)).1 (by simpa using hzb))
      exact q.kept k8 (fun z hz hzb => (vcb z (by rw [Row.blkOf cs6]; exact hz)).2 (by simpa using hzb)))
    hT hD o8 (by rw [pgT_held, pgT_chg, if_pos hpg.symm]; exact v7.kept k8 (by simpa using bh))
    (fun q _ hq => by rw [pgT_held, pgT_chg, if_neg (fun r => hq (by rw [hpg]; exact r.symm))]) hok hok2
  rw [hpg] at *
  rw [e]
  refine ⟨V', p', n', X.filter (fun z => decide (z < w1.heap.size)), ?_, fun z hz => ?_⟩
  · refine ⟨kk.os, kk.tape, kk.output, kk.size, fun z hz hn => kk.block z hz (fun q => hn (List.mem_filter.2 ⟨q, by simpa using hz⟩))⟩
  · obtain ⟨q1, q2⟩ := List.mem_filter.1 hz
    have hlt : z < w1.heap.size := by simpa using q2
    rw [hX] at q1
    rcases List.mem_cons.1 q1 with q | q1
    · exact ⟨.g, by rw [q]; exact vg⟩
    · rcases List.mem_cons.1 q1 with q | q1
      · exact ⟨.tx t.id, by rw [q]; exact vx⟩
      · rcases List.mem_cons.1 q1 with q | q1
        · rcases own_part hbb with r | r
          · omega
          · exact ⟨_, by rw [q]; exact r⟩
        · rcases List.mem_cons.1 q1 with q | q1
          · exact ⟨.hd t.id, by rw [q]; exact vh⟩
          · exact ⟨.ch t.id, (chn z q1).1⟩
end
end Go.Proofs.YtocpagpkpibmaaaDoor

