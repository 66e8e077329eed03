import Derived.Test.YtebcmcmboomgfaaC3
/-
  OWN WORK (by mkrec5.py). The document's records (tidemarkref09): Bytes, of a right record of one kind.
-/
namespace Go.Proofs.Ytebcmcmboomgfaa
open Go.RowKit
set_option linter.unusedVariables false
set_option linter.unusedSimpArgs false

set_option maxRecDepth 20000 in
set_option maxHeartbeats 12800000 in
theorem rBytes_3 (V : RV) (birth prev id page frm : Int) (before after : List UInt8) (next : Int) (rows : List RowR) (dirty : List RecR) (w : World) (h : SeeR w V (⟨3, birth, prev, id, page, frm, before, after, next, rows, dirty⟩ : Rcd)) (hR : (⟨3, birth, prev, id, page, frm, before, after, next, rows, dirty⟩ : Rcd).Right) : Calls Try.prog 25 #[(⟨3, birth, prev, id, page, frm, before, after, next, rows, dirty⟩ : Rcd).agg V] w fun e w' => ∃ u acc, e = .returned (.tuple #[u, .int .i64 0]) ∧ acc = bytesR (⟨3, birth, prev, id, page, frm, before, after, next, rows, dirty⟩ : Rcd) ∧ Acc w w' u acc := by
  obtain ⟨pb, cb, pa, ca, pr, cr, pd, cd, rfl⟩ := h.shapes
  have hr := fun (wz : World) (kz : Kept [] w wz) => rRight _ (⟨3, birth, prev, id, page, frm, before, after, next, rows, dirty⟩ : Rcd) wz (h.kept kz)
  simp only [bl_t hR] at hr
  have HSE := @hideH _ h
  have HRR := @hideH _ hR
  obtain ⟨⟨-, -⟩, q2, q3, q4, q5, q6, q7⟩ := hR
  simp [lsnOk, nextOk, rangedOk, partsOk, listsOk] at q2 q3 q4 q5 q6 q7
  have HB1 := @hideH _ (show (0 ≤ birth ∧ birth ≤ 1152921504606846976) ∧ 0 ≤ prev ∧ prev ≤ 1152921504606846976 by omega)
  have HB2 := @hideH _ (show (0 ≤ page ∧ page ≤ 1152921504606846976) ∧ (0 ≤ frm ∧ frm ≤ 1152921504606846976) ∧ after.length ≤ 128 by omega)
  have HB3 := @hideH _ (show 0 ≤ next ∧ next ≤ 1152921504606846976 by omega)
  have HB4 := @hideH _ (show before = [] from q7)
  have HBL := @hideH _ (show before.length ≤ 128 ∧ after.length ≤ 128 from ⟨by rw [show before = [] from q7]; exact Nat.zero_le _, HB2.out.2.2⟩)
  clear h q2 q3 q4 q5 q6 q7
  unfold Rcd.agg at hr ⊢
  dsimp only at hr ⊢
  obtain ⟨RB, hRB⟩ : ∃ RB, RB = bytesR (⟨3, birth, prev, id, page, frm, before, after, next, rows, dirty⟩ : Rcd) := ⟨_, rfl⟩
  rw [← hRB]
  have HRB := @hideH _ hRB
  clear hRB
  obtain ⟨nb, hnb⟩ : ∃ nb, nb = before.length := ⟨_, rfl⟩
  obtain ⟨na, hna⟩ : ∃ na, na = after.length := ⟨_, rfl⟩
  obtain ⟨nr, hnr⟩ : ∃ nr, nr = rows.length := ⟨_, rfl⟩
  obtain ⟨nd, hnd⟩ : ∃ nd, nd = dirty.length := ⟨_, rfl⟩
  simp only [← hnb, ← hna, ← hnr, ← hnd] at hr ⊢
  have HNB := @hideH _ hnb
  have HNA := @hideH _ hna
  have HNR := @hideH _ hnr
  have HND := @hideH _ hnd
  clear hnb hna hnr hnd
  obtain ⟨w1, hw1⟩ : ∃ w1, w1 = w.alloc (.cells #[.int .i64 3, .int .i64 birth, .int .i64 prev, .int .i64 id, .int .i64 page, .int .i64 frm, .slice pb nb cb, .slice pa na ca, .int .i64 next, .slice pr nr cr, .slice pd nd cd] 26) := ⟨_, rfl⟩
  have k1 : Kept [] w w1 := by rw [hw1]; exact (Kept.refl [] w).alloc _
  have bR : Blk w1 w.heap.size 26 [.int .i64 3, .int .i64 birth, .int .i64 prev, .int .i64 id, .int .i64 page, .int .i64 frm, .slice pb nb cb, .slice pa na ca, .int .i64 next, .slice pr nr cr, .slice pd nd cd] := by rw [hw1]; exact Blk.new w _ _
  have K1 := @hideH _ k1
  have HBR := @hideH _ bR
  have c0 := bR.cell (j := 0) rfl
  have c1 := bR.cell (j := 1) rfl
  have c2 := bR.cell (j := 2) rfl
  have c3 := bR.cell (j := 3) rfl
  have c4 := bR.cell (j := 4) rfl
  have c5 := bR.cell (j := 5) rfl
  have c6 := bR.cell (j := 6) rfl
  have c7 := bR.cell (j := 7) rfl
  have c8 := bR.cell (j := 8) rfl
  have c9 := bR.cell (j := 9) rfl
  have c10 := bR.cell (j := 10) rfl
  clear bR k1
  go_enter Try.func25, Try.ntmps25
  go_upto_region 1 with fail
  rw [← hw1]
  clear hw1
  go_wp2_with fail
  refine (hr _ K1.out).mono ?_
  clear hr
  rintro e w2 ⟨rfl, k2⟩
  have A2 := @hideH _ (Acc.nil k2)
  replace c0 := k2.cell c0 (by simp)
  replace c1 := k2.cell c1 (by simp)
  replace c2 := k2.cell c2 (by simp)
  replace c3 := k2.cell c3 (by simp)
  replace c4 := k2.cell c4 (by simp)
  replace c5 := k2.cell c5 (by simp)
  replace c6 := k2.cell c6 (by simp)
  replace c7 := k2.cell c7 (by simp)
  replace c8 := k2.cell c8 (by simp)
  replace c9 := k2.cell c9 (by simp)
  replace c10 := k2.cell c10 (by simp)
  clear k2
  have L2 := @hideH _ (show ([] : List UInt8).length ≤ 0 from Nat.le_refl _)
  have hq := A2.out.put 3 1 (by omega) (by omega) (by omega) (Nat.le_trans L2.out (by decide))
  go_wp2_with fail
  refine hq.mono ?_
  clear hq
  rintro e w3 ⟨u3, a3, rfl, E3, R3⟩
  obtain ⟨p3, d3, rfl⟩ := own_shape2 R3.1
  have A3 := @hideH _ R3
  have L3 := @hideH _ (show a3.length ≤ 1 by rw [E3.out.2]; exact Nat.add_le_add_right L2.out 1)
  have kz := R3.2
  have n0 := (HBR.out.kept kz (by simp)).cell (j := 0) rfl
  have n1 := (HBR.out.kept kz (by simp)).cell (j := 1) rfl
  have n2 := (HBR.out.kept kz (by simp)).cell (j := 2) rfl
  have n3 := (HBR.out.kept kz (by simp)).cell (j := 3) rfl
  have n4 := (HBR.out.kept kz (by simp)).cell (j := 4) rfl
  have n5 := (HBR.out.kept kz (by simp)).cell (j := 5) rfl
  have n6 := (HBR.out.kept kz (by simp)).cell (j := 6) rfl
  have n7 := (HBR.out.kept kz (by simp)).cell (j := 7) rfl
  have n8 := (HBR.out.kept kz (by simp)).cell (j := 8) rfl
  have n9 := (HBR.out.kept kz (by simp)).cell (j := 9) rfl
  have n10 := (HBR.out.kept kz (by simp)).cell (j := 10) rfl
  clear kz R3 A2 c0 c1 c2 c3 c4 c5 c6 c7 c8 c9 c10
  have c0 := n0
  have c1 := n1
  have c2 := n2
  have c3 := n3
  have c4 := n4
  have c5 := n5
  have c6 := n6
  have c7 := n7
  have c8 := n8
  have c9 := n9
  have c10 := n10
  clear n0 n1 n2 n3 n4 n5 n6 n7 n8 n9 n10
  have hq := A3.out.put birth 8 HB1.out.1.1 HB1.out.1.2 (by omega) (Nat.le_trans L3.out (by decide))
  go_wp2_with fail
  refine hq.mono ?_
  clear hq
  rintro e w4 ⟨u4, a4, rfl, E4, R4⟩
  obtain ⟨p4, d4, rfl⟩ := own_shape2 R4.1
  have A4 := @hideH _ R4
  have L4 := @hideH _ (show a4.length ≤ 9 by rw [E4.out.2]; exact Nat.add_le_add_right L3.out 8)
  have kz := R4.2
  have n0 := (HBR.out.kept kz (by simp)).cell (j := 0) rfl
  have n1 := (HBR.out.kept kz (by simp)).cell (j := 1) rfl
  have n2 := (HBR.out.kept kz (by simp)).cell (j := 2) rfl
  have n3 := (HBR.out.kept kz (by simp)).cell (j := 3) rfl
  have n4 := (HBR.out.kept kz (by simp)).cell (j := 4) rfl
  have n5 := (HBR.out.kept kz (by simp)).cell (j := 5) rfl
  have n6 := (HBR.out.kept kz (by simp)).cell (j := 6) rfl
  have n7 := (HBR.out.kept kz (by simp)).cell (j := 7) rfl
  have n8 := (HBR.out.kept kz (by simp)).cell (j := 8) rfl
  have n9 := (HBR.out.kept kz (by simp)).cell (j := 9) rfl
  have n10 := (HBR.out.kept kz (by simp)).cell (j := 10) rfl
  clear kz R4 A3 c0 c1 c2 c3 c4 c5 c6 c7 c8 c9 c10
  have c0 := n0
  have c1 := n1
  have c2 := n2
  have c3 := n3
  have c4 := n4
  have c5 := n5
  have c6 := n6
  have c7 := n7
  have c8 := n8
  have c9 := n9
  have c10 := n10
  clear n0 n1 n2 n3 n4 n5 n6 n7 n8 n9 n10
  have hq := A4.out.put prev 8 HB1.out.2.1 HB1.out.2.2 (by omega) (Nat.le_trans L4.out (by decide))
  go_wp2_with fail
  refine hq.mono ?_
  clear hq
  rintro e w5 ⟨u5, a5, rfl, E5, R5⟩
  obtain ⟨p5, d5, rfl⟩ := own_shape2 R5.1
  have A5 := @hideH _ R5
  have L5 := @hideH _ (show a5.length ≤ 17 by rw [E5.out.2]; exact Nat.add_le_add_right L4.out 8)
  have kz := R5.2
  have n0 := (HBR.out.kept kz (by simp)).cell (j := 0) rfl
  have n1 := (HBR.out.kept kz (by simp)).cell (j := 1) rfl
  have n2 := (HBR.out.kept kz (by simp)).cell (j := 2) rfl
  have n3 := (HBR.out.kept kz (by simp)).cell (j := 3) rfl
  have n4 := (HBR.out.kept kz (by simp)).cell (j := 4) rfl
  have n5 := (HBR.out.kept kz (by simp)).cell (j := 5) rfl
  have n6 := (HBR.out.kept kz (by simp)).cell (j := 6) rfl
  have n7 := (HBR.out.kept kz (by simp)).cell (j := 7) rfl
  have n8 := (HBR.out.kept kz (by simp)).cell (j := 8) rfl
  have n9 := (HBR.out.kept kz (by simp)).cell (j := 9) rfl
  have n10 := (HBR.out.kept kz (by simp)).cell (j := 10) rfl
  clear kz R5 A4 c0 c1 c2 c3 c4 c5 c6 c7 c8 c9 c10
  have c0 := n0
  have c1 := n1
  have c2 := n2
  have c3 := n3
  have c4 := n4
  have c5 := n5
  have c6 := n6
  have c7 := n7
  have c8 := n8
  have c9 := n9
  have c10 := n10
  clear n0 n1 n2 n3 n4 n5 n6 n7 n8 n9 n10
  have hq := A5.out.put page 1 HB2.out.1.1 HB2.out.1.2 (by omega) (Nat.le_trans L5.out (by decide))
  go_wp2_with fail
  refine hq.mono ?_
  clear hq
  rintro e w6 ⟨u6, a6, rfl, E6, R6⟩
  obtain ⟨p6, d6, rfl⟩ := own_shape2 R6.1
  have A6 := @hideH _ R6
  have L6 := @hideH _ (show a6.length ≤ 18 by rw [E6.out.2]; exact Nat.add_le_add_right L5.out 1)
  have kz := R6.2
  have n0 := (HBR.out.kept kz (by simp)).cell (j := 0) rfl
  have n1 := (HBR.out.kept kz (by simp)).cell (j := 1) rfl
  have n2 := (HBR.out.kept kz (by simp)).cell (j := 2) rfl
  have n3 := (HBR.out.kept kz (by simp)).cell (j := 3) rfl
  have n4 := (HBR.out.kept kz (by simp)).cell (j := 4) rfl
  have n5 := (HBR.out.kept kz (by simp)).cell (j := 5) rfl
  have n6 := (HBR.out.kept kz (by simp)).cell (j := 6) rfl
  have n7 := (HBR.out.kept kz (by simp)).cell (j := 7) rfl
  have n8 := (HBR.out.kept kz (by simp)).cell (j := 8) rfl
  have n9 := (HBR.out.kept kz (by simp)).cell (j := 9) rfl
  have n10 := (HBR.out.kept kz (by simp)).cell (j := 10) rfl
  clear kz R6 A5 c0 c1 c2 c3 c4 c5 c6 c7 c8 c9 c10
  have c0 := n0
  have c1 := n1
  have c2 := n2
  have c3 := n3
  have c4 := n4
  have c5 := n5
  have c6 := n6
  have c7 := n7
  have c8 := n8
  have c9 := n9
  have c10 := n10
  clear n0 n1 n2 n3 n4 n5 n6 n7 n8 n9 n10
  have hq := A6.out.put frm 2 HB2.out.2.1.1 HB2.out.2.1.2 (by omega) (Nat.le_trans L6.out (by decide))
  go_wp2_with fail
  refine hq.mono ?_
  clear hq
  rintro e w7 ⟨u7, a7, rfl, E7, R7⟩
  obtain ⟨p7, d7, rfl⟩ := own_shape2 R7.1
  have A7 := @hideH _ R7
  have L7 := @hideH _ (show a7.length ≤ 20 by rw [E7.out.2]; exact Nat.add_le_add_right L6.out 2)
  have kz := R7.2
  have n0 := (HBR.out.kept kz (by simp)).cell (j := 0) rfl
  have n1 := (HBR.out.kept kz (by simp)).cell (j := 1) rfl
  have n2 := (HBR.out.kept kz (by simp)).cell (j := 2) rfl
  have n3 := (HBR.out.kept kz (by simp)).cell (j := 3) rfl
  have n4 := (HBR.out.kept kz (by simp)).cell (j := 4) rfl
  have n5 := (HBR.out.kept kz (by simp)).cell (j := 5) rfl
  have n6 := (HBR.out.kept kz (by simp)).cell (j := 6) rfl
  have n7 := (HBR.out.kept kz (by simp)).cell (j := 7) rfl
  have n8 := (HBR.out.kept kz (by simp)).cell (j := 8) rfl
  have n9 := (HBR.out.kept kz (by simp)).cell (j := 9) rfl
  have n10 := (HBR.out.kept kz (by simp)).cell (j := 10) rfl
  clear kz R7 A6 c0 c1 c2 c3 c4 c5 c6 c7 c8 c9 c10
  have c0 := n0
  have c1 := n1
  have c2 := n2
  have c3 := n3
  have c4 := n4
  have c5 := n5
  have c6 := n6
  have c7 := n7
  have c8 := n8
  have c9 := n9
  have c10 := n10
  clear n0 n1 n2 n3 n4 n5 n6 n7 n8 n9 n10
  have hq := A7.out.put (na : Int) 2 (by omega) (by have := HB2.out; have ly := HNA.out; omega) (by omega) (Nat.le_trans L7.out (by decide))
  go_wp2_with fail
  refine hq.mono ?_
  clear hq
  rintro e w8 ⟨u8, a8, rfl, E8, R8⟩
  obtain ⟨p8, d8, rfl⟩ := own_shape2 R8.1
  have A8 := @hideH _ R8
  have L8 := @hideH _ (show a8.length ≤ 22 by rw [E8.out.2]; exact Nat.add_le_add_right L7.out 2)
  have kz := R8.2
  have n0 := (HBR.out.kept kz (by simp)).cell (j := 0) rfl
  have n1 := (HBR.out.kept kz (by simp)).cell (j := 1) rfl
  have n2 := (HBR.out.kept kz (by simp)).cell (j := 2) rfl
  have n3 := (HBR.out.kept kz (by simp)).cell (j := 3) rfl
  have n4 := (HBR.out.kept kz (by simp)).cell (j := 4) rfl
  have n5 := (HBR.out.kept kz (by simp)).cell (j := 5) rfl
  have n6 := (HBR.out.kept kz (by simp)).cell (j := 6) rfl
  have n7 := (HBR.out.kept kz (by simp)).cell (j := 7) rfl
  have n8 := (HBR.out.kept kz (by simp)).cell (j := 8) rfl
  have n9 := (HBR.out.kept kz (by simp)).cell (j := 9) rfl
  have n10 := (HBR.out.kept kz (by simp)).cell (j := 10) rfl
  clear kz R8 A7 c0 c1 c2 c3 c4 c5 c6 c7 c8 c9 c10
  have c0 := n0
  have c1 := n1
  have c2 := n2
  have c3 := n3
  have c4 := n4
  have c5 := n5
  have c6 := n6
  have c7 := n7
  have c8 := n8
  have c9 := n9
  have c10 := n10
  clear n0 n1 n2 n3 n4 n5 n6 n7 n8 n9 n10
  have hsrc := HSE.out.before.kept (K1.out.then A8.out.2)
  dsimp only at hsrc
  rw [← HNB.out] at hsrc
  go_upto_region 16 with (at_builtin; refine wpList_append_bs rfl (.tmp 46) (.tmp 48) 22 rfl w1.heap.size 5 Try.underlying22 (by kernel_rfl) _ _ _ (by rfl) A8.out.1 _ before (by rfl) hsrc (Nat.le_trans (Nat.add_le_add L8.out HBL.out.1) (by decide)) A8.out.2.size ?_; intro v9 w9 o9 g9 at9; have kk9 : Kept [] w1 w9 := A8.out.2.grown g9 (fun x hx => .inr (own_ge A8.out.1 x hx)); obtain ⟨a9, ha9⟩ : ∃ a, a = a8 ++ before := ⟨_, rfl⟩; have R9 : Acc w1 w9 v9 a9 := ⟨(by rw [ha9, List.length_append, show u8s (a8 ++ before) = u8s a8 ++ u8s before from (by simp [u8s])]; exact o9), kk9⟩; have E9 : Hid (a9 = a8 ++ before ∧ a9.length = a8.length + before.length) := ⟨ha9, (by rw [ha9, List.length_append])⟩; obtain ⟨p9, d9, rfl⟩ := own_shape2 R9.1; clear o9 g9 at9 ha9)
  clear hsrc
  have A9 := @hideH _ R9
  have L9 := @hideH _ (show a9.length ≤ 150 by rw [E9.out.2]; exact Nat.add_le_add L8.out HBL.out.1)
  have kz := R9.2
  have n0 := (HBR.out.kept kz (by simp)).cell (j := 0) rfl
  have n1 := (HBR.out.kept kz (by simp)).cell (j := 1) rfl
  have n2 := (HBR.out.kept kz (by simp)).cell (j := 2) rfl
  have n3 := (HBR.out.kept kz (by simp)).cell (j := 3) rfl
  have n4 := (HBR.out.kept kz (by simp)).cell (j := 4) rfl
  have n5 := (HBR.out.kept kz (by simp)).cell (j := 5) rfl
  have n6 := (HBR.out.kept kz (by simp)).cell (j := 6) rfl
  have n7 := (HBR.out.kept kz (by simp)).cell (j := 7) rfl
  have n8 := (HBR.out.kept kz (by simp)).cell (j := 8) rfl
  have n9 := (HBR.out.kept kz (by simp)).cell (j := 9) rfl
  have n10 := (HBR.out.kept kz (by simp)).cell (j := 10) rfl
  clear kz R9 kk9 A8 c0 c1 c2 c3 c4 c5 c6 c7 c8 c9 c10
  have c0 := n0
  have c1 := n1
  have c2 := n2
  have c3 := n3
  have c4 := n4
  have c5 := n5
  have c6 := n6
  have c7 := n7
  have c8 := n8
  have c9 := n9
  have c10 := n10
  clear n0 n1 n2 n3 n4 n5 n6 n7 n8 n9 n10
  have hsrc := HSE.out.after.kept (K1.out.then A9.out.2)
  dsimp only at hsrc
  rw [← HNA.out] at hsrc
  go_upto_region 17 with (at_builtin; refine wpList_append_bs rfl (.tmp 50) (.tmp 52) 22 rfl w1.heap.size 5 Try.underlying22 (by kernel_rfl) _ _ _ (by rfl) A9.out.1 _ after (by rfl) hsrc (Nat.le_trans (Nat.add_le_add L9.out HBL.out.2) (by decide)) A9.out.2.size ?_; intro v10 w10 o10 g10 at10; have kk10 : Kept [] w1 w10 := A9.out.2.grown g10 (fun x hx => .inr (own_ge A9.out.1 x hx)); obtain ⟨a10, ha10⟩ : ∃ a, a = a9 ++ after := ⟨_, rfl⟩; have R10 : Acc w1 w10 v10 a10 := ⟨(by rw [ha10, List.length_append, show u8s (a9 ++ after) = u8s a9 ++ u8s after from (by simp [u8s])]; exact o10), kk10⟩; have E10 : Hid (a10 = a9 ++ after ∧ a10.length = a9.length + after.length) := ⟨ha10, (by rw [ha10, List.length_append])⟩; obtain ⟨p10, d10, rfl⟩ := own_shape2 R10.1; clear o10 g10 at10 ha10)
  clear hsrc
  have A10 := @hideH _ R10
  have L10 := @hideH _ (show a10.length ≤ 278 by rw [E10.out.2]; exact Nat.add_le_add L9.out HBL.out.2)
  have kz := R10.2
  have n0 := (HBR.out.kept kz (by simp)).cell (j := 0) rfl
  have n1 := (HBR.out.kept kz (by simp)).cell (j := 1) rfl
  have n2 := (HBR.out.kept kz (by simp)).cell (j := 2) rfl
  have n3 := (HBR.out.kept kz (by simp)).cell (j := 3) rfl
  have n4 := (HBR.out.kept kz (by simp)).cell (j := 4) rfl
  have n5 := (HBR.out.kept kz (by simp)).cell (j := 5) rfl
  have n6 := (HBR.out.kept kz (by simp)).cell (j := 6) rfl
  have n7 := (HBR.out.kept kz (by simp)).cell (j := 7) rfl
  have n8 := (HBR.out.kept kz (by simp)).cell (j := 8) rfl
  have n9 := (HBR.out.kept kz (by simp)).cell (j := 9) rfl
  have n10 := (HBR.out.kept kz (by simp)).cell (j := 10) rfl
  clear kz R10 kk10 A9 c0 c1 c2 c3 c4 c5 c6 c7 c8 c9 c10
  have c0 := n0
  have c1 := n1
  have c2 := n2
  have c3 := n3
  have c4 := n4
  have c5 := n5
  have c6 := n6
  have c7 := n7
  have c8 := n8
  have c9 := n9
  have c10 := n10
  clear n0 n1 n2 n3 n4 n5 n6 n7 n8 n9 n10
  have hq := A10.out.put next 8 HB3.out.1 HB3.out.2 (by omega) (Nat.le_trans L10.out (by decide))
  go_wp2_with fail
  refine hq.mono ?_
  clear hq
  rintro e w11 ⟨u11, a11, rfl, E11, R11⟩
  obtain ⟨p11, d11, rfl⟩ := own_shape2 R11.1
  have A11 := @hideH _ R11
  have L11 := @hideH _ (show a11.length ≤ 286 by rw [E11.out.2]; exact Nat.add_le_add_right L10.out 8)
  have kz := R11.2
  have n0 := (HBR.out.kept kz (by simp)).cell (j := 0) rfl
  have n1 := (HBR.out.kept kz (by simp)).cell (j := 1) rfl
  have n2 := (HBR.out.kept kz (by simp)).cell (j := 2) rfl
  have n3 := (HBR.out.kept kz (by simp)).cell (j := 3) rfl
  have n4 := (HBR.out.kept kz (by simp)).cell (j := 4) rfl
  have n5 := (HBR.out.kept kz (by simp)).cell (j := 5) rfl
  have n6 := (HBR.out.kept kz (by simp)).cell (j := 6) rfl
  have n7 := (HBR.out.kept kz (by simp)).cell (j := 7) rfl
  have n8 := (HBR.out.kept kz (by simp)).cell (j := 8) rfl
  have n9 := (HBR.out.kept kz (by simp)).cell (j := 9) rfl
  have n10 := (HBR.out.kept kz (by simp)).cell (j := 10) rfl
  clear kz R11 A10 c0 c1 c2 c3 c4 c5 c6 c7 c8 c9 c10
  have c0 := n0
  have c1 := n1
  have c2 := n2
  have c3 := n3
  have c4 := n4
  have c5 := n5
  have c6 := n6
  have c7 := n7
  have c8 := n8
  have c9 := n9
  have c10 := n10
  clear n0 n1 n2 n3 n4 n5 n6 n7 n8 n9 n10
  have FIN := @hideH _ (show a11 = RB ∧ Acc w w11 (.slice p11 a11.length d11) a11 from ⟨by rw [HRB.out, E11.out.1, E10.out.1, E9.out.1, E8.out.1, E7.out.1, E6.out.1, E5.out.1, E4.out.1, E3.out.1, HB4.out]; simp [bytesR, tailB, HNA.out], own_baseK A11.out.1 K1.out.size, K1.out.then A11.out.2⟩)
  skip
  go_wp2
  go_ret2
  exact ⟨_, _, rfl, FIN.out⟩
end Go.Proofs.Ytebcmcmboomgfaa

/-
  OWN WORK (by mkrec5.py). The document's records (tidemarkref09): Bytes, of a right record of one kind.
-/
namespace Go.Proofs.Ytebcmcmboomgfaa
open Go.RowKit
set_option linter.unusedVariables false
set_option linter.unusedSimpArgs false

set_option maxRecDepth 20000 in
set_option maxHeartbeats 12800000 in
theorem rBytes_4 (V : RV) (birth prev id page frm : Int) (before after : List UInt8) (next : Int) (rows : List RowR) (dirty : List RecR) (w : World) (h : SeeR w V (⟨4, birth, prev, id, page, frm, before, after, next, rows, dirty⟩ : Rcd)) (hR : (⟨4, birth, prev, id, page, frm, before, after, next, rows, dirty⟩ : Rcd).Right) : Calls Try.prog 25 #[(⟨4, birth, prev, id, page, frm, before, after, next, rows, dirty⟩ : Rcd).agg V] w fun e w' => ∃ u acc, e = .returned (.tuple #[u, .int .i64 0]) ∧ acc = bytesR (⟨4, birth, prev, id, page, frm, before, after, next, rows, dirty⟩ : Rcd) ∧ Acc w w' u acc := by
  obtain ⟨pb, cb, pa, ca, pr, cr, pd, cd, rfl⟩ := h.shapes
  have hr := fun (wz : World) (kz : Kept [] w wz) => rRight _ (⟨4, birth, prev, id, page, frm, before, after, next, rows, dirty⟩ : Rcd) wz (h.kept kz)
  simp only [bl_t hR] at hr
  have HSE := @hideH _ h
  have HRR := @hideH _ hR
  obtain ⟨⟨-, -⟩, q2, q3, q4, q5, q6, q7⟩ := hR
  simp [lsnOk, nextOk, rangedOk, partsOk, listsOk] at q2 q3 q4 q5 q6 q7
  have HB1 := @hideH _ (show (0 ≤ birth ∧ birth ≤ 1152921504606846976) ∧ 0 ≤ prev ∧ prev ≤ 1152921504606846976 by omega)
  clear h q2 q3 q4 q5 q6 q7
  unfold Rcd.agg at hr ⊢
  dsimp only at hr ⊢
  obtain ⟨RB, hRB⟩ : ∃ RB, RB = bytesR (⟨4, birth, prev, id, page, frm, before, after, next, rows, dirty⟩ : Rcd) := ⟨_, rfl⟩
  rw [← hRB]
  have HRB := @hideH _ hRB
  clear hRB
  obtain ⟨nb, hnb⟩ : ∃ nb, nb = before.length := ⟨_, rfl⟩
  obtain ⟨na, hna⟩ : ∃ na, na = after.length := ⟨_, rfl⟩
  obtain ⟨nr, hnr⟩ : ∃ nr, nr = rows.length := ⟨_, rfl⟩
  obtain ⟨nd, hnd⟩ : ∃ nd, nd = dirty.length := ⟨_, rfl⟩
  simp only [← hnb, ← hna, ← hnr, ← hnd] at hr ⊢
  have HNB := @hideH _ hnb
  have HNA := @hideH _ hna
  have HNR := @hideH _ hnr
  have HND := @hideH _ hnd
  clear hnb hna hnr hnd
  obtain ⟨w1, hw1⟩ : ∃ w1, w1 = w.alloc (.cells #[.int .i64 4, .int .i64 birth, .int .i64 prev, .int .i64 id, .int .i64 page, .int .i64 frm, .slice pb nb cb, .slice pa na ca, .int .i64 next, .slice pr nr cr, .slice pd nd cd] 26) := ⟨_, rfl⟩
  have k1 : Kept [] w w1 := by rw [hw1]; exact (Kept.refl [] w).alloc _
  have bR : Blk w1 w.heap.size 26 [.int .i64 4, .int .i64 birth, .int .i64 prev, .int .i64 id, .int .i64 page, .int .i64 frm, .slice pb nb cb, .slice pa na ca, .int .i64 next, .slice pr nr cr, .slice pd nd cd] := by rw [hw1]; exact Blk.new w _ _
  have K1 := @hideH _ k1
  have HBR := @hideH _ bR
  have c0 := bR.cell (j := 0) rfl
  have c1 := bR.cell (j := 1) rfl
  have c2 := bR.cell (j := 2) rfl
  have c3 := bR.cell (j := 3) rfl
  have c4 := bR.cell (j := 4) rfl
  have c5 := bR.cell (j := 5) rfl
  have c6 := bR.cell (j := 6) rfl
  have c7 := bR.cell (j := 7) rfl
  have c8 := bR.cell (j := 8) rfl
  have c9 := bR.cell (j := 9) rfl
  have c10 := bR.cell (j := 10) rfl
  clear bR k1
  go_enter Try.func25, Try.ntmps25
  go_upto_region 1 with fail
  rw [← hw1]
  clear hw1
  go_wp2_with fail
  refine (hr _ K1.out).mono ?_
  clear hr
  rintro e w2 ⟨rfl, k2⟩
  have A2 := @hideH _ (Acc.nil k2)
  replace c0 := k2.cell c0 (by simp)
  replace c1 := k2.cell c1 (by simp)
  replace c2 := k2.cell c2 (by simp)
  replace c3 := k2.cell c3 (by simp)
  replace c4 := k2.cell c4 (by simp)
  replace c5 := k2.cell c5 (by simp)
  replace c6 := k2.cell c6 (by simp)
  replace c7 := k2.cell c7 (by simp)
  replace c8 := k2.cell c8 (by simp)
  replace c9 := k2.cell c9 (by simp)
  replace c10 := k2.cell c10 (by simp)
  clear k2
  have L2 := @hideH _ (show ([] : List UInt8).length ≤ 0 from Nat.le_refl _)
  have hq := A2.out.put 4 1 (by omega) (by omega) (by omega) (Nat.le_trans L2.out (by decide))
  go_wp2_with fail
  refine hq.mono ?_
  clear hq
  rintro e w3 ⟨u3, a3, rfl, E3, R3⟩
  obtain ⟨p3, d3, rfl⟩ := own_shape2 R3.1
  have A3 := @hideH _ R3
  have L3 := @hideH _ (show a3.length ≤ 1 by rw [E3.out.2]; exact Nat.add_le_add_right L2.out 1)
  have kz := R3.2
  have n0 := (HBR.out.kept kz (by simp)).cell (j := 0) rfl
  have n1 := (HBR.out.kept kz (by simp)).cell (j := 1) rfl
  have n2 := (HBR.out.kept kz (by simp)).cell (j := 2) rfl
  have n3 := (HBR.out.kept kz (by simp)).cell (j := 3) rfl
  have n4 := (HBR.out.kept kz (by simp)).cell (j := 4) rfl
  have n5 := (HBR.out.kept kz (by simp)).cell (j := 5) rfl
  have n6 := (HBR.out.kept kz (by simp)).cell (j := 6) rfl
  have n7 := (HBR.out.kept kz (by simp)).cell (j := 7) rfl
  have n8 := (HBR.out.kept kz (by simp)).cell (j := 8) rfl
  have n9 := (HBR.out.kept kz (by simp)).cell (j := 9) rfl
  have n10 := (HBR.out.kept kz (by simp)).cell (j := 10) rfl
  clear kz R3 A2 c0 c1 c2 c3 c4 c5 c6 c7 c8 c9 c10
  have c0 := n0
  have c1 := n1
  have c2 := n2
  have c3 := n3
  have c4 := n4
  have c5 := n5
  have c6 := n6
  have c7 := n7
  have c8 := n8
  have c9 := n9
  have c10 := n10
  clear n0 n1 n2 n3 n4 n5 n6 n7 n8 n9 n10
  have hq := A3.out.put birth 8 HB1.out.1.1 HB1.out.1.2 (by omega) (Nat.le_trans L3.out (by decide))
  go_wp2_with fail
  refine hq.mono ?_
  clear hq
  rintro e w4 ⟨u4, a4, rfl, E4, R4⟩
  obtain ⟨p4, d4, rfl⟩ := own_shape2 R4.1
  have A4 := @hideH _ R4
  have L4 := @hideH _ (show a4.length ≤ 9 by rw [E4.out.2]; exact Nat.add_le_add_right L3.out 8)
  have kz := R4.2
  have n0 := (HBR.out.kept kz (by simp)).cell (j := 0) rfl
  have n1 := (HBR.out.kept kz (by simp)).cell (j := 1) rfl
  have n2 := (HBR.out.kept kz (by simp)).cell (j := 2) rfl
  have n3 := (HBR.out.kept kz (by simp)).cell (j := 3) rfl
  have n4 := (HBR.out.kept kz (by simp)).cell (j := 4) rfl
  have n5 := (HBR.out.kept kz (by simp)).cell (j := 5) rfl
  have n6 := (HBR.out.kept kz (by simp)).cell (j := 6) rfl
  have n7 := (HBR.out.kept kz (by simp)).cell (j := 7) rfl
  have n8 := (HBR.out.kept kz (by simp)).cell (j := 8) rfl
  have n9 := (HBR.out.kept kz (by simp)).cell (j := 9) rfl
  have n10 := (HBR.out.kept kz (by simp)).cell (j := 10) rfl
  clear kz R4 A3 c0 c1 c2 c3 c4 c5 c6 c7 c8 c9 c10
  have c0 := n0
  have c1 := n1
  have c2 := n2
  have c3 := n3
  have c4 := n4
  have c5 := n5
  have c6 := n6
  have c7 := n7
  have c8 := n8
  have c9 := n9
  have c10 := n10
  clear n0 n1 n2 n3 n4 n5 n6 n7 n8 n9 n10
  have hq := A4.out.put prev 8 HB1.out.2.1 HB1.out.2.2 (by omega) (Nat.le_trans L4.out (by decide))
  go_wp2_with fail
  refine hq.mono ?_
  clear hq
  rintro e w5 ⟨u5, a5, rfl, E5, R5⟩
  obtain ⟨p5, d5, rfl⟩ := own_shape2 R5.1
  have A5 := @hideH _ R5
  have L5 := @hideH _ (show a5.length ≤ 17 by rw [E5.out.2]; exact Nat.add_le_add_right L4.out 8)
  have kz := R5.2
  have n0 := (HBR.out.kept kz (by simp)).cell (j := 0) rfl
  have n1 := (HBR.out.kept kz (by simp)).cell (j := 1) rfl
  have n2 := (HBR.out.kept kz (by simp)).cell (j := 2) rfl
  have n3 := (HBR.out.kept kz (by simp)).cell (j := 3) rfl
  have n4 := (HBR.out.kept kz (by simp)).cell (j := 4) rfl
  have n5 := (HBR.out.kept kz (by simp)).cell (j := 5) rfl
  have n6 := (HBR.out.kept kz (by simp)).cell (j := 6) rfl
  have n7 := (HBR.out.kept kz (by simp)).cell (j := 7) rfl
  have n8 := (HBR.out.kept kz (by simp)).cell (j := 8) rfl
  have n9 := (HBR.out.kept kz (by simp)).cell (j := 9) rfl
  have n10 := (HBR.out.kept kz (by simp)).cell (j := 10) rfl
  clear kz R5 A4 c0 c1 c2 c3 c4 c5 c6 c7 c8 c9 c10
  have c0 := n0
  have c1 := n1
  have c2 := n2
  have c3 := n3
  have c4 := n4
  have c5 := n5
  have c6 := n6
  have c7 := n7
  have c8 := n8
  have c9 := n9
  have c10 := n10
  clear n0 n1 n2 n3 n4 n5 n6 n7 n8 n9 n10
  have FIN := @hideH _ (show a5 = RB ∧ Acc w w5 (.slice p5 a5.length d5) a5 from ⟨by rw [HRB.out, E5.out.1, E4.out.1, E3.out.1]; simp [bytesR, tailB], own_baseK A5.out.1 K1.out.size, K1.out.then A5.out.2⟩)
  skip
  go_wp2
  go_ret2
  exact ⟨_, _, rfl, FIN.out⟩
end Go.Proofs.Ytebcmcmboomgfaa

/-
  OWN WORK (by mkrec5.py). The document's records (tidemarkref09): Bytes, of a right record of one kind.
-/
namespace Go.Proofs.Ytebcmcmboomgfaa
open Go.RowKit
set_option linter.unusedVariables false
set_option linter.unusedSimpArgs false

set_option maxRecDepth 20000 in
set_option maxHeartbeats 12800000 in
theorem rBytes_5 (V : RV) (birth prev id page frm : Int) (before after : List UInt8) (next : Int) (rows : List RowR) (dirty : List RecR) (w : World) (h : SeeR w V (⟨5, birth, prev, id, page, frm, before, after, next, rows, dirty⟩ : Rcd)) (hR : (⟨5, birth, prev, id, page, frm, before, after, next, rows, dirty⟩ : Rcd).Right) : Calls Try.prog 25 #[(⟨5, birth, prev, id, page, frm, before, after, next, rows, dirty⟩ : Rcd).agg V] w fun e w' => ∃ u acc, e = .returned (.tuple #[u, .int .i64 0]) ∧ acc = bytesR (⟨5, birth, prev, id, page, frm, before, after, next, rows, dirty⟩ : Rcd) ∧ Acc w w' u acc := by
  obtain ⟨pb, cb, pa, ca, pr, cr, pd, cd, rfl⟩ := h.shapes
  have hr := fun (wz : World) (kz : Kept [] w wz) => rRight _ (⟨5, birth, prev, id, page, frm, before, after, next, rows, dirty⟩ : Rcd) wz (h.kept kz)
  simp only [bl_t hR] at hr
  have HSE := @hideH _ h
  have HRR := @hideH _ hR
  obtain ⟨⟨-, -⟩, q2, q3, q4, q5, q6, q7⟩ := hR
  simp [lsnOk, nextOk, rangedOk, partsOk, listsOk] at q2 q3 q4 q5 q6 q7
  have HB1 := @hideH _ (show (0 ≤ birth ∧ birth ≤ 1152921504606846976) ∧ 0 ≤ prev ∧ prev ≤ 1152921504606846976 by omega)
  clear h q2 q3 q4 q5 q6 q7
  unfold Rcd.agg at hr ⊢
  dsimp only at hr ⊢
  obtain ⟨RB, hRB⟩ : ∃ RB, RB = bytesR (⟨5, birth, prev, id, page, frm, before, after, next, rows, dirty⟩ : Rcd) := ⟨_, rfl⟩
  rw [← hRB]
  have HRB := @hideH _ hRB
  clear hRB
  obtain ⟨nb, hnb⟩ : ∃ nb, nb = before.length := ⟨_, rfl⟩
  obtain ⟨na, hna⟩ : ∃ na, na = after.length := ⟨_, rfl⟩
  obtain ⟨nr, hnr⟩ : ∃ nr, nr = rows.length := ⟨_, rfl⟩
  obtain ⟨nd, hnd⟩ : ∃ nd, nd = dirty.length := ⟨_, rfl⟩
  simp only [← hnb, ← hna, ← hnr, ← hnd] at hr ⊢
  have HNB := @hideH _ hnb
  have HNA := @hideH _ hna
  have HNR := @hideH _ hnr
  have HND := @hideH _ hnd
  clear hnb hna hnr hnd
  obtain ⟨w1, hw1⟩ : ∃ w1, w1 = w.alloc (.cells #[.int .i64 5, .int .i64 birth, .int .i64 prev, .int .i64 id, .int .i64 page, .int .i64 frm, .slice pb nb cb, .slice pa na ca, .int .i64 next, .slice pr nr cr, .slice pd nd cd] 26) := ⟨_, rfl⟩
  have k1 : Kept [] w w1 := by rw [hw1]; exact (Kept.refl [] w).alloc _
  have bR : Blk w1 w.heap.size 26 [.int .i64 5, .int .i64 birth, .int .i64 prev, .int .i64 id, .int .i64 page, .int .i64 frm, .slice pb nb cb, .slice pa na ca, .int .i64 next, .slice pr nr cr, .slice pd nd cd] := by rw [hw1]; exact Blk.new w _ _
  have K1 := @hideH _ k1
  have HBR := @hideH _ bR
  have c0 := bR.cell (j := 0) rfl
  have c1 := bR.cell (j := 1) rfl
  have c2 := bR.cell (j := 2) rfl
  have c3 := bR.cell (j := 3) rfl
  have c4 := bR.cell (j := 4) rfl
  have c5 := bR.cell (j := 5) rfl
  have c6 := bR.cell (j := 6) rfl
  have c7 := bR.cell (j := 7) rfl
  have c8 := bR.cell (j := 8) rfl
  have c9 := bR.cell (j := 9) rfl
  have c10 := bR.cell (j := 10) rfl
  clear bR k1
  go_enter Try.func25, Try.ntmps25
  go_upto_region 1 with fail
  rw [← hw1]
  clear hw1
  go_wp2_with fail
  refine (hr _ K1.out).mono ?_
  clear hr
  rintro e w2 ⟨rfl, k2⟩
  have A2 := @hideH _ (Acc.nil k2)
  replace c0 := k2.cell c0 (by simp)
  replace c1 := k2.cell c1 (by simp)
  replace c2 := k2.cell c2 (by simp)
  replace c3 := k2.cell c3 (by simp)
  replace c4 := k2.cell c4 (by simp)
  replace c5 := k2.cell c5 (by simp)
  replace c6 := k2.cell c6 (by simp)
  replace c7 := k2.cell c7 (by simp)
  replace c8 := k2.cell c8 (by simp)
  replace c9 := k2.cell c9 (by simp)
  replace c10 := k2.cell c10 (by simp)
  clear k2
  have L2 := @hideH _ (show ([] : List UInt8).length ≤ 0 from Nat.le_refl _)
  have hq := A2.out.put 5 1 (by omega) (by omega) (by omega) (Nat.le_trans L2.out (by decide))
  go_wp2_with fail
  refine hq.mono ?_
  clear hq
  rintro e w3 ⟨u3, a3, rfl, E3, R3⟩
  obtain ⟨p3, d3, rfl⟩ := own_shape2 R3.1
  have A3 := @hideH _ R3
  have L3 := @hideH _ (show a3.length ≤ 1 by rw [E3.out.2]; exact Nat.add_le_add_right L2.out 1)
  have kz := R3.2
  have n0 := (HBR.out.kept kz (by simp)).cell (j := 0) rfl
  have n1 := (HBR.out.kept kz (by simp)).cell (j := 1) rfl
  have n2 := (HBR.out.kept kz (by simp)).cell (j := 2) rfl
  have n3 := (HBR.out.kept kz (by simp)).cell (j := 3) rfl
  have n4 := (HBR.out.kept kz (by simp)).cell (j := 4) rfl
  have n5 := (HBR.out.kept kz (by simp)).cell (j := 5) rfl
  have n6 := (HBR.out.kept kz (by simp)).cell (j := 6) rfl
  have n7 := (HBR.out.kept kz (by simp)).cell (j := 7) rfl
  have n8 := (HBR.out.kept kz (by simp)).cell (j := 8) rfl
  have n9 := (HBR.out.kept kz (by simp)).cell (j := 9) rfl
  have n10 := (HBR.out.kept kz (by simp)).cell (j := 10) rfl
  clear kz R3 A2 c0 c1 c2 c3 c4 c5 c6 c7 c8 c9 c10
  have c0 := n0
  have c1 := n1
  have c2 := n2
  have c3 := n3
  have c4 := n4
  have c5 := n5
  have c6 := n6
  have c7 := n7
  have c8 := n8
  have c9 := n9
  have c10 := n10
  clear n0 n1 n2 n3 n4 n5 n6 n7 n8 n9 n10
  have hq := A3.out.put birth 8 HB1.out.1.1 HB1.out.1.2 (by omega) (Nat.le_trans L3.out (by decide))
  go_wp2_with fail
  refine hq.mono ?_
  clear hq
  rintro e w4 ⟨u4, a4, rfl, E4, R4⟩
  obtain ⟨p4, d4, rfl⟩ := own_shape2 R4.1
  have A4 := @hideH _ R4
  have L4 := @hideH _ (show a4.length ≤ 9 by rw [E4.out.2]; exact Nat.add_le_add_right L3.out 8)
  have kz := R4.2
  have n0 := (HBR.out.kept kz (by simp)).cell (j := 0) rfl
  have n1 := (HBR.out.kept kz (by simp)).cell (j := 1) rfl
  have n2 := (HBR.out.kept kz (by simp)).cell (j := 2) rfl
  have n3 := (HBR.out.kept kz (by simp)).cell (j := 3) rfl
  have n4 := (HBR.out.kept kz (by simp)).cell (j := 4) rfl
  have n5 := (HBR.out.kept kz (by simp)).cell (j := 5) rfl
  have n6 := (HBR.out.kept kz (by simp)).cell (j := 6) rfl
  have n7 := (HBR.out.kept kz (by simp)).cell (j := 7) rfl
  have n8 := (HBR.out.kept kz (by simp)).cell (j := 8) rfl
  have n9 := (HBR.out.kept kz (by simp)).cell (j := 9) rfl
  have n10 := (HBR.out.kept kz (by simp)).cell (j := 10) rfl
  clear kz R4 A3 c0 c1 c2 c3 c4 c5 c6 c7 c8 c9 c10
  have c0 := n0
  have c1 := n1
  have c2 := n2
  have c3 := n3
  have c4 := n4
  have c5 := n5
  have c6 := n6
  have c7 := n7
  have c8 := n8
  have c9 := n9
  have c10 := n10
  clear n0 n1 n2 n3 n4 n5 n6 n7 n8 n9 n10
  have hq := A4.out.put prev 8 HB1.out.2.1 HB1.out.2.2 (by omega) (Nat.le_trans L4.out (by decide))
  go_wp2_with fail
  refine hq.mono ?_
  clear hq
  rintro e w5 ⟨u5, a5, rfl, E5, R5⟩
  obtain ⟨p5, d5, rfl⟩ := own_shape2 R5.1
  have A5 := @hideH _ R5
  have L5 := @hideH _ (show a5.length ≤ 17 by rw [E5.out.2]; exact Nat.add_le_add_right L4.out 8)
  have kz := R5.2
  have n0 := (HBR.out.kept kz (by simp)).cell (j := 0) rfl
  have n1 := (HBR.out.kept kz (by simp)).cell (j := 1) rfl
  have n2 := (HBR.out.kept kz (by simp)).cell (j := 2) rfl
  have n3 := (HBR.out.kept kz (by simp)).cell (j := 3) rfl
  have n4 := (HBR.out.kept kz (by simp)).cell (j := 4) rfl
  have n5 := (HBR.out.kept kz (by simp)).cell (j := 5) rfl
  have n6 := (HBR.out.kept kz (by simp)).cell (j := 6) rfl
  have n7 := (HBR.out.kept kz (by simp)).cell (j := 7) rfl
  have n8 := (HBR.out.kept kz (by simp)).cell (j := 8) rfl
  have n9 := (HBR.out.kept kz (by simp)).cell (j := 9) rfl
  have n10 := (HBR.out.kept kz (by simp)).cell (j := 10) rfl
  clear kz R5 A4 c0 c1 c2 c3 c4 c5 c6 c7 c8 c9 c10
  have c0 := n0
  have c1 := n1
  have c2 := n2
  have c3 := n3
  have c4 := n4
  have c5 := n5
  have c6 := n6
  have c7 := n7
  have c8 := n8
  have c9 := n9
  have c10 := n10
  clear n0 n1 n2 n3 n4 n5 n6 n7 n8 n9 n10
  have FIN := @hideH _ (show a5 = RB ∧ Acc w w5 (.slice p5 a5.length d5) a5 from ⟨by rw [HRB.out, E5.out.1, E4.out.1, E3.out.1]; simp [bytesR, tailB], own_baseK A5.out.1 K1.out.size, K1.out.then A5.out.2⟩)
  skip
  go_wp2
  go_ret2
  exact ⟨_, _, rfl, FIN.out⟩
end Go.Proofs.Ytebcmcmboomgfaa

/-
  OWN WORK (by mkrec5.py). The document's records (tidemarkref09): Bytes, of a right record of one kind.
-/
namespace Go.Proofs.Ytebcmcmboomgfaa
open Go.RowKit
set_option linter.unusedVariables false
set_option linter.unusedSimpArgs false

set_option maxRecDepth 20000 in
set_option maxHeartbeats 12800000 in
theorem rBytes_6 (V : RV) (birth prev id page frm : Int) (before after : List UInt8) (next : Int) (rows : List RowR) (dirty : List RecR) (w : World) (h : SeeR w V (⟨6, birth, prev, id, page, frm, before, after, next, rows, dirty⟩ : Rcd)) (hR : (⟨6, birth, prev, id, page, frm, before, after, next, rows, dirty⟩ : Rcd).Right) : Calls Try.prog 25 #[(⟨6, birth, prev, id, page, frm, before, after, next, rows, dirty⟩ : Rcd).agg V] w fun e w' => ∃ u acc, e = .returned (.tuple #[u, .int .i64 0]) ∧ acc = bytesR (⟨6, birth, prev, id, page, frm, before, after, next, rows, dirty⟩ : Rcd) ∧ Acc w w' u acc := by
  obtain ⟨pb, cb, pa, ca, pr, cr, pd, cd, rfl⟩ := h.shapes
  have hr := fun (wz : World) (kz : Kept [] w wz) => rRight _ (⟨6, birth, prev, id, page, frm, before, after, next, rows, dirty⟩ : Rcd) wz (h.kept kz)
  simp only [bl_t hR] at hr
  have HSE := @hideH _ h
  have HRR := @hideH _ hR
  obtain ⟨⟨-, -⟩, q2, q3, q4, q5, q6, q7⟩ := hR
  simp [lsnOk, nextOk, rangedOk, partsOk, listsOk] at q2 q3 q4 q5 q6 q7
  have HB1 := @hideH _ (show (0 ≤ birth ∧ birth ≤ 1152921504606846976) ∧ 0 ≤ prev ∧ prev ≤ 1152921504606846976 by omega)
  clear h q2 q3 q4 q5 q6 q7
  unfold Rcd.agg at hr ⊢
  dsimp only at hr ⊢
  obtain ⟨RB, hRB⟩ : ∃ RB, RB = bytesR (⟨6, birth, prev, id, page, frm, before, after, next, rows, dirty⟩ : Rcd) := ⟨_, rfl⟩
  rw [← hRB]
  have HRB := @hideH _ hRB
  clear hRB
  obtain ⟨nb, hnb⟩ : ∃ nb, nb = before.length := ⟨_, rfl⟩
  obtain ⟨na, hna⟩ : ∃ na, na = after.length := ⟨_, rfl⟩
  obtain ⟨nr, hnr⟩ : ∃ nr, nr = rows.length := ⟨_, rfl⟩
  obtain ⟨nd, hnd⟩ : ∃ nd, nd = dirty.length := ⟨_, rfl⟩
  simp only [← hnb, ← hna, ← hnr, ← hnd] at hr ⊢
  have HNB := @hideH _ hnb
  have HNA := @hideH _ hna
  have HNR := @hideH _ hnr
  have HND := @hideH _ hnd
  clear hnb hna hnr hnd
  obtain ⟨w1, hw1⟩ : ∃ w1, w1 = w.alloc (.cells #[.int .i64 6, .int .i64 birth, .int .i64 prev, .int .i64 id, .int .i64 page, .int .i64 frm, .slice pb nb cb, .slice pa na ca, .int .i64 next, .slice pr nr cr, .slice pd nd cd] 26) := ⟨_, rfl⟩
  have k1 : Kept [] w w1 := by rw [hw1]; exact (Kept.refl [] w).alloc _
  have bR : Blk w1 w.heap.size 26 [.int .i64 6, .int .i64 birth, .int .i64 prev, .int .i64 id, .int .i64 page, .int .i64 frm, .slice pb nb cb, .slice pa na ca, .int .i64 next, .slice pr nr cr, .slice pd nd cd] := by rw [hw1]; exact Blk.new w _ _
  have K1 := @hideH _ k1
  have HBR := @hideH _ bR
  have c0 := bR.cell (j := 0) rfl
  have c1 := bR.cell (j := 1) rfl
  have c2 := bR.cell (j := 2) rfl
  have c3 := bR.cell (j := 3) rfl
  have c4 := bR.cell (j := 4) rfl
  have c5 := bR.cell (j := 5) rfl
  have c6 := bR.cell (j := 6) rfl
  have c7 := bR.cell (j := 7) rfl
  have c8 := bR.cell (j := 8) rfl
  have c9 := bR.cell (j := 9) rfl
  have c10 := bR.cell (j := 10) rfl
  clear bR k1
  go_enter Try.func25, Try.ntmps25
  go_upto_region 1 with fail
  rw [← hw1]
  clear hw1
  go_wp2_with fail
  refine (hr _ K1.out).mono ?_
  clear hr
  rintro e w2 ⟨rfl, k2⟩
  have A2 := @hideH _ (Acc.nil k2)
  replace c0 := k2.cell c0 (by simp)
  replace c1 := k2.cell c1 (by simp)
  replace c2 := k2.cell c2 (by simp)
  replace c3 := k2.cell c3 (by simp)
  replace c4 := k2.cell c4 (by simp)
  replace c5 := k2.cell c5 (by simp)
  replace c6 := k2.cell c6 (by simp)
  replace c7 := k2.cell c7 (by simp)
  replace c8 := k2.cell c8 (by simp)
  replace c9 := k2.cell c9 (by simp)
  replace c10 := k2.cell c10 (by simp)
  clear k2
  have L2 := @hideH _ (show ([] : List UInt8).length ≤ 0 from Nat.le_refl _)
  have hq := A2.out.put 6 1 (by omega) (by omega) (by omega) (Nat.le_trans L2.out (by decide))
  go_wp2_with fail
  refine hq.mono ?_
  clear hq
  rintro e w3 ⟨u3, a3, rfl, E3, R3⟩
  obtain ⟨p3, d3, rfl⟩ := own_shape2 R3.1
  have A3 := @hideH _ R3
  have L3 := @hideH _ (show a3.length ≤ 1 by rw [E3.out.2]; exact Nat.add_le_add_right L2.out 1)
  have kz := R3.2
  have n0 := (HBR.out.kept kz (by simp)).cell (j := 0) rfl
  have n1 := (HBR.out.kept kz (by simp)).cell (j := 1) rfl
  have n2 := (HBR.out.kept kz (by simp)).cell (j := 2) rfl
  have n3 := (HBR.out.kept kz (by simp)).cell (j := 3) rfl
  have n4 := (HBR.out.kept kz (by simp)).cell (j := 4) rfl
  have n5 := (HBR.out.kept kz (by simp)).cell (j := 5) rfl
  have n6 := (HBR.out.kept kz (by simp)).cell (j := 6) rfl
  have n7 := (HBR.out.kept kz (by simp)).cell (j := 7) rfl
  have n8 := (HBR.out.kept kz (by simp)).cell (j := 8) rfl
  have n9 := (HBR.out.kept kz (by simp)).cell (j := 9) rfl
  have n10 := (HBR.out.kept kz (by simp)).cell (j := 10) rfl
  clear kz R3 A2 c0 c1 c2 c3 c4 c5 c6 c7 c8 c9 c10
  have c0 := n0
  have c1 := n1
  have c2 := n2
  have c3 := n3
  have c4 := n4
  have c5 := n5
  have c6 := n6
  have c7 := n7
  have c8 := n8
  have c9 := n9
  have c10 := n10
  clear n0 n1 n2 n3 n4 n5 n6 n7 n8 n9 n10
  have hq := A3.out.put birth 8 HB1.out.1.1 HB1.out.1.2 (by omega) (Nat.le_trans L3.out (by decide))
  go_wp2_with fail
  refine hq.mono ?_
  clear hq
  rintro e w4 ⟨u4, a4, rfl, E4, R4⟩
  obtain ⟨p4, d4, rfl⟩ := own_shape2 R4.1
  have A4 := @hideH _ R4
  have L4 := @hideH _ (show a4.length ≤ 9 by rw [E4.out.2]; exact Nat.add_le_add_right L3.out 8)
  have kz := R4.2
  have n0 := (HBR.out.kept kz (by simp)).cell (j := 0) rfl
  have n1 := (HBR.out.kept kz (by simp)).cell (j := 1) rfl
  have n2 := (HBR.out.kept kz (by simp)).cell (j := 2) rfl
  have n3 := (HBR.out.kept kz (by simp)).cell (j := 3) rfl
  have n4 := (HBR.out.kept kz (by simp)).cell (j := 4) rfl
  have n5 := (HBR.out.kept kz (by simp)).cell (j := 5) rfl
  have n6 := (HBR.out.kept kz (by simp)).cell (j := 6) rfl
  have n7 := (HBR.out.kept kz (by simp)).cell (j := 7) rfl
  have n8 := (HBR.out.kept kz (by simp)).cell (j := 8) rfl
  have n9 := (HBR.out.kept kz (by simp)).cell (j := 9) rfl
  have n10 := (HBR.out.kept kz (by simp)).cell (j := 10) rfl
  clear kz R4 A3 c0 c1 c2 c3 c4 c5 c6 c7 c8 c9 c10
  have c0 := n0
  have c1 := n1
  have c2 := n2
  have c3 := n3
  have c4 := n4
  have c5 := n5
  have c6 := n6
  have c7 := n7
  have c8 := n8
  have c9 := n9
  have c10 := n10
  clear n0 n1 n2 n3 n4 n5 n6 n7 n8 n9 n10
  have hq := A4.out.put prev 8 HB1.out.2.1 HB1.out.2.2 (by omega) (Nat.le_trans L4.out (by decide))
  go_wp2_with fail
  refine hq.mono ?_
  clear hq
  rintro e w5 ⟨u5, a5, rfl, E5, R5⟩
  obtain ⟨p5, d5, rfl⟩ := own_shape2 R5.1
  have A5 := @hideH _ R5
  have L5 := @hideH _ (show a5.length ≤ 17 by rw [E5.out.2]; exact Nat.add_le_add_right L4.out 8)
  have kz := R5.2
  have n0 := (HBR.out.kept kz (by simp)).cell (j := 0) rfl
  have n1 := (HBR.out.kept kz (by simp)).cell (j := 1) rfl
  have n2 := (HBR.out.kept kz (by simp)).cell (j := 2) rfl
  have n3 := (HBR.out.kept kz (by simp)).cell (j := 3) rfl
  have n4 := (HBR.out.kept kz (by simp)).cell (j := 4) rfl
  have n5 := (HBR.out.kept kz (by simp)).cell (j := 5) rfl
  have n6 := (HBR.out.kept kz (by simp)).cell (j := 6) rfl
  have n7 := (HBR.out.kept kz (by simp)).cell (j := 7) rfl
  have n8 := (HBR.out.kept kz (by simp)).cell (j := 8) rfl
  have n9 := (HBR.out.kept kz (by simp)).cell (j := 9) rfl
  have n10 := (HBR.out.kept kz (by simp)).cell (j := 10) rfl
  clear kz R5 A4 c0 c1 c2 c3 c4 c5 c6 c7 c8 c9 c10
  have c0 := n0
  have c1 := n1
  have c2 := n2
  have c3 := n3
  have c4 := n4
  have c5 := n5
  have c6 := n6
  have c7 := n7
  have c8 := n8
  have c9 := n9
  have c10 := n10
  clear n0 n1 n2 n3 n4 n5 n6 n7 n8 n9 n10
  have FIN := @hideH _ (show a5 = RB ∧ Acc w w5 (.slice p5 a5.length d5) a5 from ⟨by rw [HRB.out, E5.out.1, E4.out.1, E3.out.1]; simp [bytesR, tailB], own_baseK A5.out.1 K1.out.size, K1.out.then A5.out.2⟩)
  skip
  go_wp2
  go_ret2
  exact ⟨_, _, rfl, FIN.out⟩
end Go.Proofs.Ytebcmcmboomgfaa

/-
  OWN WORK (by mkrec5.py). The document's records (tidemarkref09): Bytes, of a right record of one kind.
-/
namespace Go.Proofs.Ytebcmcmboomgfaa
open Go.RowKit
set_option linter.unusedVariables false
set_option linter.unusedSimpArgs false

theorem flatB_take {α : Type} (f : α → List UInt8) {l : List α} {k : Nat} {x : α} (h : l[k]? = some x) : flatB f (l.take (k + 1)) = flatB f (l.take k) ++ f x := by
  obtain ⟨hk, rfl⟩ := List.getElem?_eq_some_iff.1 h
  have hf : ∀ (a b : List α), flatB f (a ++ b) = flatB f a ++ flatB f b := by
    intro a b
    induction a with
    | nil => rfl
    | cons y r ih => simp [flatB, ih]
  rw [List.take_add_one, List.getElem?_eq_getElem hk, Option.toList_some, hf]
  simp [flatB]
set_option maxRecDepth 20000 in
set_option maxHeartbeats 12800000 in
theorem rBytes_7 (V : RV) (birth prev id page frm : Int) (before after : List UInt8) (next : Int) (rows : List RowR) (dirty : List RecR) (w : World) (h : SeeR w V (⟨7, birth, prev, id, page, frm, before, after, next, rows, dirty⟩ : Rcd)) (hR : (⟨7, birth, prev, id, page, frm, before, after, next, rows, dirty⟩ : Rcd).Right) : Calls Try.prog 25 #[(⟨7, birth, prev, id, page, frm, before, after, next, rows, dirty⟩ : Rcd).agg V] w fun e w' => ∃ u acc, e = .returned (.tuple #[u, .int .i64 0]) ∧ acc = bytesR (⟨7, birth, prev, id, page, frm, before, after, next, rows, dirty⟩ : Rcd) ∧ Acc w w' u acc := by
  obtain ⟨pb, cb, pa, ca, pr, cr, pd, cd, rfl⟩ := h.shapes
  have hr := fun (wz : World) (kz : Kept [] w wz) => rRight _ (⟨7, birth, prev, id, page, frm, before, after, next, rows, dirty⟩ : Rcd) wz (h.kept kz)
  simp only [bl_t hR] at hr
  have HSE := @hideH _ h
  have HRR := @hideH _ hR
  obtain ⟨⟨-, -⟩, q2, q3, q4, q5, q6, q7⟩ := hR
  simp [lsnOk, nextOk, rangedOk, partsOk, listsOk] at q2 q3 q4 q5 q6 q7
  have HB1 := @hideH _ (show (0 ≤ birth ∧ birth ≤ 1152921504606846976) ∧ 0 ≤ prev ∧ prev ≤ 1152921504606846976 by omega)
  have HB2 := @hideH _ (show rows.length ≤ 8 ∧ dirty.length ≤ 16 from q4.1)
  have HB3 := @hideH _ (show (∀ x ∈ rows, rowOk x) ∧ ∀ x ∈ dirty, recOk x from ⟨q4.2.1.1, q4.2.2.1⟩)
  clear h q2 q3 q4 q5 q6 q7
  unfold Rcd.agg at hr ⊢
  dsimp only at hr ⊢
  obtain ⟨RB, hRB⟩ : ∃ RB, RB = bytesR (⟨7, birth, prev, id, page, frm, before, after, next, rows, dirty⟩ : Rcd) := ⟨_, rfl⟩
  rw [← hRB]
  have HRB := @hideH _ hRB
  clear hRB
  obtain ⟨nb, hnb⟩ : ∃ nb, nb = before.length := ⟨_, rfl⟩
  obtain ⟨na, hna⟩ : ∃ na, na = after.length := ⟨_, rfl⟩
  obtain ⟨nr, hnr⟩ : ∃ nr, nr = rows.length := ⟨_, rfl⟩
  obtain ⟨nd, hnd⟩ : ∃ nd, nd = dirty.length := ⟨_, rfl⟩
  simp only [← hnb, ← hna, ← hnr, ← hnd] at hr ⊢
  have HNB := @hideH _ hnb
  have HNA := @hideH _ hna
  have HNR := @hideH _ hnr
  have HND := @hideH _ hnd
  clear hnb hna hnr hnd
  obtain ⟨w1, hw1⟩ : ∃ w1, w1 = w.alloc (.cells #[.int .i64 7, .int .i64 birth, .int .i64 prev, .int .i64 id, .int .i64 page, .int .i64 frm, .slice pb nb cb, .slice pa na ca, .int .i64 next, .slice pr nr cr, .slice pd nd cd] 26) := ⟨_, rfl⟩
  have k1 : Kept [] w w1 := by rw [hw1]; exact (Kept.refl [] w).alloc _
  have bR : Blk w1 w.heap.size 26 [.int .i64 7, .int .i64 birth, .int .i64 prev, .int .i64 id, .int .i64 page, .int .i64 frm, .slice pb nb cb, .slice pa na ca, .int .i64 next, .slice pr nr cr, .slice pd nd cd] := by rw [hw1]; exact Blk.new w _ _
  have K1 := @hideH _ k1
  have HBR := @hideH _ bR
  have c0 := bR.cell (j := 0) rfl
  have c1 := bR.cell (j := 1) rfl
  have c2 := bR.cell (j := 2) rfl
  have c3 := bR.cell (j := 3) rfl
  have c4 := bR.cell (j := 4) rfl
  have c5 := bR.cell (j := 5) rfl
  have c6 := bR.cell (j := 6) rfl
  have c7 := bR.cell (j := 7) rfl
  have c8 := bR.cell (j := 8) rfl
  have c9 := bR.cell (j := 9) rfl
  have c10 := bR.cell (j := 10) rfl
  clear bR k1
  go_enter Try.func25, Try.ntmps25
  go_upto_region 1 with fail
  rw [← hw1]
  clear hw1
  go_wp2_with fail
  refine (hr _ K1.out).mono ?_
  clear hr
  rintro e w2 ⟨rfl, k2⟩
  have A2 := @hideH _ (Acc.nil k2)
  replace c0 := k2.cell c0 (by simp)
  replace c1 := k2.cell c1 (by simp)
  replace c2 := k2.cell c2 (by simp)
  replace c3 := k2.cell c3 (by simp)
  replace c4 := k2.cell c4 (by simp)
  replace c5 := k2.cell c5 (by simp)
  replace c6 := k2.cell c6 (by simp)
  replace c7 := k2.cell c7 (by simp)
  replace c8 := k2.cell c8 (by simp)
  replace c9 := k2.cell c9 (by simp)
  replace c10 := k2.cell c10 (by simp)
  clear k2
  have L2 := @hideH _ (show ([] : List UInt8).length ≤ 0 from Nat.le_refl _)
  have hq := A2.out.put 7 1 (by omega) (by omega) (by omega) (Nat.le_trans L2.out (by decide))
  go_wp2_with fail
  refine hq.mono ?_
  clear hq
  rintro e w3 ⟨u3, a3, rfl, E3, R3⟩
  obtain ⟨p3, d3, rfl⟩ := own_shape2 R3.1
  have A3 := @hideH _ R3
  have L3 := @hideH _ (show a3.length ≤ 1 by rw [E3.out.2]; exact Nat.add_le_add_right L2.out 1)
  have kz := R3.2
  have n0 := (HBR.out.kept kz (by simp)).cell (j := 0) rfl
  have n1 := (HBR.out.kept kz (by simp)).cell (j := 1) rfl
  have n2 := (HBR.out.kept kz (by simp)).cell (j := 2) rfl
  have n3 := (HBR.out.kept kz (by simp)).cell (j := 3) rfl
  have n4 := (HBR.out.kept kz (by simp)).cell (j := 4) rfl
  have n5 := (HBR.out.kept kz (by simp)).cell (j := 5) rfl
  have n6 := (HBR.out.kept kz (by simp)).cell (j := 6) rfl
  have n7 := (HBR.out.kept kz (by simp)).cell (j := 7) rfl
  have n8 := (HBR.out.kept kz (by simp)).cell (j := 8) rfl
  have n9 := (HBR.out.kept kz (by simp)).cell (j := 9) rfl
  have n10 := (HBR.out.kept kz (by simp)).cell (j := 10) rfl
  clear kz R3 A2 c0 c1 c2 c3 c4 c5 c6 c7 c8 c9 c10
  have c0 := n0
  have c1 := n1
  have c2 := n2
  have c3 := n3
  have c4 := n4
  have c5 := n5
  have c6 := n6
  have c7 := n7
  have c8 := n8
  have c9 := n9
  have c10 := n10
  clear n0 n1 n2 n3 n4 n5 n6 n7 n8 n9 n10
  have hq := A3.out.put birth 8 HB1.out.1.1 HB1.out.1.2 (by omega) (Nat.le_trans L3.out (by decide))
  go_wp2_with fail
  refine hq.mono ?_
  clear hq
  rintro e w4 ⟨u4, a4, rfl, E4, R4⟩
  obtain ⟨p4, d4, rfl⟩ := own_shape2 R4.1
  have A4 := @hideH _ R4
  have L4 := @hideH _ (show a4.length ≤ 9 by rw [E4.out.2]; exact Nat.add_le_add_right L3.out 8)
  have kz := R4.2
  have n0 := (HBR.out.kept kz (by simp)).cell (j := 0) rfl
  have n1 := (HBR.out.kept kz (by simp)).cell (j := 1) rfl
  have n2 := (HBR.out.kept kz (by simp)).cell (j := 2) rfl
  have n3 := (HBR.out.kept kz (by simp)).cell (j := 3) rfl
  have n4 := (HBR.out.kept kz (by simp)).cell (j := 4) rfl
  have n5 := (HBR.out.kept kz (by simp)).cell (j := 5) rfl
  have n6 := (HBR.out.kept kz (by simp)).cell (j := 6) rfl
  have n7 := (HBR.out.kept kz (by simp)).cell (j := 7) rfl
  have n8 := (HBR.out.kept kz (by simp)).cell (j := 8) rfl
  have n9 := (HBR.out.kept kz (by simp)).cell (j := 9) rfl
  have n10 := (HBR.out.kept kz (by simp)).cell (j := 10) rfl
  clear kz R4 A3 c0 c1 c2 c3 c4 c5 c6 c7 c8 c9 c10
  have c0 := n0
  have c1 := n1
  have c2 := n2
  have c3 := n3
  have c4 := n4
  have c5 := n5
  have c6 := n6
  have c7 := n7
  have c8 := n8
  have c9 := n9
  have c10 := n10
  clear n0 n1 n2 n3 n4 n5 n6 n7 n8 n9 n10
  have hq := A4.out.put prev 8 HB1.out.2.1 HB1.out.2.2 (by omega) (Nat.le_trans L4.out (by decide))
  go_wp2_with fail
  refine hq.mono ?_
  clear hq
  rintro e w5 ⟨u5, a5, rfl, E5, R5⟩
  obtain ⟨p5, d5, rfl⟩ := own_shape2 R5.1
  have A5 := @hideH _ R5
  have L5 := @hideH _ (show a5.length ≤ 17 by rw [E5.out.2]; exact Nat.add_le_add_right L4.out 8)
  have kz := R5.2
  have n0 := (HBR.out.kept kz (by simp)).cell (j := 0) rfl
  have n1 := (HBR.out.kept kz (by simp)).cell (j := 1) rfl
  have n2 := (HBR.out.kept kz (by simp)).cell (j := 2) rfl
  have n3 := (HBR.out.kept kz (by simp)).cell (j := 3) rfl
  have n4 := (HBR.out.kept kz (by simp)).cell (j := 4) rfl
  have n5 := (HBR.out.kept kz (by simp)).cell (j := 5) rfl
  have n6 := (HBR.out.kept kz (by simp)).cell (j := 6) rfl
  have n7 := (HBR.out.kept kz (by simp)).cell (j := 7) rfl
  have n8 := (HBR.out.kept kz (by simp)).cell (j := 8) rfl
  have n9 := (HBR.out.kept kz (by simp)).cell (j := 9) rfl
  have n10 := (HBR.out.kept kz (by simp)).cell (j := 10) rfl
  clear kz R5 A4 c0 c1 c2 c3 c4 c5 c6 c7 c8 c9 c10
  have c0 := n0
  have c1 := n1
  have c2 := n2
  have c3 := n3
  have c4 := n4
  have c5 := n5
  have c6 := n6
  have c7 := n7
  have c8 := n8
  have c9 := n9
  have c10 := n10
  clear n0 n1 n2 n3 n4 n5 n6 n7 n8 n9 n10
  have hq := A5.out.put (nr : Int) 1 (by omega) (by have l1 := HB2.out.1; have l2 := HNR.out; omega) (by omega) (Nat.le_trans L5.out (by decide))
  go_wp2_with fail
  refine hq.mono ?_
  clear hq
  rintro e w6 ⟨u6, a6, rfl, E6, R6⟩
  obtain ⟨p6, d6, rfl⟩ := own_shape2 R6.1
  have A6 := @hideH _ R6
  have L6 := @hideH _ (show a6.length ≤ 18 by rw [E6.out.2]; exact Nat.add_le_add_right L5.out 1)
  have kz := R6.2
  have n0 := (HBR.out.kept kz (by simp)).cell (j := 0) rfl
  have n1 := (HBR.out.kept kz (by simp)).cell (j := 1) rfl
  have n2 := (HBR.out.kept kz (by simp)).cell (j := 2) rfl
  have n3 := (HBR.out.kept kz (by simp)).cell (j := 3) rfl
  have n4 := (HBR.out.kept kz (by simp)).cell (j := 4) rfl
  have n5 := (HBR.out.kept kz (by simp)).cell (j := 5) rfl
  have n6 := (HBR.out.kept kz (by simp)).cell (j := 6) rfl
  have n7 := (HBR.out.kept kz (by simp)).cell (j := 7) rfl
  have n8 := (HBR.out.kept kz (by simp)).cell (j := 8) rfl
  have n9 := (HBR.out.kept kz (by simp)).cell (j := 9) rfl
  have n10 := (HBR.out.kept kz (by simp)).cell (j := 10) rfl
  clear kz R6 A5 c0 c1 c2 c3 c4 c5 c6 c7 c8 c9 c10
  have c0 := n0
  have c1 := n1
  have c2 := n2
  have c3 := n3
  have c4 := n4
  have c5 := n5
  have c6 := n6
  have c7 := n7
  have c8 := n8
  have c9 := n9
  have c10 := n10
  clear n0 n1 n2 n3 n4 n5 n6 n7 n8 n9 n10
  have EB := @hideH _ (show a6 = putN 1 (7 : Int).toNat ++ (putN 8 birth.toNat ++ (putN 8 prev.toNat ++ putN 1 nr)) by rw [E6.out.1, E5.out.1, E4.out.1, E3.out.1]; simp)
  have HNR8 := @hideH _ (show nr ≤ 8 by rw [HNR.out]; exact HB2.out.1)
  have HND16 := @hideH _ (show nd ≤ 16 by rw [HND.out]; exact HB2.out.2)
  clear E3 E4 E5 E6
  go_wp2
  go_loopw [4, 5] (fun vb vi wr => ∃ (k : Nat) (acc : List UInt8), k ≤ nr ∧ vi = .int .i64 k ∧ Hid (acc = a6 ++ flatB rowB (rows.take k) ∧ acc.length ≤ 20 + k * 26 ∧ Acc w1 wr vb acc)) (fun _ vi _ => nr - (intOf vi).toNat)
  case atStart => exact ⟨0, a6, Nat.zero_le _, rfl, by simp [flatB], Nat.le_trans L6.out (by decide), A6.out⟩
  case round =>
    clear A6 L6 c0 c1 c2 c3 c4 c5 c6 c7 c8 c9 c10
    obtain ⟨k, acc, hk, rfl, hh⟩ := hrel
    have c0 := (HBR.out.kept hh.out.2.2.2 (by simp)).cell (j := 0) rfl
    have c1 := (HBR.out.kept hh.out.2.2.2 (by simp)).cell (j := 1) rfl
    have c2 := (HBR.out.kept hh.out.2.2.2 (by simp)).cell (j := 2) rfl
    have c3 := (HBR.out.kept hh.out.2.2.2 (by simp)).cell (j := 3) rfl
    have c4 := (HBR.out.kept hh.out.2.2.2 (by simp)).cell (j := 4) rfl
    have c5 := (HBR.out.kept hh.out.2.2.2 (by simp)).cell (j := 5) rfl
    have c6 := (HBR.out.kept hh.out.2.2.2 (by simp)).cell (j := 6) rfl
    have c7 := (HBR.out.kept hh.out.2.2.2 (by simp)).cell (j := 7) rfl
    have c8 := (HBR.out.kept hh.out.2.2.2 (by simp)).cell (j := 8) rfl
    have c9 := (HBR.out.kept hh.out.2.2.2 (by simp)).cell (j := 9) rfl
    have c10 := (HBR.out.kept hh.out.2.2.2 (by simp)).cell (j := 10) rfl
    obtain ⟨pv, cv, rfl⟩ := own_shape2 hh.out.2.2.1
    by_cases hkl : k < nr
    · have hkl' : (k : Int) < (nr : Int) := by omega
      have hk0 : (0 : Int) ≤ (k : Int) := by omega
      have wk : IntKind.i64.wrap ((k : Int) + 1) = (k : Int) + 1 := wrap_i64_of (by omega) (by have := HNR8.out; omega)
      obtain ⟨x, hx⟩ : ∃ x, rows[k]? = some x := ⟨_, List.getElem?_eq_getElem (by rw [← HNR.out]; exact hkl)⟩
      obtain ⟨br, orr, cr', er, hcx⟩ := (show Cs w1 5 (.slice pr nr cr) rows.length (rcells rows) from (by have := (HSE.out.kept K1.out).rows; dsimp only at this; rw [← HNR.out] at this ⊢; exact this)).rowAt (by rw [← HNR.out]; omega)
      obtain rfl : pr = some ⟨br, orr, none⟩ := by simp at er; exact er.1
      have HX := @hideH _ (hcx k x hx)
      have HXX := @hideH _ hx
      have HRO := @hideH _ (HB3.out.1 x (List.mem_of_getElem? hx))
      have A20 := @hideH _ hh.out.2.2
      have L20 := @hideH _ (show acc.length ≤ 228 from Nat.le_trans hh.out.2.1 (by have := HNR8.out; omega))
      have HH := hh
      clear hh er hcx hx
      have x0 := A20.out.2.cell HX.out.1 (by simp)
      have x1 := A20.out.2.cell HX.out.2.1 (by simp)
      have x2 := A20.out.2.cell HX.out.2.2.1 (by simp)
      have x3 := A20.out.2.cell HX.out.2.2.2.1 (by simp)
      have x4 := A20.out.2.cell HX.out.2.2.2.2 (by simp)
      have hq := A20.out.put x.birth 8 (by have := HRO.out.1.1; omega) HRO.out.1.2 (by omega) (Nat.le_trans L20.out (by decide))
      go_wp2_with fail
      refine hq.mono ?_
      clear hq
      rintro e w21 ⟨u21, a21, rfl, E21, R21⟩
      obtain ⟨p21, d21, rfl⟩ := own_shape2 R21.1
      have A21 := @hideH _ R21
      have L21 := @hideH _ (show a21.length ≤ 236 by rw [E21.out.2]; exact Nat.add_le_add_right L20.out 8)
      have kz := R21.2
      clear c0 c1 c2 c3 c4 c5 c6 c7 c8 c9 c10 x0 x1 x2 x3 x4
      have c0 := (HBR.out.kept kz (by simp)).cell (j := 0) rfl
      have c1 := (HBR.out.kept kz (by simp)).cell (j := 1) rfl
      have c2 := (HBR.out.kept kz (by simp)).cell (j := 2) rfl
      have c3 := (HBR.out.kept kz (by simp)).cell (j := 3) rfl
      have c4 := (HBR.out.kept kz (by simp)).cell (j := 4) rfl
      have c5 := (HBR.out.kept kz (by simp)).cell (j := 5) rfl
      have c6 := (HBR.out.kept kz (by simp)).cell (j := 6) rfl
      have c7 := (HBR.out.kept kz (by simp)).cell (j := 7) rfl
      have c8 := (HBR.out.kept kz (by simp)).cell (j := 8) rfl
      have c9 := (HBR.out.kept kz (by simp)).cell (j := 9) rfl
      have c10 := (HBR.out.kept kz (by simp)).cell (j := 10) rfl
      clear kz R21
      have x0 := A21.out.2.cell HX.out.1 (by simp)
      have x1 := A21.out.2.cell HX.out.2.1 (by simp)
      have x2 := A21.out.2.cell HX.out.2.2.1 (by simp)
      have x3 := A21.out.2.cell HX.out.2.2.2.1 (by simp)
      have x4 := A21.out.2.cell HX.out.2.2.2.2 (by simp)
      have hq := A21.out.put x.id 1 (by have := HRO.out.2.1; omega) (by have := HRO.out.2.1; omega) (by omega) (Nat.le_trans L21.out (by decide))
      go_wp2_with fail
      refine hq.mono ?_
      clear hq
      rintro e w22 ⟨u22, a22, rfl, E22, R22⟩
      obtain ⟨p22, d22, rfl⟩ := own_shape2 R22.1
      have A22 := @hideH _ R22
      have L22 := @hideH _ (show a22.length ≤ 237 by rw [E22.out.2]; exact Nat.add_le_add_right L21.out 1)
      have kz := R22.2
      clear c0 c1 c2 c3 c4 c5 c6 c7 c8 c9 c10 x0 x1 x2 x3 x4
      have c0 := (HBR.out.kept kz (by simp)).cell (j := 0) rfl
      have c1 := (HBR.out.kept kz (by simp)).cell (j := 1) rfl
      have c2 := (HBR.out.kept kz (by simp)).cell (j := 2) rfl
      have c3 := (HBR.out.kept kz (by simp)).cell (j := 3) rfl
      have c4 := (HBR.out.kept kz (by simp)).cell (j := 4) rfl
      have c5 := (HBR.out.kept kz (by simp)).cell (j := 5) rfl
      have c6 := (HBR.out.kept kz (by simp)).cell (j := 6) rfl
      have c7 := (HBR.out.kept kz (by simp)).cell (j := 7) rfl
      have c8 := (HBR.out.kept kz (by simp)).cell (j := 8) rfl
      have c9 := (HBR.out.kept kz (by simp)).cell (j := 9) rfl
      have c10 := (HBR.out.kept kz (by simp)).cell (j := 10) rfl
      clear kz R22
      have x0 := A22.out.2.cell HX.out.1 (by simp)
      have x1 := A22.out.2.cell HX.out.2.1 (by simp)
      have x2 := A22.out.2.cell HX.out.2.2.1 (by simp)
      have x3 := A22.out.2.cell HX.out.2.2.2.1 (by simp)
      have x4 := A22.out.2.cell HX.out.2.2.2.2 (by simp)
      have hq := A22.out.put x.state 1 (by rcases HRO.out.2.2.1 with e | e <;> rw [e] <;> decide) (by rcases HRO.out.2.2.1 with e | e <;> rw [e] <;> decide) (by omega) (Nat.le_trans L22.out (by decide))
      go_wp2_with fail
      refine hq.mono ?_
      clear hq
      rintro e w23 ⟨u23, a23, rfl, E23, R23⟩
      obtain ⟨p23, d23, rfl⟩ := own_shape2 R23.1
      have A23 := @hideH _ R23
      have L23 := @hideH _ (show a23.length ≤ 238 by rw [E23.out.2]; exact Nat.add_le_add_right L22.out 1)
      have kz := R23.2
      clear c0 c1 c2 c3 c4 c5 c6 c7 c8 c9 c10 x0 x1 x2 x3 x4
      have c0 := (HBR.out.kept kz (by simp)).cell (j := 0) rfl
      have c1 := (HBR.out.kept kz (by simp)).cell (j := 1) rfl
      have c2 := (HBR.out.kept kz (by simp)).cell (j := 2) rfl
      have c3 := (HBR.out.kept kz (by simp)).cell (j := 3) rfl
      have c4 := (HBR.out.kept kz (by simp)).cell (j := 4) rfl
      have c5 := (HBR.out.kept kz (by simp)).cell (j := 5) rfl
      have c6 := (HBR.out.kept kz (by simp)).cell (j := 6) rfl
      have c7 := (HBR.out.kept kz (by simp)).cell (j := 7) rfl
      have c8 := (HBR.out.kept kz (by simp)).cell (j := 8) rfl
      have c9 := (HBR.out.kept kz (by simp)).cell (j := 9) rfl
      have c10 := (HBR.out.kept kz (by simp)).cell (j := 10) rfl
      clear kz R23
      have x0 := A23.out.2.cell HX.out.1 (by simp)
      have x1 := A23.out.2.cell HX.out.2.1 (by simp)
      have x2 := A23.out.2.cell HX.out.2.2.1 (by simp)
      have x3 := A23.out.2.cell HX.out.2.2.2.1 (by simp)
      have x4 := A23.out.2.cell HX.out.2.2.2.2 (by simp)
      have hq := A23.out.put x.last 8 (by have := HRO.out.2.2.2.1.1; omega) HRO.out.2.2.2.1.2 (by omega) (Nat.le_trans L23.out (by decide))
      go_wp2_with fail
      refine hq.mono ?_
      clear hq
      rintro e w24 ⟨u24, a24, rfl, E24, R24⟩
      obtain ⟨p24, d24, rfl⟩ := own_shape2 R24.1
      have A24 := @hideH _ R24
      have L24 := @hideH _ (show a24.length ≤ 246 by rw [E24.out.2]; exact Nat.add_le_add_right L23.out 8)
      have kz := R24.2
      clear c0 c1 c2 c3 c4 c5 c6 c7 c8 c9 c10 x0 x1 x2 x3 x4
      have c0 := (HBR.out.kept kz (by simp)).cell (j := 0) rfl
      have c1 := (HBR.out.kept kz (by simp)).cell (j := 1) rfl
      have c2 := (HBR.out.kept kz (by simp)).cell (j := 2) rfl
      have c3 := (HBR.out.kept kz (by simp)).cell (j := 3) rfl
      have c4 := (HBR.out.kept kz (by simp)).cell (j := 4) rfl
      have c5 := (HBR.out.kept kz (by simp)).cell (j := 5) rfl
      have c6 := (HBR.out.kept kz (by simp)).cell (j := 6) rfl
      have c7 := (HBR.out.kept kz (by simp)).cell (j := 7) rfl
      have c8 := (HBR.out.kept kz (by simp)).cell (j := 8) rfl
      have c9 := (HBR.out.kept kz (by simp)).cell (j := 9) rfl
      have c10 := (HBR.out.kept kz (by simp)).cell (j := 10) rfl
      clear kz R24
      have x0 := A24.out.2.cell HX.out.1 (by simp)
      have x1 := A24.out.2.cell HX.out.2.1 (by simp)
      have x2 := A24.out.2.cell HX.out.2.2.1 (by simp)
      have x3 := A24.out.2.cell HX.out.2.2.2.1 (by simp)
      have x4 := A24.out.2.cell HX.out.2.2.2.2 (by simp)
      have hq := A24.out.put x.next 8 HRO.out.2.2.2.2.1 HRO.out.2.2.2.2.2 (by omega) (Nat.le_trans L24.out (by decide))
      go_wp2_with fail
      refine hq.mono ?_
      clear hq
      rintro e w25 ⟨u25, a25, rfl, E25, R25⟩
      obtain ⟨p25, d25, rfl⟩ := own_shape2 R25.1
      have A25 := @hideH _ R25
      have L25 := @hideH _ (show a25.length ≤ 254 by rw [E25.out.2]; exact Nat.add_le_add_right L24.out 8)
      have kz := R25.2
      clear c0 c1 c2 c3 c4 c5 c6 c7 c8 c9 c10 x0 x1 x2 x3 x4
      have c0 := (HBR.out.kept kz (by simp)).cell (j := 0) rfl
      have c1 := (HBR.out.kept kz (by simp)).cell (j := 1) rfl
      have c2 := (HBR.out.kept kz (by simp)).cell (j := 2) rfl
      have c3 := (HBR.out.kept kz (by simp)).cell (j := 3) rfl
      have c4 := (HBR.out.kept kz (by simp)).cell (j := 4) rfl
      have c5 := (HBR.out.kept kz (by simp)).cell (j := 5) rfl
      have c6 := (HBR.out.kept kz (by simp)).cell (j := 6) rfl
      have c7 := (HBR.out.kept kz (by simp)).cell (j := 7) rfl
      have c8 := (HBR.out.kept kz (by simp)).cell (j := 8) rfl
      have c9 := (HBR.out.kept kz (by simp)).cell (j := 9) rfl
      have c10 := (HBR.out.kept kz (by simp)).cell (j := 10) rfl
      clear kz R25
      have REL := @hideH _ (show a25 = a6 ++ flatB rowB (rows.take (k + 1)) ∧ a25.length ≤ 20 + (k + 1) * 26 ∧ Acc w1 w25 (.slice p25 a25.length d25) a25 from ⟨by rw [flatB_take rowB HXX.out, E25.out.1, E24.out.1, E23.out.1, E22.out.1, E21.out.1, HH.out.1]; simp [rowB], by have g0 := HH.out.2.1; have g_E21 := E21.out.2; have g_E22 := E22.out.2; have g_E23 := E23.out.2; have g_E24 := E24.out.2; have g_E25 := E25.out.2; omega, A25.out⟩)
      clear HH E21 E22 E23 E24 E25 A20 L20 A21 L21 A22 L22 A23 L23 A24 L24 A25 L25
      go_wp2
      go_roundw
      case rel => exact ⟨k + 1, a25, by omega, by go_num, REL⟩
      case measure => simp [intOf]; omega
    · have hkl' : ¬ (k : Int) < (nr : Int) := by omega
      have hke : k = rows.length := by have := HNR.out; omega
      have EC := @hideH _ (show acc = a6 ++ flatB rowB rows by have e1 := hh.out.1; rw [hke, List.take_length] at e1; exact e1)
      have LC := @hideH _ (show acc.length ≤ 228 from Nat.le_trans hh.out.2.1 (by have := HNR8.out; omega))
      have A40 := @hideH _ hh.out.2.2
      have L40 := LC
      obtain ⟨wo, rfl⟩ : ∃ wo, wo = wr := ⟨_, rfl⟩
      clear hh hke
      have hq := A40.out.put (nd : Int) 1 (by omega) (by have := HND16.out; omega) (by omega) (Nat.le_trans L40.out (by decide))
      go_wp2_with fail
      refine hq.mono ?_
      clear hq
      rintro e w41 ⟨u41, a41, rfl, E41, R41⟩
      obtain ⟨p41, d41, rfl⟩ := own_shape2 R41.1
      have A41 := @hideH _ R41
      have L41 := @hideH _ (show a41.length ≤ 229 by rw [E41.out.2]; exact Nat.add_le_add_right L40.out 1)
      have kz := R41.2
      clear c0 c1 c2 c3 c4 c5 c6 c7 c8 c9 c10 
      have c0 := (HBR.out.kept kz (by simp)).cell (j := 0) rfl
      have c1 := (HBR.out.kept kz (by simp)).cell (j := 1) rfl
      have c2 := (HBR.out.kept kz (by simp)).cell (j := 2) rfl
      have c3 := (HBR.out.kept kz (by simp)).cell (j := 3) rfl
      have c4 := (HBR.out.kept kz (by simp)).cell (j := 4) rfl
      have c5 := (HBR.out.kept kz (by simp)).cell (j := 5) rfl
      have c6 := (HBR.out.kept kz (by simp)).cell (j := 6) rfl
      have c7 := (HBR.out.kept kz (by simp)).cell (j := 7) rfl
      have c8 := (HBR.out.kept kz (by simp)).cell (j := 8) rfl
      have c9 := (HBR.out.kept kz (by simp)).cell (j := 9) rfl
      have c10 := (HBR.out.kept kz (by simp)).cell (j := 10) rfl
      clear kz R41
      have ED := @hideH _ (show a41 = acc ++ putN 1 nd by rw [E41.out.1]; simp)
      have L41b := L41
      clear E41 L40 A40
      go_wp2
      go_loopw [4, 6] (fun vb vi wr => ∃ (q : Nat) (acd : List UInt8), q ≤ nd ∧ vi = .int .i64 q ∧ Hid (acd = a41 ++ flatB recB (dirty.take q) ∧ acd.length ≤ 229 + q * 9 ∧ Acc w1 wr vb acd)) (fun _ vi _ => nd - (intOf vi).toNat)
      case atStart => exact ⟨0, a41, Nat.zero_le _, rfl, by simp [flatB], Nat.le_trans L41.out (by decide), A41.out⟩
      case round =>
        clear A41 L41 L41b c0 c1 c2 c3 c4 c5 c6 c7 c8 c9 c10
        obtain ⟨q, acd, hq, rfl, hh⟩ := hrel
        have c0 := (HBR.out.kept hh.out.2.2.2 (by simp)).cell (j := 0) rfl
        have c1 := (HBR.out.kept hh.out.2.2.2 (by simp)).cell (j := 1) rfl
        have c2 := (HBR.out.kept hh.out.2.2.2 (by simp)).cell (j := 2) rfl
        have c3 := (HBR.out.kept hh.out.2.2.2 (by simp)).cell (j := 3) rfl
        have c4 := (HBR.out.kept hh.out.2.2.2 (by simp)).cell (j := 4) rfl
        have c5 := (HBR.out.kept hh.out.2.2.2 (by simp)).cell (j := 5) rfl
        have c6 := (HBR.out.kept hh.out.2.2.2 (by simp)).cell (j := 6) rfl
        have c7 := (HBR.out.kept hh.out.2.2.2 (by simp)).cell (j := 7) rfl
        have c8 := (HBR.out.kept hh.out.2.2.2 (by simp)).cell (j := 8) rfl
        have c9 := (HBR.out.kept hh.out.2.2.2 (by simp)).cell (j := 9) rfl
        have c10 := (HBR.out.kept hh.out.2.2.2 (by simp)).cell (j := 10) rfl
        obtain ⟨pw, cw, rfl⟩ := own_shape2 hh.out.2.2.1
        by_cases hql : q < nd
        · have hql' : (q : Int) < (nd : Int) := by omega
          have hq0 : (0 : Int) ≤ (q : Int) := by omega
          have wq : IntKind.i64.wrap ((q : Int) + 1) = (q : Int) + 1 := wrap_i64_of (by omega) (by have := HND16.out; omega)
          obtain ⟨y, hy⟩ : ∃ y, dirty[q]? = some y := ⟨_, List.getElem?_eq_getElem (by rw [← HND.out]; exact hql)⟩
          obtain ⟨bd, od, cd', ed, hcx⟩ := (show Cs w1 2 (.slice pd nd cd) dirty.length (dcells dirty) from (by have := (HSE.out.kept K1.out).dirty; dsimp only at this; rw [← HND.out] at this ⊢; exact this)).recAt (by rw [← HND.out]; omega)
          obtain rfl : pd = some ⟨bd, od, none⟩ := by simp at ed; exact ed.1
          have HY := @hideH _ (hcx q y hy)
          have HYY := @hideH _ hy
          have HRO := @hideH _ (HB3.out.2 y (List.mem_of_getElem? hy))
          have A60 := @hideH _ hh.out.2.2
          have L60 := @hideH _ (show acd.length ≤ 373 from Nat.le_trans hh.out.2.1 (by have := HND16.out; omega))
          have HH := hh
          clear hh ed hcx hy
          have x0 := A60.out.2.cell HY.out.1 (by simp)
          have x1 := A60.out.2.cell HY.out.2 (by simp)
          have hq := A60.out.put y.page 1 HRO.out.1.1 (by have := HRO.out.1.2; omega) (by omega) (Nat.le_trans L60.out (by decide))
          go_wp2_with fail
          refine hq.mono ?_
          clear hq
          rintro e w61 ⟨u61, a61, rfl, E61, R61⟩
          obtain ⟨p61, d61, rfl⟩ := own_shape2 R61.1
          have A61 := @hideH _ R61
          have L61 := @hideH _ (show a61.length ≤ 374 by rw [E61.out.2]; exact Nat.add_le_add_right L60.out 1)
          have kz := R61.2
          clear c0 c1 c2 c3 c4 c5 c6 c7 c8 c9 c10 x0 x1
          have c0 := (HBR.out.kept kz (by simp)).cell (j := 0) rfl
          have c1 := (HBR.out.kept kz (by simp)).cell (j := 1) rfl
          have c2 := (HBR.out.kept kz (by simp)).cell (j := 2) rfl
          have c3 := (HBR.out.kept kz (by simp)).cell (j := 3) rfl
          have c4 := (HBR.out.kept kz (by simp)).cell (j := 4) rfl
          have c5 := (HBR.out.kept kz (by simp)).cell (j := 5) rfl
          have c6 := (HBR.out.kept kz (by simp)).cell (j := 6) rfl
          have c7 := (HBR.out.kept kz (by simp)).cell (j := 7) rfl
          have c8 := (HBR.out.kept kz (by simp)).cell (j := 8) rfl
          have c9 := (HBR.out.kept kz (by simp)).cell (j := 9) rfl
          have c10 := (HBR.out.kept kz (by simp)).cell (j := 10) rfl
          clear kz R61
          have x0 := A61.out.2.cell HY.out.1 (by simp)
          have x1 := A61.out.2.cell HY.out.2 (by simp)
          have hq := A61.out.put y.lsn 8 (by have := HRO.out.2.1; omega) HRO.out.2.2 (by omega) (Nat.le_trans L61.out (by decide))
          go_wp2_with fail
          refine hq.mono ?_
          clear hq
          rintro e w62 ⟨u62, a62, rfl, E62, R62⟩
          obtain ⟨p62, d62, rfl⟩ := own_shape2 R62.1
          have A62 := @hideH _ R62
          have L62 := @hideH _ (show a62.length ≤ 382 by rw [E62.out.2]; exact Nat.add_le_add_right L61.out 8)
          have kz := R62.2
          clear c0 c1 c2 c3 c4 c5 c6 c7 c8 c9 c10 x0 x1
          have c0 := (HBR.out.kept kz (by simp)).cell (j := 0) rfl
          have c1 := (HBR.out.kept kz (by simp)).cell (j := 1) rfl
          have c2 := (HBR.out.kept kz (by simp)).cell (j := 2) rfl
          have c3 := (HBR.out.kept kz (by simp)).cell (j := 3) rfl
          have c4 := (HBR.out.kept kz (by simp)).cell (j := 4) rfl
          have c5 := (HBR.out.kept kz (by simp)).cell (j := 5) rfl
          have c6 := (HBR.out.kept kz (by simp)).cell (j := 6) rfl
          have c7 := (HBR.out.kept kz (by simp)).cell (j := 7) rfl
          have c8 := (HBR.out.kept kz (by simp)).cell (j := 8) rfl
          have c9 := (HBR.out.kept kz (by simp)).cell (j := 9) rfl
          have c10 := (HBR.out.kept kz (by simp)).cell (j := 10) rfl
          clear kz R62
          have REL := @hideH _ (show a62 = a41 ++ flatB recB (dirty.take (q + 1)) ∧ a62.length ≤ 229 + (q + 1) * 9 ∧ Acc w1 w62 (.slice p62 a62.length d62) a62 from ⟨by rw [flatB_take recB HYY.out, E62.out.1, E61.out.1, HH.out.1]; simp [recB], by have g0 := HH.out.2.1; have g_E61 := E61.out.2; have g_E62 := E62.out.2; omega, A62.out⟩)
          clear HH E61 E62 A60 L60 A61 L61 A62 L62
          go_wp2
          go_roundw
          case rel => exact ⟨q + 1, a62, by omega, by go_num, REL⟩
          case measure => simp [intOf]; omega
        · have hql' : ¬ (q : Int) < (nd : Int) := by omega
          have hqe : q = dirty.length := by have := HND.out; omega
          have FIN := @hideH _ (show acd = RB ∧ Acc w wr (.slice pw acd.length cw) acd from ⟨by have e1 := hh.out.1; rw [hqe, List.take_length] at e1; rw [e1, ED.out, EC.out, EB.out, HRB.out, HNR.out, HND.out]; simp [bytesR, tailB], own_baseK hh.out.2.2.1 K1.out.size, K1.out.then hh.out.2.2.2⟩)
          clear hh hqe
          go_wp2
          go_ret2
          obtain ⟨fe, fa⟩ := FIN.out
          subst fe
          exact ⟨_, rfl, fa⟩
end Go.Proofs.Ytebcmcmboomgfaa

/-
  OWN WORK. The document's records (tidemarkref09): Bytes and Size.
-/
namespace Go.Proofs.Ytebcmcmboomgfaa
open Go.RowKit
set_option linter.unusedVariables false
set_option linter.unusedSimpArgs false

open Classical in
/-- the bytes of a right record; none of another -/
noncomputable def bytesF (r : Rcd) : List UInt8 := if r.Right then bytesR r else []
open Classical in
noncomputable def errF (r : Rcd) : Int := if r.Right then 0 else 90
theorem bytesF_t {r : Rcd} (h : r.Right) : bytesF r = bytesR r := by unfold bytesF; exact if_pos h
theorem bytesF_f {r : Rcd} (h : ¬ r.Right) : bytesF r = [] := by unfold bytesF; exact if_neg h
theorem errF_t {r : Rcd} (h : r.Right) : errF r = 0 := by unfold errF; exact if_pos h
theorem errF_f {r : Rcd} (h : ¬ r.Right) : errF r = 90 := by unfold errF; exact if_neg h
theorem rBytes_right (V : RV) (r : Rcd) (w : World) (h : SeeR w V r) (hR : r.Right) : Calls Try.prog 25 #[r.agg V] w fun e w' => ∃ u acc, e = .returned (.tuple #[u, .int .i64 0]) ∧ acc = bytesR r ∧ Acc w w' u acc := by
  have hk := hR.1
  obtain ⟨kind, birth, prev, id, page, frm, before, after, next, rows, dirty⟩ := r
  dsimp only at hk
  have hc : kind = 1 ∨ kind = 2 ∨ kind = 3 ∨ kind = 4 ∨ kind = 5 ∨ kind = 6 ∨ kind = 7 := by omega
  rcases hc with rfl | rfl | rfl | rfl | rfl | rfl | rfl
  · exact rBytes_1 V _ _ _ _ _ _ _ _ _ _ w h hR
  · exact rBytes_2 V _ _ _ _ _ _ _ _ _ _ w h hR
  · exact rBytes_3 V _ _ _ _ _ _ _ _ _ _ w h hR
  · exact rBytes_4 V _ _ _ _ _ _ _ _ _ _ w h hR
  · exact rBytes_5 V _ _ _ _ _ _ _ _ _ _ w h hR
  · exact rBytes_6 V _ _ _ _ _ _ _ _ _ _ w h hR
  · exact rBytes_7 V _ _ _ _ _ _ _ _ _ _ w h hR
set_option maxRecDepth 20000 in
set_option maxHeartbeats 1600000 in
theorem rBytes_wrong (V : RV) (r : Rcd) (w : World) (h : SeeR w V r) (hR : ¬ r.Right) : Calls Try.prog 25 #[r.agg V] w fun e w' => e = .returned (.tuple #[.slice none 0 0, .int .i64 90]) ∧ Kept [] w w' := by
  have hr := fun (wz : World) (kz : Kept [] w wz) => rRight V r wz (h.kept kz)
  simp only [bl_f hR] at hr
  obtain ⟨pb, cb, pa, ca, pr, cr, pd, cd, rfl⟩ := h.shapes
  obtain ⟨kind, birth, prev, id, page, frm, before, after, next, rows, dirty⟩ := r
  clear h hR
  unfold Rcd.agg at hr ⊢
  dsimp only at hr ⊢
  have K1 := @hideH _ (show Kept [] w (w.alloc (.cells #[.int .i64 kind, .int .i64 birth, .int .i64 prev, .int .i64 id, .int .i64 page, .int .i64 frm, .slice pb before.length cb, .slice pa after.length ca, .int .i64 next, .slice pr rows.length cr, .slice pd dirty.length cd] 26)) from (Kept.refl [] w).alloc _)
  go_enter Try.func25, Try.ntmps25
  go_wp2_with fail
  refine (hr _ K1.out).mono ?_
  clear hr
  rintro e w2 ⟨rfl, k2⟩
  have KF := @hideH _ (K1.out.then k2)
  clear k2 K1
  go_wp2
  go_ret2
  exact ⟨rfl, KF.out⟩
theorem rBytes (V : RV) (r : Rcd) (w : World) (h : SeeR w V r) : Calls Try.prog 25 #[r.agg V] w fun e w' => ∃ u, e = .returned (.tuple #[u, .int .i64 (errF r)]) ∧ Acc w w' u (bytesF r) := by
  by_cases hR : r.Right
  · refine (rBytes_right V r w h hR).mono ?_
    rintro e w' ⟨u, acc, rfl, rfl, ha⟩
    rw [errF_t hR, bytesF_t hR]
    exact ⟨u, rfl, ha⟩
  · refine (rBytes_wrong V r w h hR).mono ?_
    rintro e w' ⟨rfl, k⟩
    rw [errF_f hR, bytesF_f hR]
    exact ⟨_, rfl, Acc.nil k⟩
set_option maxRecDepth 20000 in
set_option maxHeartbeats 1600000 in
theorem rSize (V : RV) (r : Rcd) (w : World) (h : SeeR w V r) : Calls Try.prog 26 #[r.agg V] w fun e w' => e = .returned (.int .i64 ((bytesF r).length : Int)) ∧ Kept [] w w' := by
  have hr := fun (wz : World) (kz : Kept [] w wz) => rBytes V r wz (h.kept kz)
  obtain ⟨N, hN⟩ : ∃ N, N = bytesF r := ⟨_, rfl⟩
  obtain ⟨E, hE⟩ : ∃ E, E = errF r := ⟨_, rfl⟩
  simp only [← hN, ← hE] at hr ⊢
  clear hN hE
  obtain ⟨pb, cb, pa, ca, pr, cr, pd, cd, rfl⟩ := h.shapes
  obtain ⟨kind, birth, prev, id, page, frm, before, after, next, rows, dirty⟩ := r
  clear h
  unfold Rcd.agg at hr ⊢
  dsimp only at hr ⊢
  have K1 := @hideH _ (show Kept [] w (w.alloc (.cells #[.int .i64 kind, .int .i64 birth, .int .i64 prev, .int .i64 id, .int .i64 page, .int .i64 frm, .slice pb before.length cb, .slice pa after.length ca, .int .i64 next, .slice pr rows.length cr, .slice pd dirty.length cd] 26)) from (Kept.refl [] w).alloc _)
  go_enter Try.func26, Try.ntmps26
  go_wp2_with fail
  refine (hr _ K1.out).mono ?_
  clear hr
  rintro e w2 ⟨u, rfl, ha⟩
  obtain ⟨pu, cu, rfl⟩ := own_shape2 ha.1
  have KF := @hideH _ (K1.out.then ha.2)
  clear ha K1
  go_wp2
  go_ret
  exact ⟨rfl, KF.out⟩
end Go.Proofs.Ytebcmcmboomgfaa

/-
  OWN WORK. The document's records (tidemarkref09): the state of Parse.
-/
namespace Go.Proofs.Ytebcmcmboomgfaa
open Go.RowKit
set_option linter.unusedVariables false
set_option linter.unusedSimpArgs false

/-- what is still to be read gives the whole; or it is spoilt, and there is no record -/
def Pg (l : List UInt8) (F : Ps Rcd) (n : Nat) (bad : Bool) : Prop := (bad = false ∧ pAll l = F (l.drop n)) ∨ (bad = true ∧ pAll l = none)
theorem Pg.start (l : List UInt8) : Pg l pAll 0 false := .inl ⟨rfl, rfl⟩
theorem Pg.num {l : List UInt8} {k n n2 v : Nat} {bad b2 : Bool} {G : Nat → Ps Rcd} (h : Pg l ((num k).bind G) n bad) (t : (num k (l.drop n) = some (v, l.drop n2) ∧ b2 = bad) ∨ (num k (l.drop n) = none ∧ v = 0 ∧ b2 = true)) : Pg l (G v) n2 b2 := by
  rcases t with ⟨t, rfl⟩ | ⟨t, -, rfl⟩
  · rcases h with ⟨h1, h2⟩ | h
    · exact .inl ⟨h1, by rw [h2, Ps.bind_of t]⟩
    · exact .inr h
  · refine .inr ⟨rfl, ?_⟩
    rcases h with ⟨h1, h2⟩ | h
    · rw [h2]; unfold Ps.bind; rw [t]
    · exact h.2
theorem Pg.raw {l x : List UInt8} {k n n2 : Nat} {bad b2 : Bool} {G : List UInt8 → Ps Rcd} (h : Pg l ((raw k).bind G) n bad) (t : (raw k (l.drop n) = some (x, l.drop n2) ∧ b2 = bad) ∨ (raw k (l.drop n) = none ∧ x = [] ∧ b2 = true)) : Pg l (G x) n2 b2 := by
  rcases t with ⟨t, rfl⟩ | ⟨t, -, rfl⟩
  · rcases h with ⟨h1, h2⟩ | h
    · exact .inl ⟨h1, by rw [h2, Ps.bind_of t]⟩
    · exact .inr h
  · refine .inr ⟨rfl, ?_⟩
    rcases h with ⟨h1, h2⟩ | h
    · rw [h2]; unfold Ps.bind; rw [t]
    · exact h.2
theorem Pg.bad {l : List UInt8} {F : Ps Rcd} {n : Nat} (h : Pg l F n true) : parseR l = none := by
  rcases h with ⟨h, -⟩ | ⟨-, h⟩
  · cases h
  · unfold parseR; rw [h]
theorem Pg.short {l : List UInt8} {r : Rcd} {n : Nat} {bad : Bool} (h : Pg l (Ps.ret r) n bad) (hn : n ≠ l.length) (hl : n ≤ l.length) : parseR l = none := by
  rcases h with ⟨-, h⟩ | ⟨-, h⟩
  · unfold parseR
    rw [h]
    unfold Ps.ret
    cases e : l.drop n with
    | nil => have := List.drop_eq_nil_iff.1 e; omega
    | cons a t => rfl
  · unfold parseR; rw [h]
theorem Pg.wrong {l : List UInt8} {r : Rcd} {n : Nat} {bad : Bool} (h : Pg l (Ps.ret r) n bad) (hr : ¬ r.Right) : parseR l = none := by
  rcases h with ⟨-, h⟩ | ⟨-, h⟩
  · unfold parseR
    rw [h]
    unfold Ps.ret
    cases e : l.drop n with
    | nil => simp [hr]
    | cons a t => rfl
  · unfold parseR; rw [h]
theorem Pg.done {l : List UInt8} {r : Rcd} {n : Nat} (h : Pg l (Ps.ret r) n false) (hn : n = l.length) (hr : r.Right) : parseR l = some r := by
  rcases h with ⟨-, h⟩ | ⟨h, -⟩
  · unfold parseR
    rw [h, hn, List.drop_length]
    unfold Ps.ret
    simp [hr]
  · cases h
theorem took_small {k n n2 v : Nat} {l : List UInt8} {bad b2 : Bool} (t : (num k (l.drop n) = some (v, l.drop n2) ∧ b2 = bad) ∨ (num k (l.drop n) = none ∧ v = 0 ∧ b2 = true)) : v ≤ topLsn ∧ v < 256 ^ k := by
  rcases t with ⟨t, -⟩ | ⟨-, rfl, -⟩
  · exact (num_some t).2
  · exact ⟨Nat.zero_le _, Nat.pow_pos (by omega)⟩
def zero11 : List Value := [.int .i64 0, .int .i64 0, .int .i64 0, .int .i64 0, .int .i64 0, .int .i64 0, .slice none 0 0, .slice none 0 0, .int .i64 0, .slice none 0 0, .slice none 0 0]
/-- Parse's tape (block g), record (block R) and result (block A) -/
structure PS (w wz : World) (g R A : Nat) (tv : Value) (l : List UInt8) (n : Nat) (bad : Bool) (cs : List Value) : Prop where
  tape : Tp wz g tv l n bad
  rcd : Blk wz R 26 cs
  res : Blk wz A 26 zero11
  kept : Kept [] w wz
  low : w.heap.size ≤ g ∧ w.heap.size ≤ R ∧ w.heap.size ≤ A
  ne : g ≠ R ∧ g ≠ A ∧ R ≠ A
  bs : Bs w tv l
theorem PS.took {w wz w' : World} {g R A n n2 : Nat} {tv : Value} {l : List UInt8} {bad b2 : Bool} {cs : List Value} (h : PS w wz g R A tv l n bad cs) (t : Tp w' g tv l n2 b2) (k : Kept [g] wz w') : PS w w' g R A tv l n2 b2 cs :=
  ⟨t, h.rcd.kept k (by simpa using fun e => h.ne.1 e.symm), h.res.kept k (by simpa using fun e => h.ne.2.1 e.symm), h.kept.trans k (fun x hx => .inr (by simp at hx; rw [hx]; exact h.low.1)), h.low, h.ne, h.bs⟩
theorem PS.set {w wz : World} {g R A n : Nat} {tv : Value} {l : List UInt8} {bad : Bool} {cs : List Value} (h : PS w wz g R A tv l n bad cs) (j : Nat) (v : Value) : PS w (wz.setCell ⟨R, j, none⟩ v) g R A tv l n bad (cs.set j v) := by
  obtain ⟨b, k⟩ := h.rcd.set j v
  have k0 : Kept [] w (wz.setCell ⟨R, j, none⟩ v) := h.kept.trans k (fun x hx => .inr (by simp at hx; rw [hx]; exact h.low.2.1))
  obtain ⟨t1, t2, t3, t4⟩ := h.tape
  exact ⟨⟨t1.kept k (by simpa using h.ne.1), h.bs.kept k0, t3, t4⟩, b, h.res.kept k (by simpa using fun e => h.ne.2.2 e.symm), k0, h.low, h.ne, h.bs⟩
theorem PS.then {w wz w' : World} {g R A n : Nat} {tv : Value} {l : List UInt8} {bad : Bool} {cs : List Value} (h : PS w wz g R A tv l n bad cs) (k : Kept [] wz w') : PS w w' g R A tv l n bad cs :=
  ⟨h.tape.kept k, h.rcd.kept k (by simp), h.res.kept k (by simp), h.kept.then k, h.low, h.ne, h.bs⟩
end Go.Proofs.Ytebcmcmboomgfaa

/-
  OWN WORK. The document's records (tidemarkref09): the state of Parse, of a checkpoint's lists.
-/
namespace Go.Proofs.Ytebcmcmboomgfaa
open Go.RowKit
set_option linter.unusedVariables false
set_option linter.unusedSimpArgs false

theorem Ps.bind_assoc {α β γ : Type} (p : Ps α) (f : α → Ps β) (h : β → Ps γ) : (p.bind f).bind h = p.bind fun a => (f a).bind h := by
  funext l
  unfold Ps.bind
  cases p l with
  | none => rfl
  | some x => rfl
theorem Ps.ret_bind {α β : Type} (a : α) (f : α → Ps β) : (Ps.ret a).bind f = f a := rfl
theorem many_row {β : Type} (m : Nat) (F : List RowR → Ps β) : (many pRow (m + 1)).bind F = (num 8).bind fun b => (num 1).bind fun i => (num 1).bind fun s => (num 8).bind fun l => (num 8).bind fun n => (many pRow m).bind fun more => F (⟨b, i, s, l, n⟩ :: more) := by
  show ((pRow.bind fun a => (many pRow m).bind fun xs => Ps.ret (a :: xs)).bind F) = _
  unfold pRow
  simp only [Ps.bind_assoc, Ps.ret_bind]
theorem many_rec {β : Type} (m : Nat) (F : List RecR → Ps β) : (many pRec (m + 1)).bind F = (num 1).bind fun p => (num 8).bind fun l => (many pRec m).bind fun more => F (⟨p, l⟩ :: more) := by
  show ((pRec.bind fun a => (many pRec m).bind fun xs => Ps.ret (a :: xs)).bind F) = _
  unfold pRec
  simp only [Ps.bind_assoc, Ps.ret_bind]
/-- another block is written -/
theorem PS.other {w wz w' : World} {g R A n X : Nat} {tv : Value} {l : List UInt8} {bad : Bool} {cs : List Value} (h : PS w wz g R A tv l n bad cs) (k : Kept [X] wz w') (h1 : X ≠ g ∧ X ≠ R ∧ X ≠ A) (h2 : w.heap.size ≤ X) : PS w w' g R A tv l n bad cs := by
  have k0 : Kept [] w w' := h.kept.trans k (fun x hx => .inr (by simp at hx; rw [hx]; exact h2))
  obtain ⟨t1, t2, t3, t4⟩ := h.tape
  exact ⟨⟨t1.kept k (by simpa using fun e => h1.1 e.symm), h.bs.kept k0, t3, t4⟩, h.rcd.kept k (by simpa using fun e => h1.2.1 e.symm), h.res.kept k (by simpa using fun e => h1.2.2 e.symm), k0, h.low, h.ne, h.bs⟩
theorem src_row {P : Program} (w : World) (t e : TypeId) (ht : P.underlying t = some (.slice e)) (x : RowR) : Src P 5 t (.slice (some ⟨w.heap.size, 0, none⟩) 1 1) 1 (rcells [x]) (w.alloc (.cells #[.int .i64 x.birth, .int .i64 x.id, .int .i64 x.state, .int .i64 x.last, .int .i64 x.next] e)) := by
  refine Src.ofSlice _ ht _ _ _ _ rfl (fun j u hj => ?_) (rcells_one _)
  rw [add_none rfl]
  have hlt := (List.getElem?_eq_some_iff.1 hj).1
  rcases j with _ | _ | _ | _ | _ | j
  · simp [rcells] at hj; subst hj; simp [go_sem]
  · simp [rcells] at hj; subst hj; simp [go_sem]
  · simp [rcells] at hj; subst hj; simp [go_sem]
  · simp [rcells] at hj; subst hj; simp [go_sem]
  · simp [rcells] at hj; subst hj; simp [go_sem]
  · simp [rcells] at hlt; omega
theorem src_rec {P : Program} (w : World) (t e : TypeId) (ht : P.underlying t = some (.slice e)) (x : RecR) : Src P 2 t (.slice (some ⟨w.heap.size, 0, none⟩) 1 1) 1 (dcells [x]) (w.alloc (.cells #[.int .i64 x.page, .int .i64 x.lsn] e)) := by
  refine Src.ofSlice _ ht _ _ _ _ rfl (fun j u hj => ?_) (dcells_one _)
  rw [add_none rfl]
  have hlt := (List.getElem?_eq_some_iff.1 hj).1
  rcases j with _ | _ | j
  · simp [dcells] at hj; subst hj; simp [go_sem]
  · simp [dcells] at hj; subst hj; simp [go_sem]
  · simp [dcells] at hlt; omega
end Go.Proofs.Ytebcmcmboomgfaa

/-
  OWN WORK. record's Parse: what stands in memory while it reads.
-/
namespace Go.Proofs.Ytebcmcmboomgfaa
open Go.RowKit
set_option linter.unusedVariables false
set_option linter.unusedSimpArgs false

/-- no byte lies in block k -/
def NoB (w : World) (k : Nat) : Prop := ∀ a : Addr, a.block = k → ∀ x : Int, w.cell? a ≠ some (.int .u8 x)
def plain8 (cs : List Value) : Prop := ∀ c ∈ cs, ∀ x : Int, c ≠ .int .u8 x
theorem plain8.set {cs : List Value} (h : plain8 cs) (j : Nat) {v : Value} (hv : ∀ x : Int, v ≠ .int .u8 x) : plain8 (cs.set j v) := fun c hc x e => by
  rcases List.mem_or_eq_of_mem_set hc with q | q
  · exact h c q x e
  · exact hv x (q ▸ e)
theorem Blk.noB {w : World} {g : Nat} {t : TypeId} {cs : List Value} (h : Blk w g t cs) (hp : plain8 cs) : NoB w g := by
  intro a ha x hx
  subst ha
  have h' : w.heap[a.block]? = some (.cells cs.toArray t (0, 0)) := h
  simp only [World.cell?, h'] at hx
  split at hx
  · cases hx
  · rw [List.getElem?_toArray] at hx
    exact hp _ (List.mem_of_getElem? hx) x rfl
theorem Bs.keptNo {w w' : World} {v : Value} {l : List UInt8} {S : List Nat} (h : Bs w v l) (k : Kept S w w') (hS : ∀ x ∈ S, NoB w x ∨ w.heap.size ≤ x) : Bs w' v l := h.carry fun a x hx _ => k.cell hx fun hm => by
  rcases hS _ hm with hb | hb
  · exact hb a rfl _ hx
  · have := lt_of_cell hx; omega
theorem RdL.keptNo {bb : Nat} {w w' : World} {g : Nat} {l : List UInt8} {S : List Nat} (h : RdL bb w g l) (k : Kept S w w') (hS : ∀ x ∈ S, x ≠ g ∧ (NoB w x ∨ bb ≤ x)) : RdL bb w' g l := by
  have hl := h.rd.lt
  obtain ⟨p, n, c, h1, h2, h3⟩ := h
  refine ⟨p, n, c, (k.block g hl (fun hm => (hS g hm).1 rfl)).trans h1, h2.carry fun a x hx hb => k.cell hx fun hm => ?_, h3⟩
  rcases (hS _ hm).2 with q | q
  · exact q a rfl _ hx
  · have := h3 a.block hb; omega
/-- the reader g with l left; the record's block R; the source's box B -/
structure TS (bb : Nat) (w0 w : World) (g R B : Nat) (l : List UInt8) (cs : List Value) : Prop where
  rd : Rs bb w g l
  blk : Blk w R 26 cs
  p8 : plain8 cs
  ne : g ≠ R
  box : Blk w B 64 [.pointer (some ⟨g, 0, none⟩)]
  bne : B ≠ g ∧ B ≠ R
  kept : Kept [g, R] w0 w
theorem TS.start {bb : Nat} {w : World} {g R : Nat} {l : List UInt8} {cs : List Value} (hr : Rs bb w g l) (hb : Blk w R 26 cs) (p8 : plain8 cs) (hne : g ≠ R) : TS bb w (w.alloc (.cells #[.pointer (some ⟨g, 0, none⟩)] 64)) g R w.heap.size l cs :=
  ⟨hr.alloc _, hb.kept ((Kept.refl [] w).alloc _) (by simp), p8, hne, Blk.new w _ _, ⟨by have := hr.rd.lt; omega, by have := hb.lt; omega⟩, (Kept.refl _ w).alloc _⟩
theorem TS.took {bb : Nat} {w0 w w' : World} {g R B : Nat} {l r : List UInt8} {cs : List Value} (h : TS bb w0 w g R B l cs) (hr : Rs bb w' g r) (k : Kept [g] w w') : TS bb w0 w' g R B r cs :=
  ⟨hr, h.blk.kept k (by simp; exact fun e => h.ne e.symm), h.p8, h.ne, h.box.kept k (by simp; exact h.bne.1), h.bne, h.kept.trans k (fun x hx => .inl (by simp at hx ⊢; exact .inl hx))⟩
theorem TS.both {bb : Nat} {w0 w w' : World} {g R B : Nat} {l r : List UInt8} {cs cs' : List Value} (h : TS bb w0 w g R B l cs) (hr : Rs bb w' g r) (hb : Blk w' R 26 cs') (hp : plain8 cs') (k : Kept [g, R] w w') : TS bb w0 w' g R B r cs' :=
  ⟨hr, hb, hp, h.ne, h.box.kept k (by simp; exact ⟨h.bne.1, h.bne.2⟩), h.bne, h.kept.trans k (fun x hx => .inl hx)⟩
theorem TS.set {bb : Nat} {w0 w : World} {g R B : Nat} {l : List UInt8} {cs : List Value} (h : TS bb w0 w g R B l cs) (j : Nat) (v : Value) (hv : ∀ x : Int, v ≠ .int .u8 x) : TS bb w0 (w.setCell ⟨R, j, none⟩ v) g R B l (cs.set j v) := by
  obtain ⟨hb, k⟩ := h.blk.set j v
  exact ⟨h.rd.keptNo k (by simp; exact ⟨fun e => h.ne e.symm, .inl (h.blk.noB h.p8)⟩), hb, h.p8.set j hv, h.ne, h.box.kept k (by simp; exact h.bne.2), h.bne, h.kept.trans k (fun x hx => .inl (by simp at hx ⊢; exact .inr hx))⟩
theorem TS.then {bb : Nat} {w0 w w' : World} {g R B : Nat} {l : List UInt8} {cs : List Value} (h : TS bb w0 w g R B l cs) (k : Kept [] w w') : TS bb w0 w' g R B l cs :=
  ⟨h.rd.kept k, h.blk.kept k (by simp), h.p8, h.ne, h.box.kept k (by simp), h.bne, h.kept.then k⟩
/-- blocks that are none of these, and not below bb -/
theorem TS.others {bb : Nat} {w0 w w' : World} {g R B : Nat} {l : List UInt8} {cs : List Value} {S : List Nat} (h : TS bb w0 w g R B l cs) (k : Kept S w w') (hS : ∀ x ∈ S, bb ≤ x ∧ x ≠ g ∧ x ≠ R ∧ x ≠ B ∧ w0.heap.size ≤ x) : TS bb w0 w' g R B l cs :=
  ⟨h.rd.keptNo k fun x hx => ⟨(hS x hx).2.1, .inr (hS x hx).1⟩, h.blk.kept k fun hm => (hS R hm).2.2.1 rfl, h.p8, h.ne, h.box.kept k fun hm => (hS B hm).2.2.2.1 rfl, h.bne, h.kept.trans k fun x hx => .inr (hS x hx).2.2.2.2⟩
theorem TS.bx {bb : Nat} {w0 w : World} {g R B : Nat} {l : List UInt8} {cs : List Value} (h : TS bb w0 w g R B l cs) : w.cell? ⟨B, 0, none⟩ = some (.pointer (some ⟨g, 0, none⟩)) := h.box.cell (j := 0) rfl
theorem kept_gR {w0 w w' : World} {g R : Nat} (k : Kept [g, R] w0 w) (k2 : Kept [g] w w') : Kept [g, R] w0 w' := k.trans k2 (fun x hx => .inl (by simp at hx ⊢; exact .inl hx))
def Rcd.cl (r : Rcd) (V : RV) : List Value := [.int .i64 r.kind, .int .i64 r.birth, .int .i64 r.prev, .int .i64 r.id, .int .i64 r.page, .int .i64 r.frm, V.vb, V.va, .int .i64 r.next, V.vr, V.vd]
def nilV : RV := ⟨.slice none 0 0, .slice none 0 0, .slice none 0 0, .slice none 0 0⟩
def Apartv (u v : Value) : Prop := ∀ x, u.ownBlock = some x → v.ownBlock ≠ some x
theorem Apartv.nil_l (v : Value) : Apartv (.slice none 0 0) v := fun x h => by cases h
theorem Apartv.nil_r (v : Value) : Apartv v (.slice none 0 0) := fun x h e => by cases e
/-- a record whose lists lie in memory of their own, from base on -/
structure OwnR (base : Nat) (w : World) (V : RV) (r : Rcd) : Prop where
  before : w.ownsRow base 5 1 V.vb r.before.length (u8s r.before)
  after : w.ownsRow base 5 1 V.va r.after.length (u8s r.after)
  rows : Row w base 5 V.vr r.rows.length (rcells r.rows)
  dirty : Row w base 2 V.vd r.dirty.length (dcells r.dirty)
  ba : Apartv V.vb V.va
  br : Apartv V.vb V.vr
  bd : Apartv V.vb V.vd
  ar : Apartv V.va V.vr
  ad : Apartv V.va V.vd
  rd : Apartv V.vr V.vd
theorem own_nil (w : World) (base : Nat) : w.ownsRow base 5 1 (.slice none 0 0) 0 (u8s []) := by simpa [u8s] using World.ownsRow_nil w base 5 1
theorem OwnR.see {base : Nat} {w : World} {V : RV} {r : Rcd} (h : OwnR base w V r) : SeeR w V r := ⟨Bs.ofOwn h.before, Bs.ofOwn h.after, h.rows.cs, h.dirty.cs⟩
theorem OwnR.kept {base : Nat} {w w' : World} {V : RV} {r : Rcd} {S : List Nat} (h : OwnR base w V r) (k : Kept S w w') (hS : ∀ x, (V.vb.ownBlock = some x ∨ V.va.ownBlock = some x ∨ V.vr.ownBlock = some x ∨ V.vd.ownBlock = some x) → x ∉ S) : OwnR base w' V r :=
  ⟨own_of_kept h.before k fun x hx => hS x (.inl hx), own_of_kept h.after k fun x hx => hS x (.inr (.inl hx)), h.rows.kept k fun x hx => hS x (.inr (.inr (.inl hx))), h.dirty.kept k fun x hx => hS x (.inr (.inr (.inr hx))), h.ba, h.br, h.bd, h.ar, h.ad, h.rd⟩
theorem OwnR.mono {base base' : Nat} {w : World} {V : RV} {r : Rcd} (h : OwnR base w V r) (hb : base' ≤ base) : OwnR base' w V r :=
  ⟨own_mono h.before hb, own_mono h.after hb, h.rows.mono hb, h.dirty.mono hb, h.ba, h.br, h.bd, h.ar, h.ad, h.rd⟩
theorem OwnR.ge {base : Nat} {w : World} {V : RV} {r : Rcd} (h : OwnR base w V r) {x : Nat} (hx : V.vb.ownBlock = some x ∨ V.va.ownBlock = some x ∨ V.vr.ownBlock = some x ∨ V.vd.ownBlock = some x) : base ≤ x ∧ x < w.heap.size := by
  rcases hx with q | q | q | q
  · exact ⟨own_ge h.before x q, own_lt h.before x q⟩
  · exact ⟨own_ge h.after x q, own_lt h.after x q⟩
  · exact h.rows.lt x q
  · exact h.dirty.lt x q
/-- a record with no list -/
theorem OwnR.bare (base : Nat) (w : World) (k b p i g f n : Int) : OwnR base w nilV ⟨k, b, p, i, g, f, [], [], n, [], []⟩ :=
  ⟨own_nil w base, own_nil w base, Row.nil w base 5, Row.nil w base 2, .nil_l _, .nil_l _, .nil_l _, .nil_l _, .nil_l _, .nil_l _⟩
/-- how a kind's reader ends -/
def Out (bb : Nat) (w w' : World) (g R : Nat) (o : Option (Rcd × List UInt8)) (e : Ending) : Prop :=
  (∃ x r V B, o = some (x, r) ∧ e = .returned (.tuple #[]) ∧ TS bb w w' g R B r (x.cl V) ∧ OwnR w.heap.size w' V x) ∨ (o = none ∧ Gave e ∧ Kept [g, R] w w')
theorem qNum1 (bb g : Nat) (l : List UInt8) (w : World) (hr : Rs bb w g l) : Calls Try.prog 54 #[src g, .int .i64 1] w fun e w' => (∃ (v : Nat) (r : List UInt8), num 1 l = some (v, r) ∧ e = .returned (.int .i64 (v : Int)) ∧ Rs bb w' g r ∧ Kept [g] w w') ∨ (num 1 l = none ∧ Gave e ∧ Kept [g] w w') := by
  cases h : num 1 l with
  | none => exact (qNum1_none bb g l w hr h).mono fun e w' q => .inr ⟨rfl, q⟩
  | some y => obtain ⟨v, r⟩ := y; exact (qNum1_some bb g v l r w hr h).mono fun e w' q => .inl ⟨v, r, rfl, q⟩
theorem qNum2 (bb g : Nat) (l : List UInt8) (w : World) (hr : Rs bb w g l) : Calls Try.prog 54 #[src g, .int .i64 2] w fun e w' => (∃ (v : Nat) (r : List UInt8), num 2 l = some (v, r) ∧ e = .returned (.int .i64 (v : Int)) ∧ Rs bb w' g r ∧ Kept [g] w w') ∨ (num 2 l = none ∧ Gave e ∧ Kept [g] w w') := by
  cases h : num 2 l with
  | none => exact (qNum2_none bb g l w hr h).mono fun e w' q => .inr ⟨rfl, q⟩
  | some y => obtain ⟨v, r⟩ := y; exact (qNum2_some bb g v l r w hr h).mono fun e w' q => .inl ⟨v, r, rfl, q⟩
theorem qEt (bb g : Nat) (l : List UInt8) (w : World) (hr : Rs bb w g l) : Calls Try.prog 57 #[src g] w fun e w' => (∃ (v : Nat) (r : List UInt8), num 8 l = some (v, r) ∧ e = .returned (.int .i64 (v : Int)) ∧ Rs bb w' g r ∧ Kept [g] w w') ∨ (num 8 l = none ∧ Gave e ∧ Kept [g] w w') := by
  cases h : num 8 l with
  | none => exact (qEt_none bb g l w hr h).mono fun e w' q => .inr ⟨rfl, q⟩
  | some y => obtain ⟨v, r⟩ := y; exact (qEt_some bb g v l r w hr h).mono fun e w' q => .inl ⟨v, r, rfl, q⟩
theorem qRaw (bb g n : Nat) (l : List UInt8) (w : World) (hr : Rs bb w g l) (hl : l.length ≤ 140737488355328) : Calls Try.prog 84 #[src g, .int .i64 (n : Int)] w fun e w' => (∃ (u : Value) (x r : List UInt8), raw n l = some (x, r) ∧ e = .returned u ∧ w'.ownsRow w.heap.size 5 1 u x.length (u8s x) ∧ Rs bb w' g r ∧ Kept [g] w w') ∨ (raw n l = none ∧ Gave e ∧ Kept [g] w w') := by
  cases h : raw n l with
  | none => exact (qRaw_none bb g n l w hr h).mono fun e w' q => .inr ⟨rfl, q⟩
  | some y => obtain ⟨x, r⟩ := y; exact (qRaw_some bb g n l x r w hr h hl).mono fun e w' ⟨u, q⟩ => .inl ⟨u, x, r, rfl, q⟩
theorem num_len {n v : Nat} {l r : List UInt8} (h : num n l = some (v, r)) : r.length ≤ l.length := by rw [(num_low h).2.2.1, List.length_drop]; omega
theorem raw_len {n : Nat} {l x r : List UInt8} (h : raw n l = some (x, r)) : r.length ≤ l.length := by rw [(raw_parts h).2.2, List.length_drop]; omega
theorem slice_not8 (p : Option Addr) (n c : Nat) : ∀ x : Int, Value.slice p n c ≠ .int .u8 x := fun x e => by cases e
theorem int_not8 (z : Int) : ∀ x : Int, Value.int .i64 z ≠ .int .u8 x := fun x e => by cases e
end Go.Proofs.Ytebcmcmboomgfaa

/-
  OWN WORK. The law's desk: what stands in memory.
-/
namespace Go.Proofs.Ytebcmcmboomgfaa
open Go.RowKit
set_option linter.unusedVariables false
set_option linter.unusedSimpArgs false

section
variable {P : Program} {ops : Array Oper} {Q : Exit → Act → World → Prop} {md : Region.Mode} {S : World → Prop} {z : Nat}
/-- just two may come up -/
theorem wpAnyZ_two (i j : Nat) {oi oj : Oper} {n : Nat} {listed : Array Bool} {a : Act} {w : World} (hi : ops[i]? = some oi) (hj : ops[j]? = some oj) (hr : Region.ready md ops listed = [i, j])
    (h1 : ∀ K : Act → World → Prop, (∀ a' w', (i ≠ z → S w') → wpAnyZ P md ops Q S z n (listed.setIfInBounds i true) a' w' → K a' w') → if Region.wanted oi (yielded ops a.tmps) = true then Oper.wp P oi a w K Q else K (a.put oi.dst undef) w)
    (h2 : ∀ K : Act → World → Prop, (∀ a' w', (j ≠ z → S w') → wpAnyZ P md ops Q S z n (listed.setIfInBounds j true) a' w' → K a' w') → if Region.wanted oj (yielded ops a.tmps) = true then Oper.wp P oj a w K Q else K (a.put oj.dst undef) w) : wpAnyZ P md ops Q S z (n + 1) listed a w := by
  refine ⟨fun c => absurd (hr.symm.trans c) (by simp), fun k hk => ?_⟩
  rw [hr] at hk
  simp at hk
  rcases hk with rfl | rfl
  · exact wpOp_step hi fun K hK => h1 K fun a' w' q1 q2 => hK a' w' ⟨q1, q2⟩
  · exact wpOp_step hj fun K hK => h2 K fun a' w' q1 q2 => hK a' w' ⟨q1, q2⟩
end
/-- 's[:k]', of elements of several cells -/
theorem run_cut_to_sz {P : Program} (w : World) (t e : TypeId) (sz : Nat) (hu : P.underlying t = some (.slice e)) (hsz : (P.info? e).map (·.size) = some sz) (p : Option Addr) (n c k : Nat) (hk : k ≤ c) :
    (Instr.slice t (.slice p n c) none (some (.int .i64 (k : Int))) none).run P w = .ok (.slice p k c) w := by
  obtain ⟨i, hi, hs⟩ := Option.map_eq_some_iff.1 hsz
  have e0 : Option.map (fun x : Addr => x.add 0) p = p := by cases p <;> simp [Addr.add]
  simp [Instr.slice, run_underlying hu, Instr.sliceBounds, run_sliceBound, sizeOf, typeInfo, hi, e0, (by omega : (k : Int) ≤ (c : Int))]
theorem Row.cut {w : World} {base sz n c : Nat} {p : Option Addr} {cs : List Value} (h : Row w base sz (.slice p n c) n cs) (i : Nat) (hi : i ≤ n) : Cs w sz (.slice p i c) i (cs.take (i * sz)) := by
  obtain ⟨h1, h2, p', c', e, h3, h4, h5⟩ := h.cs
  cases e
  refine ⟨by rw [List.length_take, h1]; exact Nat.min_eq_left (Nat.mul_le_mul_right _ hi), fun u hu => h2 u (List.mem_of_mem_take hu), p, c, rfl, by omega, h4, h5.1, fun a ha j u hu => h5.2 a ha j u ?_⟩
  rw [List.getElem?_take] at hu
  split at hu
  · exact hu
  · cases hu
theorem Cs.cut {w : World} {sz n c : Nat} {p : Option Addr} {cs : List Value} (h : Cs w sz (.slice p n c) n cs) (i : Nat) (hi : i ≤ n) : Cs w sz (.slice p i c) i (cs.take (i * sz)) := by
  obtain ⟨h1, h2, p', c', e, h3, h4, h5⟩ := h
  cases e
  refine ⟨by rw [List.length_take, h1]; exact Nat.min_eq_left (Nat.mul_le_mul_right _ hi), fun u hu => h2 u (List.mem_of_mem_take hu), p, c, rfl, by omega, h4, h5.1, fun a ha j u hu => h5.2 a ha j u ?_⟩
  rw [List.getElem?_take] at hu
  split at hu
  · exact hu
  · cases hu
def markR (i : Nat) : RowR := ⟨-5, (i : Int), 0, 0, 0⟩
def markD (i : Nat) : RecR := ⟨-7, (i : Int)⟩
def marksR (k : Nat) : List RowR := (List.range k).map markR
def marksD (k : Nat) : List RecR := (List.range k).map markD
theorem marksR_length (k : Nat) : (marksR k).length = k := by simp [marksR]
theorem marksD_length (k : Nat) : (marksD k).length = k := by simp [marksD]
theorem marksR_next (k : Nat) : marksR (k + 1) = marksR k ++ [markR k] := by simp [marksR, List.range_succ]
theorem marksD_next (k : Nat) : marksD (k + 1) = marksD k ++ [markD k] := by simp [marksD, List.range_succ]
/-- a desk's lists, as they are read -/
structure DeskR (w : World) (r : Rcd) (pB : Option Addr) (cB : Nat) (pA : Option Addr) (cA : Nat) (pR : Option Addr) (cR : Nat) (pD : Option Addr) (cD : Nat) : Prop where
  fb : Bs w (.slice pB (r.before.length + 120) cB) (r.before ++ lent9)
  fa : Bs w (.slice pA (r.after.length + 120) cA) (r.after ++ lent9)
  fr : Cs w 5 (.slice pR (r.rows.length + 40) cR) (r.rows.length + 40) (rcells (r.rows ++ marksR 40))
  fd : Cs w 2 (.slice pD (r.dirty.length + 40) cD) (r.dirty.length + 40) (dcells (r.dirty ++ marksD 40))
theorem DeskR.kept {w w' : World} {r : Rcd} {pB pA pR pD : Option Addr} {cB cA cR cD : Nat} (h : DeskR w r pB cB pA cA pR cR pD cD) (k : Kept [] w w') : DeskR w' r pB cB pA cA pR cR pD cD := ⟨h.fb.kept k, h.fa.kept k, h.fr.kept k, h.fd.kept k⟩
theorem Bs.front9 {w : World} {p : Option Addr} {n c : Nat} {l m : List UInt8} (h : Bs w (.slice p n c) (l ++ m)) : Bs w (.slice p l.length c) l := by
  obtain ⟨p', c', e, h1, h2, h3, h4⟩ := h
  cases e
  refine ⟨p, c, rfl, by rw [List.length_append] at h1; omega, h2, h3, fun a ha i x hx => h4 a ha i x ?_⟩
  rw [List.getElem?_append_left (List.getElem?_eq_some_iff.1 hx).1]
  exact hx
theorem DeskR.see {w : World} {r : Rcd} {pB pA pR pD : Option Addr} {cB cA cR cD : Nat} (h : DeskR w r pB cB pA cA pR cR pD cD) : SeeR w ⟨.slice pB r.before.length cB, .slice pA r.after.length cA, .slice pR r.rows.length cR, .slice pD r.dirty.length cD⟩ r := by
  refine ⟨h.fb.front9, h.fa.front9, ?_, ?_⟩
  · have q := h.fr.cut r.rows.length (by omega)
    rw [rcells_append, List.take_left' (rcells_length _)] at q
    exact q
  · have q := h.fd.cut r.dirty.length (by omega)
    rw [dcells_append, List.take_left' (dcells_length _)] at q
    exact q
/-- a desk of its own -/
structure DeskO (base : Nat) (w : World) (r : Rcd) (pB : Option Addr) (cB : Nat) (pA : Option Addr) (cA : Nat) (pR : Option Addr) (cR : Nat) (pD : Option Addr) (cD : Nat) : Prop where
  fb : w.ownsRow base 5 1 (.slice pB (r.before.length + 120) cB) (r.before.length + 120) (u8s (r.before ++ lent9))
  fa : w.ownsRow base 5 1 (.slice pA (r.after.length + 120) cA) (r.after.length + 120) (u8s (r.after ++ lent9))
  fr : Row w base 5 (.slice pR (r.rows.length + 40) cR) (r.rows.length + 40) (rcells (r.rows ++ marksR 40))
  fd : Row w base 2 (.slice pD (r.dirty.length + 40) cD) (r.dirty.length + 40) (dcells (r.dirty ++ marksD 40))
  ab : Apartv (.slice pA (r.after.length + 120) cA) (.slice pB (r.before.length + 120) cB)
  ar : Apartv (.slice pA (r.after.length + 120) cA) (.slice pR (r.rows.length + 40) cR)
  ad : Apartv (.slice pA (r.after.length + 120) cA) (.slice pD (r.dirty.length + 40) cD)
theorem bs_own9 {w : World} {base n : Nat} {v : Value} {l : List UInt8} (h : w.ownsRow base 5 1 v n (u8s l)) (hn : l.length = n) : Bs w v l := Bs.ofOwn (n := l.length) (by rw [hn]; exact h)
theorem DeskO.read {base : Nat} {w : World} {r : Rcd} {pB pA pR pD : Option Addr} {cB cA cR cD : Nat} (h : DeskO base w r pB cB pA cA pR cR pD cD) : DeskR w r pB cB pA cA pR cR pD cD := ⟨bs_own9 h.fb (by rw [List.length_append, lent9_length]), bs_own9 h.fa (by rw [List.length_append, lent9_length]), h.fr.cs, h.fd.cs⟩
theorem own_blk_ne9 {w : World} {base n g : Nat} {t : TypeId} {v : Value} {xs cs : List Value} (h : w.ownsRow base 5 1 v n xs) (b : Blk w g t cs) (he : t ≠ 5) : v.ownBlock ≠ some g := fun hx => by
  refine own_is8 h g hx fun cur m e => ?_
  have b' : w.heap[g]? = some (.cells cs.toArray t (0, 0)) := b
  rw [b'] at e
  simp at e
  exact he e.2.1
theorem own_block_any (p : Option Addr) (n m c c' : Nat) : (Value.slice p n c).ownBlock = (Value.slice p m c').ownBlock := by cases p <;> rfl

/-- while it is laid: lR, lD are its rows and recs so far -/
structure Dk (wa wr : World) (D base2 : Nat) (r : Rcd) (pB : Option Addr) (cB : Nat) (pA : Option Addr) (cA : Nat) (lR : List RowR) (pR : Option Addr) (cR : Nat) (lD : List RecR) (pD : Option Addr) (cD : Nat) : Prop where
  blk : Blk wr D 42 [.int .i64 0, .int .i64 0, .int .i64 0, .int .i64 0, .int .i64 0, .int .i64 0, .slice none 0 0, .slice none 0 0, .int .i64 0, .slice none 0 0, .slice none 0 0, .slice pB (r.before.length + 120) cB, .slice pA (r.after.length + 120) cA, .slice pR lR.length cR, .slice pD lD.length cD]
  fb : wr.ownsRow wa.heap.size 5 1 (.slice pB (r.before.length + 120) cB) (r.before.length + 120) (u8s (r.before ++ lent9))
  fa : wr.ownsRow wa.heap.size 5 1 (.slice pA (r.after.length + 120) cA) (r.after.length + 120) (u8s (r.after ++ lent9))
  rr : Row wr base2 5 (.slice pR lR.length cR) lR.length (rcells lR)
  rd : Row wr base2 2 (.slice pD lD.length cD) lD.length (dcells lD)
  ab : Apartv (.slice pA (r.after.length + 120) cA) (.slice pB (r.before.length + 120) cB)
  rdA : Apartv (.slice pR lR.length cR) (.slice pD lD.length cD)
  kept : Kept [] wa wr
  loD : wa.heap.size ≤ D ∧ D < base2
  loB : ∀ x, (Value.slice pB (r.before.length + 120) cB).ownBlock = some x → x < base2
  loA : ∀ x, (Value.slice pA (r.after.length + 120) cA).ownBlock = some x → x < base2
  hb : base2 ≤ wr.heap.size
theorem Dk.addR {wa wr wq w' : World} {D base2 m : Nat} {r : Rcd} {pB pA pR pD : Option Addr} {cB cA cR cD : Nat} {lR : List RowR} {lD : List RecR} {new : List RowR} {v' : Value} (h : Dk wa wr D base2 r pB cB pA cA lR pR cR lD pD cD) (kq : Kept [] wr wq) (hm : new.length = m)
    (r' : Row w' base2 5 v' (lR.length + m) (rcells lR ++ rcells new)) (k' : Kept (Value.slice pR lR.length cR).ownBlock.toList wq w') (a' : v'.ownBlock = (Value.slice pR lR.length cR).ownBlock ∨ v'.ownBlock = some wq.heap.size) :
    ∃ p' c', v' = .slice p' (lR.length + m) c' ∧ Blk w' D 42 [.int .i64 0, .int .i64 0, .int .i64 0, .int .i64 0, .int .i64 0, .int .i64 0, .slice none 0 0, .slice none 0 0, .int .i64 0, .slice none 0 0, .slice none 0 0, .slice pB (r.before.length + 120) cB, .slice pA (r.after.length + 120) cA, .slice pR lR.length cR, .slice pD lD.length cD] ∧ Dk wa (w'.setCell ⟨D, 13, none⟩ (.slice p' (lR.length + m) c')) D base2 r pB cB pA cA (lR ++ new) p' c' lD pD cD := by
  obtain ⟨p', c', rfl, -⟩ := r'.shape
  have ge : ∀ x ∈ (Value.slice pR lR.length cR).ownBlock.toList, base2 ≤ x := fun x hx => (h.rr.lt x (by simpa using hx)).1
  have hbq : base2 ≤ wq.heap.size := Nat.le_trans h.hb kq.size
  have blk1 := (h.blk.kept kq (by simp)).kept k' fun hm => by have := ge D hm; have := h.loD; omega
  have fb1 := own_of_kept (own_of_kept h.fb kq (by simp)) k' fun x hx hm => by have := ge x hm; have := h.loB x hx; omega
  have fa1 := own_of_kept (own_of_kept h.fa kq (by simp)) k' fun x hx hm => by have := ge x hm; have := h.loA x hx; omega
  have ot1 := (h.rd.kept kq (by simp)).kept k' fun x hx hm => h.rdA x (by simpa using hm) hx
  have kk : Kept [] wa w' := (h.kept.then kq).trans k' fun x hx => .inr (by have := ge x hx; have := h.loD; omega)
  obtain ⟨blk2, kD⟩ := blk1.set 13 (.slice p' (lR.length + m) c')
  have hD' : ∀ x ∈ [D], x < base2 := fun x hx => by simp at hx; have := h.loD; omega
  have hl : (lR ++ new).length = lR.length + m := by rw [List.length_append, hm]
  refine ⟨p', c', rfl, blk1, ?_⟩
  refine ⟨by rw [hl]; exact blk2, own_of_kept fb1 kD fun x hx hm => own_blk_ne9 fb1 blk1 (by decide) (by simp at hm; rw [← hm]; exact hx), own_of_kept fa1 kD fun x hx hm => own_blk_ne9 fa1 blk1 (by decide) (by simp at hm; rw [← hm]; exact hx), ?_, ?_, h.ab, ?_, kk.trans kD fun x hx => .inr (by simp at hx; have := h.loD; omega), h.loD, h.loB, h.loA, ?_⟩
  · rw [hl, rcells_append]; exact r'.kept kD fun x hx hm => by have := (r'.lt x hx).1; have := hD' x hm; omega
  · exact ot1.kept kD fun x hx hm => by have := (ot1.lt x hx).1; have := hD' x hm; omega
  · rw [hl]
    intro x hx hy
    rcases a' with a' | a'
    · rw [a'] at hx; exact h.rdA x hx hy
    · rw [a'] at hx; cases hx; have := ((h.rd.kept kq (by simp)).lt _ hy).2; omega
  · have e1 := kD.size
    have e2 := k'.size
    omega
theorem Dk.addD {wa wr wq w' : World} {D base2 m : Nat} {r : Rcd} {pB pA pR pD : Option Addr} {cB cA cR cD : Nat} {lR : List RowR} {lD : List RecR} {new : List RecR} {v' : Value} (h : Dk wa wr D base2 r pB cB pA cA lR pR cR lD pD cD) (kq : Kept [] wr wq) (hm : new.length = m)
    (r' : Row w' base2 2 v' (lD.length + m) (dcells lD ++ dcells new)) (k' : Kept (Value.slice pD lD.length cD).ownBlock.toList wq w') (a' : v'.ownBlock = (Value.slice pD lD.length cD).ownBlock ∨ v'.ownBlock = some wq.heap.size) :
    ∃ p' c', v' = .slice p' (lD.length + m) c' ∧ Blk w' D 42 [.int .i64 0, .int .i64 0, .int .i64 0, .int .i64 0, .int .i64 0, .int .i64 0, .slice none 0 0, .slice none 0 0, .int .i64 0, .slice none 0 0, .slice none 0 0, .slice pB (r.before.length + 120) cB, .slice pA (r.after.length + 120) cA, .slice pR lR.length cR, .slice pD lD.length cD] ∧ Dk wa (w'.setCell ⟨D, 14, none⟩ (.slice p' (lD.length + m) c')) D base2 r pB cB pA cA lR pR cR (lD ++ new) p' c' := by
  obtain ⟨p', c', rfl, -⟩ := r'.shape
  have ge : ∀ x ∈ (Value.slice pD lD.length cD).ownBlock.toList, base2 ≤ x := fun x hx => (h.rd.lt x (by simpa using hx)).1
  have hbq : base2 ≤ wq.heap.size := Nat.le_trans h.hb kq.size
  have blk1 := (h.blk.kept kq (by simp)).kept k' fun hm => by have := ge D hm; have := h.loD; omega
  have fb1 := own_of_kept (own_of_kept h.fb kq (by simp)) k' fun x hx hm => by have := ge x hm; have := h.loB x hx; omega
  have fa1 := own_of_kept (own_of_kept h.fa kq (by simp)) k' fun x hx hm => by have := ge x hm; have := h.loA x hx; omega
  have ot1 := (h.rr.kept kq (by simp)).kept k' fun x hx hm => h.rdA x hx (by simpa using hm)
  have kk : Kept [] wa w' := (h.kept.then kq).trans k' fun x hx => .inr (by have := ge x hx; have := h.loD; omega)
  obtain ⟨blk2, kD⟩ := blk1.set 14 (.slice p' (lD.length + m) c')
  have hD' : ∀ x ∈ [D], x < base2 := fun x hx => by simp at hx; have := h.loD; omega
  have hl : (lD ++ new).length = lD.length + m := by rw [List.length_append, hm]
  refine ⟨p', c', rfl, blk1, ?_⟩
  refine ⟨by rw [hl]; exact blk2, own_of_kept fb1 kD fun x hx hm => own_blk_ne9 fb1 blk1 (by decide) (by simp at hm; rw [← hm]; exact hx), own_of_kept fa1 kD fun x hx hm => own_blk_ne9 fa1 blk1 (by decide) (by simp at hm; rw [← hm]; exact hx), ?_, ?_, h.ab, ?_, kk.trans kD fun x hx => .inr (by simp at hx; have := h.loD; omega), h.loD, h.loB, h.loA, ?_⟩
  · exact ot1.kept kD fun x hx hm => by have := (ot1.lt x hx).1; have := hD' x hm; omega
  · rw [hl, dcells_append]; exact r'.kept kD fun x hx hm => by have := (r'.lt x hx).1; have := hD' x hm; omega
  · rw [hl]
    intro x hx hy
    rcases a' with a' | a'
    · rw [a'] at hy; exact h.rdA x hx hy
    · rw [a'] at hy; cases hy; have := ((h.rr.kept kq (by simp)).lt _ hx).2; omega
  · have e1 := kD.size
    have e2 := k'.size
    omega
theorem Src.ofCs {P : Program} {w : World} {sz n : Nat} {v : Value} {cs : List Value} {t e : TypeId} (ht : P.underlying t = some (.slice e)) (h : Cs w sz v n cs) : Src P sz t v n cs w := by
  obtain ⟨h1, h2, p, c, rfl, h3, h4, h5, h6⟩ := h
  cases p with
  | none =>
    have := h5 rfl
    obtain rfl : n = 0 := by omega
    rw [Nat.zero_mul] at h1
    rw [List.eq_nil_of_length_eq_zero h1]
    exact Src.ofNil _ ht c
  | some a => exact Src.ofSlice _ ht a n c cs h1 (h6 a rfl) h2
end Go.Proofs.Ytebcmcmboomgfaa

/-
  OWN WORK (by mkpr6.py). record: takeBegin, takeNothing, takeRange, takeUpdate, takeUndo.
-/
namespace Go.Proofs.Ytebcmcmboomgfaa
open Go.RowKit
set_option linter.unusedVariables false
set_option linter.unusedSimpArgs false

theorem Ps.bind_none {α β : Type} {p : Ps α} {f : α → Ps β} {l : List UInt8} (h : p l = none) : p.bind f l = none := by
  unfold Ps.bind
  rw [h]
def bareR (k b p : Int) : Rcd := ⟨k, b, p, 0, 0, 0, [], [], 0, [], []⟩
theorem plain_bare (k b p : Int) : plain8 ((bareR k b p).cl nilV) := by
  intro c hc x e
  simp [bareR, Rcd.cl, nilV] at hc
  rcases hc with q | q | q | q | q | q | q <;> (rw [q] at e; cases e)
theorem own_past {w w' : World} {b n : Nat} {v : Value} {xs : List Value} {S : List Nat} (h : w.ownsRow b 5 1 v n xs) (k : Kept S w w') (hS : ∀ x ∈ S, x < b) : w'.ownsRow b 5 1 v n xs :=
  own_of_kept h k fun x hx hm => by have := own_ge h x hx; have := hS x hm; omega
/-- page, from, how many -/
def pRg : Ps (Nat × Nat × Nat) := (num 1).bind fun a => (num 2).bind fun f => (num 2).bind fun n => Ps.ret (a, f, n)
theorem pTail_upd (b p : Nat) : pTail 2 b p = pRg.bind fun q => (raw q.2.2).bind fun x => (raw q.2.2).bind fun y => Ps.ret ⟨2, b, p, 0, q.1, q.2.1, x, y, 0, [], []⟩ := by
  unfold pRg pTail
  simp only [Ps.bind_assoc, Ps.ret_bind]
  rfl
theorem pTail_und (b p : Nat) : pTail 3 b p = pRg.bind fun q => (raw q.2.2).bind fun y => (num 8).bind fun z => Ps.ret ⟨3, b, p, 0, q.1, q.2.1, [], y, z, [], []⟩ := by
  unfold pRg pTail
  simp only [Ps.bind_assoc, Ps.ret_bind]
  rfl

theorem qNothing (bb g R : Nat) (k b p : Nat) (l : List UInt8) (w : World) (hr : Rs bb w g l) (hb : Blk w R 26 ((bareR k b p).cl nilV)) (hne : g ≠ R) (hk : k = 4 ∨ k = 5 ∨ k = 6) : Calls Try.prog 75 #[src g, .pointer (some ⟨R, 0, none⟩)] w fun e w' => Out bb w w' g R (pTail k b p l) e := by
  have S1 := TS.start hr hb (plain_bare _ _ _) hne
  have e0 : pTail k b p l = some (bareR k b p, l) := by unfold pTail; rw [if_neg (by omega), if_neg (by omega), if_neg (by omega), if_neg (by omega)]; rfl
  unfold src
  go_enter Try.func75, Try.ntmps75
  go_wp2
  go_end0
  exact .inl ⟨_, _, _, _, e0, rfl, S1, OwnR.bare _ _ _ _ _ _ _ _ _⟩
set_option maxHeartbeats 800000 in
theorem qBegin (bb g R : Nat) (b p : Nat) (l : List UInt8) (w : World) (hr : Rs bb w g l) (hb : Blk w R 26 ((bareR 1 b p).cl nilV)) (hne : g ≠ R) : Calls Try.prog 72 #[src g, .pointer (some ⟨R, 0, none⟩)] w fun e w' => Out bb w w' g R (pTail 1 b p l) e := by
  have S1 := TS.start hr hb (plain_bare _ _ _) hne
  clear hr hb hne
  obtain ⟨w1, hw1⟩ : ∃ w1, w1 = w.alloc (.cells #[.pointer (some ⟨g, 0, none⟩)] 64) := ⟨_, rfl⟩
  rw [← hw1] at S1
  have b1 := S1.bx
  unfold src
  go_enter Try.func72, Try.ntmps72
  go_upto_region 1 with fail
  rw [← hw1]
  clear hw1
  go_wp2_with fail
  have hc := qNum1 bb g l w1 S1.rd
  unfold src at hc
  refine hc.mono ?_
  clear hc
  rintro e w2 (⟨v, r, h1, rfl, hr2, k2⟩ | ⟨hz, ⟨xz, rfl⟩, kz⟩)
  rotate_left
  · exact ⟨rfl, .inr ⟨Ps.bind_none hz, ⟨_, rfl⟩, kept_gR S1.kept kz⟩⟩
  have S2 := S1.took hr2 k2
  have c3 := S2.blk.cell (j := 3) rfl
  have f3 := S2.blk.free 3
  have FIN := @hideH _ (show Out bb w (w2.setCell ⟨R, 3, none⟩ (.int .i64 (v : Int))) g R (pTail 1 b p l) (.returned (.tuple #[])) from .inl ⟨⟨1, b, p, v, 0, 0, [], [], 0, [], []⟩, r, nilV, _, (by show ((num 1).bind _) l = _; rw [Ps.bind_of h1]; rfl), rfl, S2.set 3 _ (int_not8 _), OwnR.bare _ _ _ _ _ _ _ _ _⟩)
  clear S1 S2 hr2 k2 h1
  go_wp2
  go_end0
  exact FIN.out
set_option maxHeartbeats 1600000 in
theorem qRange (bb g R : Nat) (l : List UInt8) (cs : List Value) (w : World) (hr : Rs bb w g l) (hb : Blk w R 26 cs) (p8 : plain8 cs) (hn : cs.length = 11) (hne : g ≠ R) : Calls Try.prog 83 #[src g, .pointer (some ⟨R, 0, none⟩)] w fun e w' => (∃ (a f n : Nat) (r : List UInt8), pRg l = some ((a, f, n), r) ∧ e = .returned (.int .i64 (n : Int)) ∧ Rs bb w' g r ∧ Blk w' R 26 ((cs.set 4 (.int .i64 a)).set 5 (.int .i64 f)) ∧ Kept [g, R] w w') ∨ (pRg l = none ∧ Gave e ∧ Kept [g, R] w w') := by
  have S1 := TS.start hr hb p8 hne
  clear hr hb hne p8
  obtain ⟨w1, hw1⟩ : ∃ w1, w1 = w.alloc (.cells #[.pointer (some ⟨g, 0, none⟩)] 64) := ⟨_, rfl⟩
  rw [← hw1] at S1
  have b1 := S1.bx
  unfold src
  go_enter Try.func83, Try.ntmps83
  go_upto_region 1 with fail
  rw [← hw1]
  clear hw1
  go_wp2_with fail
  have hc := qNum1 bb g l w1 S1.rd
  unfold src at hc
  refine hc.mono ?_
  clear hc
  rintro e w2 (⟨a, r1, h1, rfl, hr2, k2⟩ | ⟨hz, ⟨xz, rfl⟩, kz⟩)
  rotate_left
  · exact ⟨rfl, .inr ⟨Ps.bind_none hz, ⟨_, rfl⟩, kept_gR S1.kept kz⟩⟩
  have S2 := S1.took hr2 k2
  clear S1 hr2 k2 b1
  obtain ⟨oc, c2⟩ : ∃ oc, w2.cell? ⟨R, 4, none⟩ = some oc := ⟨_, S2.blk.cell (j := 4) (List.getElem?_eq_getElem (by omega))⟩
  have f2 := S2.blk.free 4
  obtain ⟨w3, hw3⟩ : ∃ wx, wx = w2.setCell ⟨R, 4, none⟩ (.int .i64 (a : Int)) := ⟨_, rfl⟩
  have S3 := S2.set 4 (.int .i64 (a : Int)) (int_not8 _)
  have KS3 := @hideH _ (S2.blk.set 4 (.int .i64 (a : Int))).2
  rw [← hw3] at S3 KS3
  have b3 := S3.bx
  clear S2
  go_upto_region 2 with fail
  rw [← hw3]
  clear hw3 c2 f2
  go_wp2_with fail
  have hc := qNum2 bb g r1 w3 S3.rd
  unfold src at hc
  refine hc.mono ?_
  clear hc
  rintro e w4 (⟨f, r2, h2, rfl, hr4, k4⟩ | ⟨hz, ⟨xz, rfl⟩, kz⟩)
  rotate_left
  · exact ⟨rfl, .inr ⟨(by unfold pRg; rw [Ps.bind_of h1, Ps.bind_none hz]), ⟨_, rfl⟩, kept_gR S3.kept kz⟩⟩
  have S4 := S3.took hr4 k4
  clear S3 hr4 k4 b3
  obtain ⟨oc, c4⟩ : ∃ oc, w4.cell? ⟨R, 5, none⟩ = some oc := ⟨_, S4.blk.cell (j := 5) (List.getElem?_eq_getElem (by rw [List.length_set]; omega))⟩
  have f4 := S4.blk.free 5
  obtain ⟨w5, hw5⟩ : ∃ wx, wx = w4.setCell ⟨R, 5, none⟩ (.int .i64 (f : Int)) := ⟨_, rfl⟩
  have S5 := S4.set 5 (.int .i64 (f : Int)) (int_not8 _)
  have KS5 := @hideH _ (S4.blk.set 5 (.int .i64 (f : Int))).2
  rw [← hw5] at S5 KS5
  have b5 := S5.bx
  clear S4
  go_upto_region 3 with fail
  rw [← hw5]
  clear hw5 c4 f4
  go_wp2_with fail
  have hc := qNum2 bb g r2 w5 S5.rd
  unfold src at hc
  refine hc.mono ?_
  clear hc
  rintro e w6 (⟨n, r3, h3, rfl, hr6, k6⟩ | ⟨hz, ⟨xz, rfl⟩, kz⟩)
  rotate_left
  · exact ⟨rfl, .inr ⟨(by unfold pRg; rw [Ps.bind_of h1, Ps.bind_of h2, Ps.bind_none hz]), ⟨_, rfl⟩, kept_gR S5.kept kz⟩⟩
  have S6 := S5.took hr6 k6
  clear S5 hr6 k6 b5
  have FIN := @hideH _ (And.intro (show pRg l = some ((a, f, n), r3) by unfold pRg; rw [Ps.bind_of h1, Ps.bind_of h2, Ps.bind_of h3]; rfl) (And.intro S6.rd (And.intro S6.blk S6.kept)))
  clear S6 h1 h2 h3
  go_wp2
  go_ret
  exact .inl ⟨a, f, n, r3, FIN.out.1, rfl, FIN.out.2⟩
set_option maxHeartbeats 1600000 in
theorem qUpdate (bb g R : Nat) (b p : Nat) (l : List UInt8) (w : World) (hr : Rs bb w g l) (hb : Blk w R 26 ((bareR 2 b p).cl nilV)) (hne : g ≠ R) (hl : l.length ≤ 140737488355328) : Calls Try.prog 73 #[src g, .pointer (some ⟨R, 0, none⟩)] w fun e w' => Out bb w w' g R (pTail 2 b p l) e := by
  have S1 := TS.start hr hb (plain_bare _ _ _) hne
  clear hr hb
  have HLN := @hideH _ hl
  clear hl
  obtain ⟨w1, hw1⟩ : ∃ w1, w1 = w.alloc (.cells #[.pointer (some ⟨g, 0, none⟩)] 64) := ⟨_, rfl⟩
  rw [← hw1] at S1
  have b1 := S1.bx
  unfold src
  go_enter Try.func73, Try.ntmps73
  go_upto_region 1 with fail
  rw [← hw1]
  clear hw1
  go_wp2_with fail
  have hc := qRange bb g R l _ w1 S1.rd S1.blk S1.p8 rfl hne
  unfold src at hc
  refine hc.mono ?_
  clear hc
  rintro e w2 (⟨a, f, n, r1, h1, rfl, hr2, hb2, k2⟩ | ⟨hz, ⟨xz, rfl⟩, kz⟩)
  rotate_left
  · exact ⟨rfl, .inr ⟨(by rw [pTail_upd]; exact Ps.bind_none hz), ⟨_, rfl⟩, S1.kept.trans kz (fun x hx => .inl hx)⟩⟩
  have S2 := S1.both hr2 hb2 ((S1.p8.set 4 (int_not8 _)).set 5 (int_not8 _)) k2
  have b2 := S2.bx
  have HGR := @hideH _ (And.intro S1.rd.rd.lt S1.blk.lt)
  have L1 := @hideH _ (show r1.length ≤ 140737488355328 from Nat.le_trans (by unfold pRg at h1; obtain ⟨_, q1, e1, h⟩ := Ps.bind_some.1 h1; obtain ⟨_, q2, e2, h⟩ := Ps.bind_some.1 h; obtain ⟨_, q3, e3, h⟩ := Ps.bind_some.1 h; simp [Ps.ret] at h; have m1 := num_len e1; have m2 := num_len e2; have m3 := num_len e3; rw [h.2] at m3; omega) HLN.out)
  have Z2 := @hideH _ (And.intro (Nat.le_trans S1.kept.size k2.size) k2.size)
  clear S1 hr2 hb2 k2 b1
  go_upto_region 2 with fail
  go_wp2_with fail
  have hc := qRaw bb g n r1 w2 S2.rd L1.out
  unfold src at hc
  refine hc.mono ?_
  clear hc
  rintro e w3 (⟨u1, x, r2, h2, rfl, o3, hr3, k3⟩ | ⟨hz, ⟨xz, rfl⟩, kz⟩)
  rotate_left
  · exact ⟨rfl, .inr ⟨(by rw [pTail_upd, Ps.bind_of h1, Ps.bind_none hz]), ⟨_, rfl⟩, kept_gR S2.kept kz⟩⟩
  have S3 := S2.took hr3 k3
  obtain ⟨p3, c3', rfl⟩ := own_shape2 o3
  have Z3 := @hideH _ k3.size
  have O3 := @hideH _ o3
  have L2 := @hideH _ (Nat.le_trans (raw_len h2) L1.out)
  clear S2 hr3 k3 b2 o3
  obtain ⟨oc, c3⟩ : ∃ oc, w3.cell? ⟨R, 6, none⟩ = some oc := ⟨_, S3.blk.cell (j := 6) (rfl)⟩
  have f3 := S3.blk.free 6
  obtain ⟨w4, hw4⟩ : ∃ wx, wx = w3.setCell ⟨R, 6, none⟩ (.slice p3 x.length c3') := ⟨_, rfl⟩
  have S4 := S3.set 6 (.slice p3 x.length c3') (slice_not8 _ _ _)
  have KS4 := @hideH _ (S3.blk.set 6 (.slice p3 x.length c3')).2
  rw [← hw4] at S4 KS4
  have b4 := S4.bx
  clear S3
  go_upto_region 3 with fail
  rw [← hw4]
  clear hw4 c3 f3
  go_wp2_with fail
  have hc := qRaw bb g n r2 w4 S4.rd L2.out
  unfold src at hc
  refine hc.mono ?_
  clear hc
  rintro e w5 (⟨u2, y, r3, h3, rfl, o5, hr5, k5⟩ | ⟨hz, ⟨xz, rfl⟩, kz⟩)
  rotate_left
  · exact ⟨rfl, .inr ⟨(by rw [pTail_upd, Ps.bind_of h1, Ps.bind_of h2, Ps.bind_none hz]), ⟨_, rfl⟩, kept_gR S4.kept kz⟩⟩
  have S5 := S4.took hr5 k5
  obtain ⟨p5, c5', rfl⟩ := own_shape2 o5
  have Z5 := @hideH _ k5.size
  have O5 := @hideH _ o5
  have K45 := @hideH _ k5
  clear S4 hr5 k5 b4 o5
  have S6 := S5.set 7 (.slice p5 y.length c5') (slice_not8 _ _ _)
  have k6 := (S5.blk.set 7 (.slice p5 y.length c5')).2
  have c5 := S5.blk.cell (j := 7) rfl
  have f5 := S5.blk.free 7
  have lo : ∀ x ∈ [g, R], x < w2.heap.size := fun x hx => by have e1 := HGR.out; have e2 := Z2.out.2; simp at hx; rcases hx with q | q <;> omega
  have loR : ∀ x ∈ [R], x < w2.heap.size := fun x hx => lo x (by simp at hx ⊢; exact .inr hx)
  have loG : ∀ x ∈ [g], x < w2.heap.size := fun x hx => lo x (by simp at hx ⊢; exact .inl hx)
  have FIN := @hideH _ (show Out bb w (w5.setCell ⟨R, 7, none⟩ (.slice p5 y.length c5')) g R (pTail 2 b p l) (.returned (.tuple #[])) from .inl ⟨⟨2, b, p, 0, a, f, x, y, 0, [], []⟩, r3, ⟨.slice p3 x.length c3', .slice p5 y.length c5', .slice none 0 0, .slice none 0 0⟩, _, (by rw [pTail_upd, Ps.bind_of h1, Ps.bind_of h2, Ps.bind_of h3]; rfl), rfl, S6,
    ⟨own_mono (own_past (own_past (own_past O3.out KS4.out loR) K45.out loG) k6 loR) Z2.out.1, own_mono (own_past O5.out k6 (fun x hx => Nat.lt_of_lt_of_le (loR x hx) (Nat.le_trans Z3.out KS4.out.size))) (Nat.le_trans Z2.out.1 (Nat.le_trans Z3.out KS4.out.size)), Row.nil _ _ 5, Row.nil _ _ 2, (fun q hq e => by have e1 := own_lt O3.out q hq; have e2 := own_ge O5.out q e; have e3 := KS4.out.size; omega), .nil_r _, .nil_r _, .nil_r _, .nil_r _, .nil_l _⟩⟩)
  clear S5 S6 k6 lo loR loG h1 h2 h3
  go_wp2
  go_end0
  exact FIN.out
set_option maxHeartbeats 1600000 in
theorem qUndo (bb g R : Nat) (b p : Nat) (l : List UInt8) (w : World) (hr : Rs bb w g l) (hb : Blk w R 26 ((bareR 3 b p).cl nilV)) (hne : g ≠ R) (hl : l.length ≤ 140737488355328) : Calls Try.prog 74 #[src g, .pointer (some ⟨R, 0, none⟩)] w fun e w' => Out bb w w' g R (pTail 3 b p l) e := by
  have S1 := TS.start hr hb (plain_bare _ _ _) hne
  clear hr hb
  have HLN := @hideH _ hl
  clear hl
  obtain ⟨w1, hw1⟩ : ∃ w1, w1 = w.alloc (.cells #[.pointer (some ⟨g, 0, none⟩)] 64) := ⟨_, rfl⟩
  rw [← hw1] at S1
  have b1 := S1.bx
  unfold src
  go_enter Try.func74, Try.ntmps74
  go_upto_region 1 with fail
  rw [← hw1]
  clear hw1
  go_wp2_with fail
  have hc := qRange bb g R l _ w1 S1.rd S1.blk S1.p8 rfl hne
  unfold src at hc
  refine hc.mono ?_
  clear hc
  rintro e w2 (⟨a, f, n, r1, h1, rfl, hr2, hb2, k2⟩ | ⟨hz, ⟨xz, rfl⟩, kz⟩)
  rotate_left
  · exact ⟨rfl, .inr ⟨(by rw [pTail_und]; exact Ps.bind_none hz), ⟨_, rfl⟩, S1.kept.trans kz (fun x hx => .inl hx)⟩⟩
  have S2 := S1.both hr2 hb2 ((S1.p8.set 4 (int_not8 _)).set 5 (int_not8 _)) k2
  have b2 := S2.bx
  have HGR := @hideH _ (And.intro S1.rd.rd.lt S1.blk.lt)
  have L1 := @hideH _ (show r1.length ≤ 140737488355328 from Nat.le_trans (by unfold pRg at h1; obtain ⟨_, q1, e1, h⟩ := Ps.bind_some.1 h1; obtain ⟨_, q2, e2, h⟩ := Ps.bind_some.1 h; obtain ⟨_, q3, e3, h⟩ := Ps.bind_some.1 h; simp [Ps.ret] at h; have m1 := num_len e1; have m2 := num_len e2; have m3 := num_len e3; rw [h.2] at m3; omega) HLN.out)
  have Z2 := @hideH _ (And.intro (Nat.le_trans S1.kept.size k2.size) k2.size)
  clear S1 hr2 hb2 k2 b1
  go_upto_region 2 with fail
  go_wp2_with fail
  have hc := qRaw bb g n r1 w2 S2.rd L1.out
  unfold src at hc
  refine hc.mono ?_
  clear hc
  rintro e w3 (⟨u1, y, r2, h2, rfl, o3, hr3, k3⟩ | ⟨hz, ⟨xz, rfl⟩, kz⟩)
  rotate_left
  · exact ⟨rfl, .inr ⟨(by rw [pTail_und, Ps.bind_of h1, Ps.bind_none hz]), ⟨_, rfl⟩, kept_gR S2.kept kz⟩⟩
  have S3 := S2.took hr3 k3
  obtain ⟨p3, c3', rfl⟩ := own_shape2 o3
  have Z3 := @hideH _ k3.size
  have O3 := @hideH _ o3
  clear S2 hr3 k3 b2 o3
  obtain ⟨oc, c3⟩ : ∃ oc, w3.cell? ⟨R, 7, none⟩ = some oc := ⟨_, S3.blk.cell (j := 7) (rfl)⟩
  have f3 := S3.blk.free 7
  obtain ⟨w4, hw4⟩ : ∃ wx, wx = w3.setCell ⟨R, 7, none⟩ (.slice p3 y.length c3') := ⟨_, rfl⟩
  have S4 := S3.set 7 (.slice p3 y.length c3') (slice_not8 _ _ _)
  have KS4 := @hideH _ (S3.blk.set 7 (.slice p3 y.length c3')).2
  rw [← hw4] at S4 KS4
  have b4 := S4.bx
  clear S3
  go_upto_region 3 with fail
  rw [← hw4]
  clear hw4 c3 f3
  go_wp2_with fail
  have hc := qEt bb g r2 w4 S4.rd
  unfold src at hc
  refine hc.mono ?_
  clear hc
  rintro e w5 (⟨z, r3, h3, rfl, hr5, k5⟩ | ⟨hz, ⟨xz, rfl⟩, kz⟩)
  rotate_left
  · exact ⟨rfl, .inr ⟨(by rw [pTail_und, Ps.bind_of h1, Ps.bind_of h2, Ps.bind_none hz]), ⟨_, rfl⟩, kept_gR S4.kept kz⟩⟩
  have S5 := S4.took hr5 k5
  have K45 := @hideH _ k5
  clear S4 hr5 k5 b4
  have S6 := S5.set 8 (.int .i64 (z : Int)) (int_not8 _)
  have k6 := (S5.blk.set 8 (.int .i64 (z : Int))).2
  have c5 := S5.blk.cell (j := 8) rfl
  have f5 := S5.blk.free 8
  have lo : ∀ x ∈ [g, R], x < w2.heap.size := fun x hx => by have e1 := HGR.out; have e2 := Z2.out.2; simp at hx; rcases hx with q | q <;> omega
  have loR : ∀ x ∈ [R], x < w2.heap.size := fun x hx => lo x (by simp at hx ⊢; exact .inr hx)
  have loG : ∀ x ∈ [g], x < w2.heap.size := fun x hx => lo x (by simp at hx ⊢; exact .inl hx)
  have FIN := @hideH _ (show Out bb w (w5.setCell ⟨R, 8, none⟩ (.int .i64 (z : Int))) g R (pTail 3 b p l) (.returned (.tuple #[])) from .inl ⟨⟨3, b, p, 0, a, f, [], y, z, [], []⟩, r3, ⟨.slice none 0 0, .slice p3 y.length c3', .slice none 0 0, .slice none 0 0⟩, _, (by rw [pTail_und, Ps.bind_of h1, Ps.bind_of h2, Ps.bind_of h3]; rfl), rfl, S6,
    ⟨own_nil _ _, own_mono (own_past (own_past (own_past O3.out KS4.out loR) K45.out loG) k6 loR) Z2.out.1, Row.nil _ _ 5, Row.nil _ _ 2, .nil_l _, .nil_l _, .nil_l _, .nil_r _, .nil_r _, .nil_l _⟩⟩)
  clear S5 S6 k6 lo loR loG h1 h2 h3
  go_wp2
  go_end0
  exact FIN.out
end Go.Proofs.Ytebcmcmboomgfaa

/-
  OWN WORK. record's takeCheck: what stands in its two loops.
-/
namespace Go.Proofs.Ytebcmcmboomgfaa
open Go.RowKit
set_option linter.unusedVariables false
set_option linter.unusedSimpArgs false

/-- of n that are to be read k have been: rs; lr is left -/
def Mny {α : Type} (p : Ps α) (n : Nat) (l : List UInt8) (k : Nat) (rs : List α) (lr : List UInt8) : Prop := many p n l = ((many p (n - k)).bind fun more => Ps.ret (rs ++ more)) lr
theorem Mny.start {α : Type} (p : Ps α) (n : Nat) (l : List UInt8) : Mny p n l 0 [] l := by
  unfold Mny Ps.bind
  rw [Nat.sub_zero]
  cases many p n l with
  | none => rfl
  | some y => obtain ⟨a, r⟩ := y; rfl
theorem Mny.step {α : Type} {p : Ps α} {n k : Nat} {l lr l2 : List UInt8} {rs : List α} {x : α} (h : Mny p n l k rs lr) (hk : k < n) (hp : p lr = some (x, l2)) : Mny p n l (k + 1) (rs ++ [x]) l2 := by
  unfold Mny at h ⊢
  rw [show n - k = (n - (k + 1)) + 1 by omega] at h
  rw [h]
  show ((p.bind fun a => (many p (n - (k + 1))).bind fun xs => Ps.ret (a :: xs)).bind _) lr = _
  rw [Ps.bind_assoc, Ps.bind_of hp, Ps.bind_assoc]
  simp only [Ps.ret_bind, List.append_assoc, List.singleton_append]
theorem Mny.fail {α : Type} {p : Ps α} {n k : Nat} {l lr : List UInt8} {rs : List α} (h : Mny p n l k rs lr) (hk : k < n) (hp : p lr = none) : many p n l = none := by
  unfold Mny at h
  rw [show n - k = (n - (k + 1)) + 1 by omega] at h
  rw [h]
  show ((p.bind fun a => (many p (n - (k + 1))).bind fun xs => Ps.ret (a :: xs)).bind _) lr = _
  rw [Ps.bind_assoc, Ps.bind_none hp]
theorem Mny.done {α : Type} {p : Ps α} {n : Nat} {l lr : List UInt8} {rs : List α} (h : Mny p n l n rs lr) : many p n l = some (rs, lr) := by
  unfold Mny at h
  rw [Nat.sub_self] at h
  rw [h]
  show (Ps.bind (Ps.ret []) fun more => Ps.ret (rs ++ more)) lr = _
  rw [Ps.ret_bind, List.append_nil]
  rfl
section
variable {b p n m : Nat} {l l1 l2 l3 : List UInt8} {rs : List RowR}
theorem pTail_chk (b p : Nat) : pTail 7 b p = (num 1).bind fun n => (many pRow n).bind fun rs => (num 1).bind fun m => (many pRec m).bind fun ds => Ps.ret ⟨7, b, p, 0, 0, 0, [], [], 0, rs, ds⟩ := rfl
theorem pt7_no0 (hz : num 1 l = none) : pTail 7 b p l = none := by rw [pTail_chk]; exact Ps.bind_none hz
theorem pt7_no1 (h : num 1 l = some (n, l1)) (hz : many pRow n l1 = none) : pTail 7 b p l = none := by rw [pTail_chk, Ps.bind_of h]; exact Ps.bind_none hz
theorem pt7_no2 (h : num 1 l = some (n, l1)) (h2 : many pRow n l1 = some (rs, l2)) (hz : num 1 l2 = none) : pTail 7 b p l = none := by rw [pTail_chk, Ps.bind_of h, Ps.bind_of h2]; exact Ps.bind_none hz
theorem pt7_no3 (h : num 1 l = some (n, l1)) (h2 : many pRow n l1 = some (rs, l2)) (h3 : num 1 l2 = some (m, l3)) (hz : many pRec m l3 = none) : pTail 7 b p l = none := by rw [pTail_chk, Ps.bind_of h, Ps.bind_of h2, Ps.bind_of h3]; exact Ps.bind_none hz
theorem pt7_yes {ds : List RecR} {l4 : List UInt8} (h : num 1 l = some (n, l1)) (h2 : many pRow n l1 = some (rs, l2)) (h3 : num 1 l2 = some (m, l3)) (h4 : many pRec m l3 = some (ds, l4)) : pTail 7 b p l = some (⟨7, b, p, 0, 0, 0, [], [], 0, rs, ds⟩, l4) := by rw [pTail_chk, Ps.bind_of h, Ps.bind_of h2, Ps.bind_of h3, Ps.bind_of h4]; rfl
end
section
variable {v1 v2 v3 v4 v5 : Nat} {l l1 l2 l3 l4 l5 : List UInt8}
theorem pRow_no1 (hz : num 8 l = none) : pRow l = none := Ps.bind_none hz
theorem pRow_no2 (e1 : num 8 l = some (v1, l1)) (hz : num 1 l1 = none) : pRow l = none := by unfold pRow; rw [Ps.bind_of e1]; exact Ps.bind_none hz
theorem pRow_no3 (e1 : num 8 l = some (v1, l1)) (e2 : num 1 l1 = some (v2, l2)) (hz : num 1 l2 = none) : pRow l = none := by unfold pRow; rw [Ps.bind_of e1, Ps.bind_of e2]; exact Ps.bind_none hz
theorem pRow_no4 (e1 : num 8 l = some (v1, l1)) (e2 : num 1 l1 = some (v2, l2)) (e3 : num 1 l2 = some (v3, l3)) (hz : num 8 l3 = none) : pRow l = none := by unfold pRow; rw [Ps.bind_of e1, Ps.bind_of e2, Ps.bind_of e3]; exact Ps.bind_none hz
theorem pRow_no5 (e1 : num 8 l = some (v1, l1)) (e2 : num 1 l1 = some (v2, l2)) (e3 : num 1 l2 = some (v3, l3)) (e4 : num 8 l3 = some (v4, l4)) (hz : num 8 l4 = none) : pRow l = none := by unfold pRow; rw [Ps.bind_of e1, Ps.bind_of e2, Ps.bind_of e3, Ps.bind_of e4]; exact Ps.bind_none hz
theorem pRow_yes (e1 : num 8 l = some (v1, l1)) (e2 : num 1 l1 = some (v2, l2)) (e3 : num 1 l2 = some (v3, l3)) (e4 : num 8 l3 = some (v4, l4)) (e5 : num 8 l4 = some (v5, l5)) : pRow l = some (⟨v1, v2, v3, v4, v5⟩, l5) := by unfold pRow; rw [Ps.bind_of e1, Ps.bind_of e2, Ps.bind_of e3, Ps.bind_of e4, Ps.bind_of e5]; rfl
theorem pRec_no1 (hz : num 1 l = none) : pRec l = none := Ps.bind_none hz
theorem pRec_no2 (e1 : num 1 l = some (v1, l1)) (hz : num 8 l1 = none) : pRec l = none := by unfold pRec; rw [Ps.bind_of e1]; exact Ps.bind_none hz
theorem pRec_yes (e1 : num 1 l = some (v1, l1)) (e2 : num 8 l1 = some (v2, l2)) : pRec l = some (⟨v1, v2⟩, l2) := by unfold pRec; rw [Ps.bind_of e1, Ps.bind_of e2]; rfl
end
/-- base lies behind all that was there -/
def Lo (bb base : Nat) (w : World) (g R B : Nat) : Prop := bb ≤ base ∧ g < base ∧ R < base ∧ B < base ∧ w.heap.size ≤ base
structure Ch1 (bb : Nat) (w wr : World) (g R B : Nat) (b p : Int) (base n : Nat) (l1 : List UInt8) (k : Nat) (rs : List RowR) (lr : List UInt8) (pr : Option Addr) (cr : Nat) : Prop where
  len : rs.length = k
  mny : Mny pRow n l1 k rs lr
  ts : TS bb w wr g R B lr (((bareR 7 b p).cl nilV).set 9 (.slice pr k cr))
  row : Row wr base 5 (.slice pr k cr) k (rcells rs)
  hb : base ≤ wr.heap.size
theorem Row.past {w w' : World} {base sz n : Nat} {v : Value} {cs : List Value} {S : List Nat} (h : Row w base sz v n cs) (k : Kept S w w') (hS : ∀ x ∈ S, x < base) : Row w' base sz v n cs := h.kept k fun x hx hm => by have := (h.lt x hx).1; have := hS x hm; omega
theorem Ch1.next {bb : Nat} {w w5 : World} {g R B : Nat} {b p : Int} {base n : Nat} {l1 : List UInt8} {k : Nat} {rs : List RowR} {l6 : List UInt8} {pr : Option Addr} {cr : Nat} {x : RowR} (lo : Lo bb base w g R B)
    (h5 : TS bb w w5 g R B l6 (((bareR 7 b p).cl nilV).set 9 (.slice pr k cr))) (hr : Row w5 base 5 (.slice pr k cr) k (rcells rs)) (hl : rs.length = k) (hb : base ≤ w5.heap.size) (hm : Mny pRow n l1 (k + 1) (rs ++ [x]) l6) {o : Obj} {v' : Value} {w' : World}
    (r' : Row w' base 5 v' (k + 1) (rcells rs ++ rcells [x])) (k' : Kept (Value.slice pr k cr).ownBlock.toList (w5.alloc o) w') :
    ∃ p' c', v' = .slice p' (k + 1) c' ∧ TS bb w w' g R B l6 (((bareR 7 b p).cl nilV).set 9 (.slice pr k cr)) ∧ Ch1 bb w (w'.setCell ⟨R, 9, none⟩ (.slice p' (k + 1) c')) g R B b p base n l1 (k + 1) (rs ++ [x]) l6 p' c' := by
  obtain ⟨p', c', rfl, -⟩ := r'.shape
  obtain ⟨lo1, lo2, lo3, lo4, lo5⟩ := lo
  have t1 := (h5.then ((Kept.refl [] w5).alloc o)).others k' fun x hx => by
    have e := (hr.lt x (by simpa using hx)).1
    exact ⟨by omega, by omega, by omega, by omega, by omega⟩
  have kR := (t1.blk.set 9 (.slice p' (k + 1) c')).2
  have t2 := t1.set 9 (.slice p' (k + 1) c') (slice_not8 _ _ _)
  rw [List.set_set] at t2
  refine ⟨p', c', rfl, t1, by simp [hl], hm, t2, ?_, ?_⟩
  · rw [rcells_append]
    exact r'.past kR (by simp; omega)
  · have e1 := kR.size
    have e2 := k'.size
    rw [World.size_alloc] at e2
    omega
structure Ch2 (bb : Nat) (w wr : World) (g R B : Nat) (b p : Int) (base base2 nr : Nat) (rs : List RowR) (pr : Option Addr) (cr : Nat) (m : Nat) (l3 : List UInt8) (q : Nat) (ds : List RecR) (lr : List UInt8) (pd : Option Addr) (cd : Nat) : Prop where
  len : ds.length = q
  mny : Mny pRec m l3 q ds lr
  ts : TS bb w wr g R B lr ((((bareR 7 b p).cl nilV).set 9 (.slice pr nr cr)).set 10 (.slice pd q cd))
  rows : Row wr base 5 (.slice pr nr cr) nr (rcells rs)
  row : Row wr base2 2 (.slice pd q cd) q (dcells ds)
  hb : base2 ≤ wr.heap.size
  far : ∀ x, (Value.slice pr nr cr).ownBlock = some x → x < base2
theorem Ch2.next {bb : Nat} {w w5 : World} {g R B : Nat} {b p : Int} {base base2 nr : Nat} {rs : List RowR} {pr : Option Addr} {cr : Nat} {m : Nat} {l3 : List UInt8} {q : Nat} {ds : List RecR} {l6 : List UInt8} {pd : Option Addr} {cd : Nat} {x : RecR} (lo : Lo bb base w g R B) (lo2 : base ≤ base2)
    (h5 : TS bb w w5 g R B l6 ((((bareR 7 b p).cl nilV).set 9 (.slice pr nr cr)).set 10 (.slice pd q cd))) (hrr : Row w5 base 5 (.slice pr nr cr) nr (rcells rs)) (hr : Row w5 base2 2 (.slice pd q cd) q (dcells ds)) (hl : ds.length = q) (hb : base2 ≤ w5.heap.size) (far : ∀ x, (Value.slice pr nr cr).ownBlock = some x → x < base2) (hm : Mny pRec m l3 (q + 1) (ds ++ [x]) l6) {o : Obj} {v' : Value} {w' : World}
    (r' : Row w' base2 2 v' (q + 1) (dcells ds ++ dcells [x])) (k' : Kept (Value.slice pd q cd).ownBlock.toList (w5.alloc o) w') :
    ∃ p' c', v' = .slice p' (q + 1) c' ∧ TS bb w w' g R B l6 ((((bareR 7 b p).cl nilV).set 9 (.slice pr nr cr)).set 10 (.slice pd q cd)) ∧ Ch2 bb w (w'.setCell ⟨R, 10, none⟩ (.slice p' (q + 1) c')) g R B b p base base2 nr rs pr cr m l3 (q + 1) (ds ++ [x]) l6 p' c' := by
  obtain ⟨p', c', rfl, -⟩ := r'.shape
  obtain ⟨lo1, lo3, lo4, lo5, lo6⟩ := lo
  have ge : ∀ x ∈ (Value.slice pd q cd).ownBlock.toList, base2 ≤ x := fun x hx => (hr.lt x (by simpa using hx)).1
  have t1 := (h5.then ((Kept.refl [] w5).alloc o)).others k' fun x hx => by
    have e := ge x hx
    exact ⟨by omega, by omega, by omega, by omega, by omega⟩
  have rr1 := (hrr.kept ((Kept.refl [] w5).alloc o) (by simp)).kept k' fun x hx hm => by have e1 := far x hx; have e2 := ge x hm; omega
  have kR := (t1.blk.set 10 (.slice p' (q + 1) c')).2
  have t2 := t1.set 10 (.slice p' (q + 1) c') (slice_not8 _ _ _)
  rw [List.set_set] at t2
  refine ⟨p', c', rfl, t1, by simp [hl], hm, t2, rr1.past kR (by simp; omega), ?_, ?_, far⟩
  · rw [dcells_append]
    exact r'.past kR (by simp; omega)
  · have e1 := kR.size
    have e2 := k'.size
    rw [World.size_alloc] at e2
    omega
end Go.Proofs.Ytebcmcmboomgfaa

/-
  OWN WORK (by mkpr7.py). record: takeCheck.
-/
namespace Go.Proofs.Ytebcmcmboomgfaa
open Go.RowKit
set_option linter.unusedVariables false
set_option linter.unusedSimpArgs false

set_option maxRecDepth 20000 in
set_option maxHeartbeats 12800000 in
theorem qCheck (bb g R : Nat) (b p : Nat) (l : List UInt8) (w : World) (hr : Rs bb w g l) (hb : Blk w R 26 ((bareR 7 b p).cl nilV)) (hne : g ≠ R) (hbb : bb ≤ w.heap.size) : Calls Try.prog 76 #[src g, .pointer (some ⟨R, 0, none⟩)] w fun e w' => Out bb w w' g R (pTail 7 b p l) e := by
  have S1 := TS.start hr hb (plain_bare _ _ _) hne
  obtain ⟨w1, hw1⟩ : ∃ w1, w1 = w.alloc (.cells #[.pointer (some ⟨g, 0, none⟩)] 64) := ⟨_, rfl⟩
  have LO := @hideH _ (show Lo bb w1.heap.size w g R w.heap.size from (by have e1 := hr.rd.lt; have e2 := hb.lt; rw [hw1, World.size_alloc]; exact ⟨by omega, by omega, by omega, by omega, by omega⟩))
  clear hr hb hne hbb
  rw [← hw1] at S1
  have b1 := S1.bx
  obtain ⟨inf, hin1, hin2, hin3, hin4⟩ := info_parts3 (show (Try.prog.info? 66).map (fun i => (i.zero, i.size, i.bytes)) = some (some (.agg #[.int .i64 0, .int .i64 0, .int .i64 0, .int .i64 0, .int .i64 0]), 5, 40) by kernel_rfl)
  have HI := @hideH _ (And.intro hin1 (And.intro hin2 (And.intro hin3 hin4)))
  obtain ⟨inf2, hjn1, hjn2, hjn3, hjn4⟩ := info_parts3 (show (Try.prog.info? 68).map (fun i => (i.zero, i.size, i.bytes)) = some (some (.agg #[.int .i64 0, .int .i64 0]), 2, 16) by kernel_rfl)
  have HI2 := @hideH _ (And.intro hjn1 (And.intro hjn2 (And.intro hjn3 hjn4)))
  clear hin1 hin2 hin3 hin4 hjn1 hjn2 hjn3 hjn4
  unfold src
  go_enter Try.func76, Try.ntmps76
  go_upto_region 1 with fail
  rw [← hw1]
  clear hw1
  go_wp2_with fail
  have hc := qNum1 bb g l w1 S1.rd
  unfold src at hc
  refine hc.mono ?_
  clear hc
  rintro e w2 (⟨n, l1, h1, rfl, hr2, k2⟩ | ⟨hz, ⟨xz, rfl⟩, kz⟩)
  rotate_left
  · exact ⟨rfl, .inr ⟨pt7_no0 hz, ⟨_, rfl⟩, kept_gR S1.kept kz⟩⟩
  have C0 := @hideH _ (show Ch1 bb w w2 g R w.heap.size b p w1.heap.size n l1 0 [] l1 none 0 from ⟨rfl, Mny.start _ _ _, S1.took hr2 k2, Row.nil _ _ _, k2.size⟩)
  have HN := @hideH _ (show n < 256 by have := (num_some h1).2.2; simpa using this)
  have H1 := @hideH _ h1
  clear S1 b1 hr2 k2 h1
  go_wp2
  go_loopw [6] (fun vi wr => ∃ (k : Nat) (rs : List RowR) (lr : List UInt8) (pr : Option Addr) (cr : Nat), k ≤ n ∧ vi = .int .i64 k ∧ Hid (Ch1 bb w wr g R w.heap.size b p w1.heap.size n l1 k rs lr pr cr)) (fun vi _ => n - (intOf vi).toNat)
  case atStart => exact ⟨0, [], l1, none, 0, Nat.zero_le _, rfl, C0⟩
  case round =>
    clear C0
    obtain ⟨k, rs, lr, pr, cr, hk, rfl, hh⟩ := hrel
    by_cases hkl : k < n
    · have hkl' : (k : Int) < (n : Int) := by omega
      have wk : IntKind.i64.wrap ((k : Int) + 1) = (k : Int) + 1 := wrap_i64_of (by omega) (by have := HN.out; omega)
      have HK := @hideH _ hkl
      have hsub : (0 : Int) ≤ (k : Int) := by omega
      have HH := hh
      clear hh
      go_upto_region 3 with fail
      refine wp_region_late (fun w' => w'.cell? ⟨R, 9, none⟩ = some (.slice pr k cr) ∧ w'.cell? ⟨w.heap.size, 0, none⟩ = some (.pointer (some ⟨g, 0, none⟩))) 20 (by kernel_rfl) ?_
      have T0 := HH.out.ts.then (Kept.refl [] _).drew
      have hS : (fun w' : World => w'.cell? ⟨R, 9, none⟩ = some (.slice pr k cr) ∧ w'.cell? ⟨w.heap.size, 0, none⟩ = some (.pointer (some ⟨g, 0, none⟩))) _ := ⟨T0.blk.cell (j := 9) rfl, T0.bx⟩
      dsimp only at hS
      refine wpAnyZ_take 0 (v := ?va0) rfl (by kernel_rfl) (by kernel_rfl) (by kernel_rfl) (by kernel_rfl) (fun _ _ _ h => h) (by rfl) ?hya0 hS ?resta0
      case hya0 => (intro wx hSx; obtain ⟨hs1, hs2⟩ := hSx; go_simp; (try with_reducible rfl))
      (try simp only [Act.put, List.setIfInBounds_toArray, List.set_cons_zero, List.set_cons_succ])
      refine wpAnyZ_take 1 (v := ?va1) rfl (by kernel_rfl) (by kernel_rfl) (by kernel_rfl) (by kernel_rfl) (fun _ _ _ h => h) (by rfl) ?hya1 hS ?resta1
      case hya1 => (intro wx hSx; obtain ⟨hs1, hs2⟩ := hSx; go_simp; (try with_reducible rfl))
      (try simp only [Act.put, List.setIfInBounds_toArray, List.set_cons_zero, List.set_cons_succ])
      refine wpAnyZ_take 2 (v := ?va2) rfl (by kernel_rfl) (by kernel_rfl) (by kernel_rfl) (by kernel_rfl) (fun _ _ _ h => h) (by rfl) ?hya2 hS ?resta2
      case hya2 => (intro wx hSx; obtain ⟨hs1, hs2⟩ := hSx; go_simp; (try with_reducible rfl))
      (try simp only [Act.put, List.setIfInBounds_toArray, List.set_cons_zero, List.set_cons_succ])
      refine wpAnyZ_take 3 (v := ?va3) rfl (by kernel_rfl) (by kernel_rfl) (by kernel_rfl) (by kernel_rfl) (fun _ _ _ h => h) (by rfl) ?hya3 hS ?resta3
      case hya3 => (intro wx hSx; obtain ⟨hs1, hs2⟩ := hSx; go_simp; (try with_reducible rfl))
      (try simp only [Act.put, List.setIfInBounds_toArray, List.set_cons_zero, List.set_cons_succ])
      refine wpAnyZ_take 4 (v := ?va4) rfl (by kernel_rfl) (by kernel_rfl) (by kernel_rfl) (by kernel_rfl) (fun _ _ _ h => h) (by rfl) ?hya4 hS ?resta4
      case hya4 => (intro wx hSx; obtain ⟨hs1, hs2⟩ := hSx; go_simp; (try with_reducible rfl))
      (try simp only [Act.put, List.setIfInBounds_toArray, List.set_cons_zero, List.set_cons_succ])
      refine wpAnyZ_take 5 (v := ?va5) rfl (by kernel_rfl) (by kernel_rfl) (by kernel_rfl) (by kernel_rfl) (fun _ _ _ h => h) (by rfl) ?hya5 hS ?resta5
      case hya5 => (intro wx hSx; obtain ⟨hs1, hs2⟩ := hSx; go_simp; (try with_reducible rfl))
      (try simp only [Act.put, List.setIfInBounds_toArray, List.set_cons_zero, List.set_cons_succ])
      refine wpAnyZ_take 7 (v := ?va7) rfl (by kernel_rfl) (by kernel_rfl) (by kernel_rfl) (by kernel_rfl) (fun _ _ _ h => h) (by rfl) ?hya7 hS ?resta7
      case hya7 => (intro wx hSx; obtain ⟨hs1, hs2⟩ := hSx; go_simp; (try with_reducible rfl))
      (try simp only [Act.put, List.setIfInBounds_toArray, List.set_cons_zero, List.set_cons_succ])
      refine wpAnyZ_take 9 (v := ?va9) rfl (by kernel_rfl) (by kernel_rfl) (by kernel_rfl) (by kernel_rfl) (fun _ _ _ h => h) (by rfl) ?hya9 hS ?resta9
      case hya9 => (intro wx hSx; obtain ⟨hs1, hs2⟩ := hSx; go_simp; (try with_reducible rfl))
      (try simp only [Act.put, List.setIfInBounds_toArray, List.set_cons_zero, List.set_cons_succ])
      refine wpAnyZ_take 11 (v := ?va11) rfl (by kernel_rfl) (by kernel_rfl) (by kernel_rfl) (by kernel_rfl) (fun _ _ _ h => h) (by rfl) ?hya11 hS ?resta11
      case hya11 => (intro wx hSx; obtain ⟨hs1, hs2⟩ := hSx; go_simp; (try with_reducible rfl))
      (try simp only [Act.put, List.setIfInBounds_toArray, List.set_cons_zero, List.set_cons_succ])
      refine wpAnyZ_take 13 (v := ?va13) rfl (by kernel_rfl) (by kernel_rfl) (by kernel_rfl) (by kernel_rfl) (fun _ _ _ h => h) (by rfl) ?hya13 hS ?resta13
      case hya13 => (intro wx hSx; obtain ⟨hs1, hs2⟩ := hSx; go_simp; (try with_reducible rfl))
      (try simp only [Act.put, List.setIfInBounds_toArray, List.set_cons_zero, List.set_cons_succ])
      refine wpAnyZ_one 6 rfl (by kernel_rfl) (fun K hK => ?_)
      go_simp
      have hc := qEt bb g lr _ T0.rd
      unfold src at hc
      refine hc.mono ?_
      clear hc
      rintro e x1 (⟨v1, la1, e1, rfl, hr1, k1⟩ | ⟨hz, ⟨xz, rfl⟩, kz⟩)
      rotate_left
      · exact ⟨rfl, .inr ⟨pt7_no1 H1.out (HH.out.mny.fail HK.out (pRow_no1 hz)), ⟨_, rfl⟩, kept_gR T0.kept kz⟩⟩
      have T1 := T0.took hr1 k1
      have hS1 : x1.cell? ⟨R, 9, none⟩ = some (.slice pr k cr) ∧ x1.cell? ⟨w.heap.size, 0, none⟩ = some (.pointer (some ⟨g, 0, none⟩)) := ⟨T1.blk.cell (j := 9) rfl, T1.bx⟩
      dsimp only
      refine hK _ _ (fun _ => hS1) ?_
      clear hK K
      (try simp only [Act.put, List.setIfInBounds_toArray, List.set_cons_zero, List.set_cons_succ])
      refine wpAnyZ_one 8 rfl (by kernel_rfl) (fun K hK => ?_)
      go_simp
      have hc := qNum1 bb g la1 _ T1.rd
      unfold src at hc
      refine hc.mono ?_
      clear hc
      rintro e x2 (⟨v2, la2, e2, rfl, hr2, k2⟩ | ⟨hz, ⟨xz, rfl⟩, kz⟩)
      rotate_left
      · exact ⟨rfl, .inr ⟨pt7_no1 H1.out (HH.out.mny.fail HK.out (pRow_no2 e1 hz)), ⟨_, rfl⟩, kept_gR T1.kept kz⟩⟩
      have T2 := T1.took hr2 k2
      have hS2 : x2.cell? ⟨R, 9, none⟩ = some (.slice pr k cr) ∧ x2.cell? ⟨w.heap.size, 0, none⟩ = some (.pointer (some ⟨g, 0, none⟩)) := ⟨T2.blk.cell (j := 9) rfl, T2.bx⟩
      dsimp only
      refine hK _ _ (fun _ => hS2) ?_
      clear hK K
      (try simp only [Act.put, List.setIfInBounds_toArray, List.set_cons_zero, List.set_cons_succ])
      refine wpAnyZ_one 10 rfl (by kernel_rfl) (fun K hK => ?_)
      go_simp
      have hc := qNum1 bb g la2 _ T2.rd
      unfold src at hc
      refine hc.mono ?_
      clear hc
      rintro e x3 (⟨v3, la3, e3, rfl, hr3, k3⟩ | ⟨hz, ⟨xz, rfl⟩, kz⟩)
      rotate_left
      · exact ⟨rfl, .inr ⟨pt7_no1 H1.out (HH.out.mny.fail HK.out (pRow_no3 e1 e2 hz)), ⟨_, rfl⟩, kept_gR T2.kept kz⟩⟩
      have T3 := T2.took hr3 k3
      have hS3 : x3.cell? ⟨R, 9, none⟩ = some (.slice pr k cr) ∧ x3.cell? ⟨w.heap.size, 0, none⟩ = some (.pointer (some ⟨g, 0, none⟩)) := ⟨T3.blk.cell (j := 9) rfl, T3.bx⟩
      dsimp only
      refine hK _ _ (fun _ => hS3) ?_
      clear hK K
      (try simp only [Act.put, List.setIfInBounds_toArray, List.set_cons_zero, List.set_cons_succ])
      refine wpAnyZ_one 12 rfl (by kernel_rfl) (fun K hK => ?_)
      go_simp
      have hc := qEt bb g la3 _ T3.rd
      unfold src at hc
      refine hc.mono ?_
      clear hc
      rintro e x4 (⟨v4, la4, e4, rfl, hr4, k4⟩ | ⟨hz, ⟨xz, rfl⟩, kz⟩)
      rotate_left
      · exact ⟨rfl, .inr ⟨pt7_no1 H1.out (HH.out.mny.fail HK.out (pRow_no4 e1 e2 e3 hz)), ⟨_, rfl⟩, kept_gR T3.kept kz⟩⟩
      have T4 := T3.took hr4 k4
      have hS4 : x4.cell? ⟨R, 9, none⟩ = some (.slice pr k cr) ∧ x4.cell? ⟨w.heap.size, 0, none⟩ = some (.pointer (some ⟨g, 0, none⟩)) := ⟨T4.blk.cell (j := 9) rfl, T4.bx⟩
      dsimp only
      refine hK _ _ (fun _ => hS4) ?_
      clear hK K
      (try simp only [Act.put, List.setIfInBounds_toArray, List.set_cons_zero, List.set_cons_succ])
      refine wpAnyZ_one 14 rfl (by kernel_rfl) (fun K hK => ?_)
      go_simp
      have hc := qEt bb g la4 _ T4.rd
      unfold src at hc
      refine hc.mono ?_
      clear hc
      rintro e x5 (⟨v5, la5, e5, rfl, hr5, k5⟩ | ⟨hz, ⟨xz, rfl⟩, kz⟩)
      rotate_left
      · exact ⟨rfl, .inr ⟨pt7_no1 H1.out (HH.out.mny.fail HK.out (pRow_no5 e1 e2 e3 e4 hz)), ⟨_, rfl⟩, kept_gR T4.kept kz⟩⟩
      have T5 := T4.took hr5 k5
      have hS5 : x5.cell? ⟨R, 9, none⟩ = some (.slice pr k cr) ∧ x5.cell? ⟨w.heap.size, 0, none⟩ = some (.pointer (some ⟨g, 0, none⟩)) := ⟨T5.blk.cell (j := 9) rfl, T5.bx⟩
      dsimp only
      refine hK _ _ (fun _ => hS5) ?_
      clear hK K
      (try simp only [Act.put, List.setIfInBounds_toArray, List.set_cons_zero, List.set_cons_succ])
      have lg : ∀ x ∈ [g], x < w1.heap.size := fun x hx => by simp at hx; rw [hx]; exact LO.out.2.1
      refine wpAnyZ_one 15 rfl (by kernel_rfl) (fun K hK => ?_)
      go_simp
      refine hK _ _ (fun _ => hS5) ?_
      clear hK K
      (try simp only [Act.put, List.setIfInBounds_toArray, List.set_cons_zero, List.set_cons_succ])
      refine wpAnyZ_one 16 rfl (by kernel_rfl) (fun K hK => ?_)
      go_simp
      have TA := T5.then ((Kept.refl [] x5).alloc (.cells #[.int .i64 (v1 : Int), .int .i64 (v2 : Int), .int .i64 (v3 : Int), .int .i64 (v4 : Int), .int .i64 (v5 : Int)] 66))
      refine hK _ _ (fun _ => ⟨TA.blk.cell (j := 9) rfl, TA.bx⟩) ?_
      clear hK K
      (try simp only [Act.put, List.setIfInBounds_toArray, List.set_cons_zero, List.set_cons_succ])
      have hsrc := src_row (P := Try.prog) x5 23 66 Try.underlying23 (⟨(v1 : Int), (v2 : Int), (v3 : Int), (v4 : Int), (v5 : Int)⟩ : RowR)
      dsimp only at hsrc
      have RW := ((((((HH.out.row.kept (Kept.refl [] wr).drew (by simp)).past k1 lg).past k2 lg).past k3 lg).past k4 lg).past k5 lg)
      have HSZ := @hideH _ (show w1.heap.size ≤ x5.heap.size by have e0 := HH.out.hb; have q1 : wr.heap.size ≤ x1.heap.size := k1.size; have q2 := k2.size; have q3 := k3.size; have q4 := k4.size; have q5 := k5.size; omega)
      refine wpAnyZ_one 17 rfl (by kernel_rfl) (fun K hK => ?_)
      refine step_append_row rfl (.tmp 12) (.tmp 24) 23 rfl w1.heap.size 66 inf (.agg #[.int .i64 0, .int .i64 0, .int .i64 0, .int .i64 0, .int .i64 0]) 5 40 Try.underlying23 HI.out.1 HI.out.2.1 HI.out.2.2.1 HI.out.2.2.2 rfl _ k (rcells rs) (by rfl) (RW.kept ((Kept.refl [] x5).alloc _) (by simp)) _ 1 (rcells [(⟨(v1 : Int), (v2 : Int), (v3 : Int), (v4 : Int), (v5 : Int)⟩ : RowR)]) (by rfl) hsrc (by have := (show k + 1 ≤ 256 by have q1 := HN.out; have q2 := HK.out; omega); omega) (by have := (show k + 1 ≤ 256 by have q1 := HN.out; have q2 := HK.out; omega); unfold maxLen; omega) (by have := (show k + 1 ≤ 256 by have q1 := HN.out; have q2 := HK.out; omega); omega) (by have := HSZ.out; rw [World.size_alloc]; omega) ?_
      intro v' w' r' k' _
      obtain ⟨p', c', rfl, TW, CN⟩ := Ch1.next LO.out T5 RW HH.out.len HSZ.out (HH.out.mny.step HK.out (pRow_yes e1 e2 e3 e4 e5)) r' k'
      have CNH := @hideH _ CN
      clear CN
      have hSW : w'.cell? ⟨R, 9, none⟩ = some _ ∧ w'.cell? ⟨w.heap.size, 0, none⟩ = some (.pointer (some ⟨g, 0, none⟩)) := ⟨TW.blk.cell (j := 9) rfl, TW.bx⟩
      refine hK _ _ (fun _ => hSW) ?_
      clear hK K
      (try simp only [Act.put, List.setIfInBounds_toArray, List.set_cons_zero, List.set_cons_succ])
      have cw := TW.blk.cell (j := 9) rfl
      have fw := TW.blk.free 9
      clear hS r' k' RW hsrc TA TW HSZ T0 T1 T2 T3 T4 T5 k1 e1 hr1 hS1 k2 e2 hr2 hS2 k3 e3 hr3 hS3 k4 e4 hr4 hS4 k5 e5 hr5 hS5
      refine wpAnyZ_one 18 rfl (by kernel_rfl) (fun K hK => ?_)
      go_simp
      refine hK _ _ (fun _ => hSW) ?_
      clear hK K
      (try simp only [Act.put, List.setIfInBounds_toArray, List.set_cons_zero, List.set_cons_succ])
      refine wpAnyZ_one 19 rfl (by kernel_rfl) (fun K hK => ?_)
      go_simp
      refine hK _ _ (fun _ => hSW) ?_
      clear hK K
      (try simp only [Act.put, List.setIfInBounds_toArray, List.set_cons_zero, List.set_cons_succ])
      refine wpAnyZ_one 20 rfl (by kernel_rfl) (fun K hK => ?_)
      go_simp
      refine hK _ _ (fun h => absurd rfl h) ?_
      clear hK K
      (try simp only [Act.put, List.setIfInBounds_toArray, List.set_cons_zero, List.set_cons_succ])
      refine wpAnyZ_done (by kernel_rfl) ?_ _
      clear hSW cw fw
      clear HH lg
      go_wp2
      go_roundw
      case rel => exact ⟨k + 1, rs ++ [⟨(v1 : Int), (v2 : Int), (v3 : Int), (v4 : Int), (v5 : Int)⟩], la5, p', c', by omega, by go_num, CNH⟩
      case measure => simp [intOf]; omega
    · have hkl' : ¬ (k : Int) < (n : Int) := by omega
      obtain rfl : k = n := by omega
      have M1 := @hideH _ hh.out.mny.done
      have b3 := hh.out.ts.bx
      have HH := hh
      clear hh
      go_wp2_with fail
      have hc := qNum1 bb g lr wr HH.out.ts.rd
      unfold src at hc
      refine hc.mono ?_
      clear hc
      rintro e w3 (⟨m, l3, h3, rfl, hr3, k3⟩ | ⟨hz, ⟨xz, rfl⟩, kz⟩)
      rotate_left
      · exact ⟨rfl, .inr ⟨pt7_no2 H1.out M1.out hz, ⟨_, rfl⟩, kept_gR HH.out.ts.kept kz⟩⟩
      have lg : ∀ x ∈ [g], x < w1.heap.size := fun x hx => by simp at hx; rw [hx]; exact LO.out.2.1
      have LB := @hideH _ (Nat.le_trans HH.out.hb k3.size)
      have C0 := @hideH _ (show Ch2 bb w w3 g R w.heap.size b p w1.heap.size w3.heap.size k rs pr cr m l3 0 [] l3 none 0 from ⟨rfl, Mny.start _ _ _, HH.out.ts.took hr3 k3, HH.out.row.past k3 lg, Row.nil _ _ _, Nat.le_refl _, fun x hx => Nat.lt_of_lt_of_le (HH.out.row.lt x hx).2 k3.size⟩)
      have HM := @hideH _ (show m < 256 by have := (num_some h3).2.2; simpa using this)
      have H3 := @hideH _ h3
      have HLR := @hideH _ HH.out.len
      clear b3 hr3 k3 h3 HH lg
      go_wp2
      go_loopw [31] (fun vi wr => ∃ (q : Nat) (ds : List RecR) (lr : List UInt8) (pd : Option Addr) (cd : Nat), q ≤ m ∧ vi = .int .i64 q ∧ Hid (Ch2 bb w wr g R w.heap.size b p w1.heap.size w3.heap.size k rs pr cr m l3 q ds lr pd cd)) (fun vi _ => m - (intOf vi).toNat)
      case atStart => exact ⟨0, [], l3, none, 0, Nat.zero_le _, rfl, C0⟩
      case round =>
        clear C0
        obtain ⟨q, ds, lr, pd, cd, hq, rfl, hh⟩ := hrel
        by_cases hql : q < m
        · have hql' : (q : Int) < (m : Int) := by omega
          have wk : IntKind.i64.wrap ((q : Int) + 1) = (q : Int) + 1 := wrap_i64_of (by omega) (by have := HM.out; omega)
          have HK := @hideH _ hql
          have HH := hh
          clear hh
          skip
          go_upto_region 7 with fail
          refine wp_region_late (fun w' => w'.cell? ⟨R, 10, none⟩ = some (.slice pd q cd) ∧ w'.cell? ⟨w.heap.size, 0, none⟩ = some (.pointer (some ⟨g, 0, none⟩))) 14 (by kernel_rfl) ?_
          have T0 := HH.out.ts.then (Kept.refl [] _).drew
          have hS : (fun w' : World => w'.cell? ⟨R, 10, none⟩ = some (.slice pd q cd) ∧ w'.cell? ⟨w.heap.size, 0, none⟩ = some (.pointer (some ⟨g, 0, none⟩))) _ := ⟨T0.blk.cell (j := 10) rfl, T0.bx⟩
          dsimp only at hS
          refine wpAnyZ_take 0 (v := ?vb0) rfl (by kernel_rfl) (by kernel_rfl) (by kernel_rfl) (by kernel_rfl) (fun _ _ _ h => h) (by rfl) ?hyb0 hS ?restb0
          case hyb0 => (intro wx hSx; obtain ⟨hs1, hs2⟩ := hSx; go_simp; (try with_reducible rfl))
          (try simp only [Act.put, List.setIfInBounds_toArray, List.set_cons_zero, List.set_cons_succ])
          refine wpAnyZ_take 1 (v := ?vb1) rfl (by kernel_rfl) (by kernel_rfl) (by kernel_rfl) (by kernel_rfl) (fun _ _ _ h => h) (by rfl) ?hyb1 hS ?restb1
          case hyb1 => (intro wx hSx; obtain ⟨hs1, hs2⟩ := hSx; go_simp; (try with_reducible rfl))
          (try simp only [Act.put, List.setIfInBounds_toArray, List.set_cons_zero, List.set_cons_succ])
          refine wpAnyZ_take 2 (v := ?vb2) rfl (by kernel_rfl) (by kernel_rfl) (by kernel_rfl) (by kernel_rfl) (fun _ _ _ h => h) (by rfl) ?hyb2 hS ?restb2
          case hyb2 => (intro wx hSx; obtain ⟨hs1, hs2⟩ := hSx; go_simp; (try with_reducible rfl))
          (try simp only [Act.put, List.setIfInBounds_toArray, List.set_cons_zero, List.set_cons_succ])
          refine wpAnyZ_take 3 (v := ?vb3) rfl (by kernel_rfl) (by kernel_rfl) (by kernel_rfl) (by kernel_rfl) (fun _ _ _ h => h) (by rfl) ?hyb3 hS ?restb3
          case hyb3 => (intro wx hSx; obtain ⟨hs1, hs2⟩ := hSx; go_simp; (try with_reducible rfl))
          (try simp only [Act.put, List.setIfInBounds_toArray, List.set_cons_zero, List.set_cons_succ])
          refine wpAnyZ_take 4 (v := ?vb4) rfl (by kernel_rfl) (by kernel_rfl) (by kernel_rfl) (by kernel_rfl) (fun _ _ _ h => h) (by rfl) ?hyb4 hS ?restb4
          case hyb4 => (intro wx hSx; obtain ⟨hs1, hs2⟩ := hSx; go_simp; (try with_reducible rfl))
          (try simp only [Act.put, List.setIfInBounds_toArray, List.set_cons_zero, List.set_cons_succ])
          refine wpAnyZ_take 5 (v := ?vb5) rfl (by kernel_rfl) (by kernel_rfl) (by kernel_rfl) (by kernel_rfl) (fun _ _ _ h => h) (by rfl) ?hyb5 hS ?restb5
          case hyb5 => (intro wx hSx; obtain ⟨hs1, hs2⟩ := hSx; go_simp; (try with_reducible rfl))
          (try simp only [Act.put, List.setIfInBounds_toArray, List.set_cons_zero, List.set_cons_succ])
          refine wpAnyZ_take 7 (v := ?vb7) rfl (by kernel_rfl) (by kernel_rfl) (by kernel_rfl) (by kernel_rfl) (fun _ _ _ h => h) (by rfl) ?hyb7 hS ?restb7
          case hyb7 => (intro wx hSx; obtain ⟨hs1, hs2⟩ := hSx; go_simp; (try with_reducible rfl))
          (try simp only [Act.put, List.setIfInBounds_toArray, List.set_cons_zero, List.set_cons_succ])
          refine wpAnyZ_one 6 rfl (by kernel_rfl) (fun K hK => ?_)
          go_simp
          have hc := qNum1 bb g lr _ T0.rd
          unfold src at hc
          refine hc.mono ?_
          clear hc
          rintro e x1 (⟨v1, lb1, e1, rfl, hr1, k1⟩ | ⟨hz, ⟨xz, rfl⟩, kz⟩)
          rotate_left
          · exact ⟨rfl, .inr ⟨pt7_no3 H1.out M1.out H3.out (HH.out.mny.fail HK.out (pRec_no1 hz)), ⟨_, rfl⟩, kept_gR T0.kept kz⟩⟩
          have T1 := T0.took hr1 k1
          have hS1 : x1.cell? ⟨R, 10, none⟩ = some (.slice pd q cd) ∧ x1.cell? ⟨w.heap.size, 0, none⟩ = some (.pointer (some ⟨g, 0, none⟩)) := ⟨T1.blk.cell (j := 10) rfl, T1.bx⟩
          dsimp only
          refine hK _ _ (fun _ => hS1) ?_
          clear hK K
          (try simp only [Act.put, List.setIfInBounds_toArray, List.set_cons_zero, List.set_cons_succ])
          refine wpAnyZ_one 8 rfl (by kernel_rfl) (fun K hK => ?_)
          go_simp
          have hc := qEt bb g lb1 _ T1.rd
          unfold src at hc
          refine hc.mono ?_
          clear hc
          rintro e x2 (⟨v2, lb2, e2, rfl, hr2, k2⟩ | ⟨hz, ⟨xz, rfl⟩, kz⟩)
          rotate_left
          · exact ⟨rfl, .inr ⟨pt7_no3 H1.out M1.out H3.out (HH.out.mny.fail HK.out (pRec_no2 e1 hz)), ⟨_, rfl⟩, kept_gR T1.kept kz⟩⟩
          have T2 := T1.took hr2 k2
          have hS2 : x2.cell? ⟨R, 10, none⟩ = some (.slice pd q cd) ∧ x2.cell? ⟨w.heap.size, 0, none⟩ = some (.pointer (some ⟨g, 0, none⟩)) := ⟨T2.blk.cell (j := 10) rfl, T2.bx⟩
          dsimp only
          refine hK _ _ (fun _ => hS2) ?_
          clear hK K
          (try simp only [Act.put, List.setIfInBounds_toArray, List.set_cons_zero, List.set_cons_succ])
          have lg : ∀ x ∈ [g], x < w1.heap.size := fun x hx => by simp at hx; rw [hx]; exact LO.out.2.1
          have lg2 : ∀ x ∈ [g], x < w3.heap.size := fun x hx => Nat.lt_of_lt_of_le (lg x hx) LB.out
          refine wpAnyZ_one 9 rfl (by kernel_rfl) (fun K hK => ?_)
          go_simp
          refine hK _ _ (fun _ => hS2) ?_
          clear hK K
          (try simp only [Act.put, List.setIfInBounds_toArray, List.set_cons_zero, List.set_cons_succ])
          refine wpAnyZ_one 10 rfl (by kernel_rfl) (fun K hK => ?_)
          go_simp
          have TA := T2.then ((Kept.refl [] x2).alloc (.cells #[.int .i64 (v1 : Int), .int .i64 (v2 : Int)] 68))
          refine hK _ _ (fun _ => ⟨TA.blk.cell (j := 10) rfl, TA.bx⟩) ?_
          clear hK K
          (try simp only [Act.put, List.setIfInBounds_toArray, List.set_cons_zero, List.set_cons_succ])
          have hsrc := src_rec (P := Try.prog) x2 24 68 Try.underlying24 (⟨(v1 : Int), (v2 : Int)⟩ : RecR)
          dsimp only at hsrc
          have RW := (((HH.out.row.kept (Kept.refl [] wr).drew (by simp)).past k1 lg2).past k2 lg2)
          have RQ := (((HH.out.rows.kept (Kept.refl [] wr).drew (by simp)).past k1 lg).past k2 lg)
          have HSZ := @hideH _ (show w3.heap.size ≤ x2.heap.size by have e0 := HH.out.hb; have q1 : wr.heap.size ≤ x1.heap.size := k1.size; have q2 := k2.size; omega)
          refine wpAnyZ_one 11 rfl (by kernel_rfl) (fun K hK => ?_)
          refine step_append_row rfl (.tmp 37) (.tmp 43) 24 rfl w3.heap.size 68 inf2 (.agg #[.int .i64 0, .int .i64 0]) 2 16 Try.underlying24 HI2.out.1 HI2.out.2.1 HI2.out.2.2.1 HI2.out.2.2.2 rfl _ q (dcells ds) (by rfl) (RW.kept ((Kept.refl [] x2).alloc _) (by simp)) _ 1 (dcells [(⟨(v1 : Int), (v2 : Int)⟩ : RecR)]) (by rfl) hsrc (by have := (show q + 1 ≤ 256 by have q1 := HM.out; have q2 := HK.out; omega); omega) (by have := (show q + 1 ≤ 256 by have q1 := HM.out; have q2 := HK.out; omega); unfold maxLen; omega) (by have := (show q + 1 ≤ 256 by have q1 := HM.out; have q2 := HK.out; omega); omega) (by have := HSZ.out; rw [World.size_alloc]; omega) ?_
          intro v' w' r' k' _
          obtain ⟨p', c', rfl, TW, CN⟩ := Ch2.next LO.out LB.out T2 RQ RW HH.out.len HSZ.out HH.out.far (HH.out.mny.step HK.out (pRec_yes e1 e2)) r' k'
          have CNH := @hideH _ CN
          clear CN
          have hSW : w'.cell? ⟨R, 10, none⟩ = some _ ∧ w'.cell? ⟨w.heap.size, 0, none⟩ = some (.pointer (some ⟨g, 0, none⟩)) := ⟨TW.blk.cell (j := 10) rfl, TW.bx⟩
          refine hK _ _ (fun _ => hSW) ?_
          clear hK K
          (try simp only [Act.put, List.setIfInBounds_toArray, List.set_cons_zero, List.set_cons_succ])
          have cw := TW.blk.cell (j := 10) rfl
          have fw := TW.blk.free 10
          clear hS r' k' RW hsrc TA TW HSZ T0 T1 T2 k1 e1 hr1 hS1 k2 e2 hr2 hS2
          refine wpAnyZ_one 12 rfl (by kernel_rfl) (fun K hK => ?_)
          go_simp
          refine hK _ _ (fun _ => hSW) ?_
          clear hK K
          (try simp only [Act.put, List.setIfInBounds_toArray, List.set_cons_zero, List.set_cons_succ])
          refine wpAnyZ_one 13 rfl (by kernel_rfl) (fun K hK => ?_)
          go_simp
          refine hK _ _ (fun _ => hSW) ?_
          clear hK K
          (try simp only [Act.put, List.setIfInBounds_toArray, List.set_cons_zero, List.set_cons_succ])
          refine wpAnyZ_one 14 rfl (by kernel_rfl) (fun K hK => ?_)
          go_simp
          refine hK _ _ (fun h => absurd rfl h) ?_
          clear hK K
          (try simp only [Act.put, List.setIfInBounds_toArray, List.set_cons_zero, List.set_cons_succ])
          refine wpAnyZ_done (by kernel_rfl) ?_ _
          clear hSW cw fw
          clear HH lg lg2 RQ
          go_wp2
          go_roundw
          case rel => exact ⟨q + 1, ds ++ [⟨(v1 : Int), (v2 : Int)⟩], lb2, p', c', by omega, by go_num, CNH⟩
          case measure => simp [intOf]; omega
        · have hql' : ¬ (q : Int) < (m : Int) := by omega
          obtain rfl : q = m := by omega
          have FIN := @hideH _ (show Out bb w wr g R (pTail 7 b p l) (.returned (.tuple #[])) from .inl ⟨⟨7, b, p, 0, 0, 0, [], [], 0, rs, ds⟩, lr, ⟨.slice none 0 0, .slice none 0 0, .slice pr k cr, .slice pd q cd⟩, w.heap.size, pt7_yes H1.out M1.out H3.out hh.out.mny.done, rfl, hh.out.ts, ⟨own_nil _ _, own_nil _ _, (by rw [HLR.out]; exact hh.out.rows.mono LO.out.2.2.2.2), (by rw [hh.out.len]; exact hh.out.row.mono (Nat.le_trans LO.out.2.2.2.2 LB.out)), .nil_l _, .nil_l _, .nil_l _, .nil_l _, .nil_l _, fun x hx e => by have e1 := hh.out.far x hx; have e2 := (hh.out.row.lt x e).1; omega⟩⟩)
          clear hh
          go_wp2
          go_end0
          exact FIN.out
end Go.Proofs.Ytebcmcmboomgfaa

