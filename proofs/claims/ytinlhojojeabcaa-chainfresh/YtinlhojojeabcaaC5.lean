import Derived.Test.YtinlhojojeabcaaC4
/-
  OWN WORK (by mkch9.py). Layer 12: the law's written.
-/
namespace Go.Proofs.Ytinlhojojeabcaa
open Go.RowKit
set_option linter.unusedVariables false
set_option linter.unusedSimpArgs false

set_option maxRecDepth 20000 in
set_option maxHeartbeats 12800000 in
theorem written_any (v : Value) (pl : List ActL) (w : World) (h : Acts w v pl) : Calls Try.prog 14 #[v] w fun e w' => WrOut pl w w' e := by
  obtain ⟨inf, hin1, hin2, hin3, hin4⟩ := info_parts3 (show (Try.prog.info? 3).map (fun i => (i.zero, i.size, i.bytes)) = some (some (.int .i64 0), 1, 8) by kernel_rfl)
  have HI := @hideH _ (And.intro hin1 (And.intro hin2 (And.intro hin3 hin4)))
  clear hin1 hin2 hin3 hin4
  obtain ⟨infL, jL1, jL2, jL3, jL4⟩ := info_parts3 (show (Try.prog.info? 44).map (fun i => (i.zero, i.size, i.bytes)) = some (some (.agg #[.int .i64 0, .int .i64 0, .int .i64 0, .int .i64 0, .int .i64 0, .int .i64 0, .int .i64 0, .slice none 0 0, .slice none 0 0, .int .i64 0, .slice none 0 0, .slice none 0 0]), 12, 160) by kernel_rfl)
  have HJL := @hideH _ (And.intro jL1 (And.intro jL2 (And.intro jL3 jL4)))
  clear jL1 jL2 jL3 jL4
  obtain ⟨infW, jW1, jW2, jW3, jW4⟩ := info_parts3 (show (Try.prog.info? 24).map (fun i => (i.zero, i.size, i.bytes)) = some (some (.slice none 0 0), 1, 24) by kernel_rfl)
  have HJW := @hideH _ (And.intro jW1 (And.intro jW2 (And.intro jW3 jW4)))
  clear jW1 jW2 jW3 jW4
  obtain ⟨pv, cv, hv, hml⟩ := h.shape
  subst hv
  obtain ⟨nv, hnv⟩ : ∃ n, n = pl.length := ⟨_, rfl⟩
  rw [← hnv] at h ⊢
  have HS := @hideH _ h
  have HN := @hideH _ (And.intro hnv hml)
  clear h hnv hml
  obtain ⟨w1, hw1⟩ : ∃ wx, wx = w.alloc (.cells #[.slice none 0 0, .slice none 0 0, .bool false, .slice none 0 0, .slice none 0 0, .bool false, .slice none 0 0, .slice none 0 0, .bool false, .slice none 0 0, .slice none 0 0, .bool false] 35) := ⟨_, rfl⟩
  obtain ⟨w2, hw2⟩ : ∃ wx, wx = w1.alloc (.cells #[.slice none 0 0, .slice none 0 0, .bool false, .slice none 0 0, .slice none 0 0, .bool false, .slice none 0 0, .slice none 0 0, .bool false, .slice none 0 0, .slice none 0 0, .bool false] 35) := ⟨_, rfl⟩
  have z1 : w1.heap.size = w.heap.size + 1 := by rw [hw1, World.size_alloc]
  have k1 : Kept [] w w1 := by rw [hw1]; exact (Kept.refl [] w).alloc _
  have k2 : Kept [] w1 w2 := by rw [hw2]; exact (Kept.refl [] w1).alloc _
  have B1 : Blk w1 w.heap.size 35 [.slice none 0 0, .slice none 0 0, .bool false, .slice none 0 0, .slice none 0 0, .bool false, .slice none 0 0, .slice none 0 0, .bool false, .slice none 0 0, .slice none 0 0, .bool false] := by rw [hw1]; exact Blk.new w _ _
  have B2 : Blk w2 w1.heap.size 35 [.slice none 0 0, .slice none 0 0, .bool false, .slice none 0 0, .slice none 0 0, .bool false, .slice none 0 0, .slice none 0 0, .bool false, .slice none 0 0, .slice none 0 0, .bool false] := by rw [hw2]; exact Blk.new w1 _ _
  rw [z1] at B2
  have HB := @hideH _ (And.intro (show Wm (w.heap.size + 1) w2 (.slice none 0 0) (.slice none 0 0) (w.heap.size + 1) _ _ (wrote pl 0).lines (wrote pl 0).ways (wrote pl 0).runs from Wm.start B2 (Nat.le_refl _)) (And.intro (B1.kept k2 (by simp)) (k1.then k2)))
  clear B1 B2 k1 k2
  go_enter Try.func14, Try.ntmps14
  go_upto_region 4 with fail
  rw [← hw1, ← hw2]
  clear hw1 hw2 z1
  go_wp2
  go_loopw [5, 6, 8, 9] (fun vl vw vn vi wr => ∃ (i : Nat) (L : Int) (p5 : Option Addr) (c5 : Nat) (p6 : Option Addr) (c6 : Nat), vl = .slice p5 i c5 ∧ vw = .slice p6 i c6 ∧ vn = .int .i64 L ∧ vi = .int .i64 i ∧ i ≤ nv ∧ Hid (i ≤ 300 ∧ L = (wrote pl i).lsn ∧ (∃ rs wv, Wm (w.heap.size + 1) wr (.slice p5 i c5) (.slice p6 i c6) (w.heap.size + 1) rs wv (wrote pl i).lines (wrote pl i).ways (wrote pl i).runs) ∧ Blk wr w.heap.size 35 [.slice none 0 0, .slice none 0 0, .bool false, .slice none 0 0, .slice none 0 0, .bool false, .slice none 0 0, .slice none 0 0, .bool false, .slice none 0 0, .slice none 0 0, .bool false] ∧ Kept [] w wr)) (fun _ _ _ vi _ => nv - (intOf vi).toNat)
  case atStart => exact ⟨0, 0, _, _, _, _, rfl, rfl, rfl, rfl, Nat.zero_le _, by omega, rfl, ⟨_, _, HB.out.1⟩, HB.out.2.1, HB.out.2.2⟩
  case round =>
    clear HB
    obtain ⟨i, L, p5, c5, p6, c6, rfl, rfl, rfl, rfl, hi, hh⟩ := hrel
    obtain ⟨h300, eL, ⟨rs, wv, hW⟩, hB, hK⟩ := hh.out
    clear hh
    have HOK := @hideH _ (wrote_ok pl i (by have := HN.out.1; omega) h300)
    by_cases hin : i < nv ∧ i < 300
    case neg =>
      obtain ⟨r0, r1, r2, r3, hrs⟩ := list4_of hW.rlen
      subst hrs
      have hbx : Blk wr (w.heap.size + 1) 35 [.slice r0.a.p r0.a.n r0.a.c, .slice r0.l.p r0.l.n r0.l.c, .bool r0.b, .slice r1.a.p r1.a.n r1.a.c, .slice r1.l.p r1.l.n r1.l.c, .bool r1.b, .slice r2.a.p r2.a.n r2.a.c, .slice r2.l.p r2.l.n r2.l.c, .bool r2.b, .slice r3.a.p r3.a.n r3.a.c, .slice r3.l.p r3.l.n r3.l.c, .bool r3.b] := hW.box
      have x0 := hbx.cell (j := 0) rfl
      have x1 := hbx.cell (j := 1) rfl
      have x2 := hbx.cell (j := 2) rfl
      have x3 := hbx.cell (j := 3) rfl
      have x4 := hbx.cell (j := 4) rfl
      have x5 := hbx.cell (j := 5) rfl
      have x6 := hbx.cell (j := 6) rfl
      have x7 := hbx.cell (j := 7) rfl
      have x8 := hbx.cell (j := 8) rfl
      have x9 := hbx.cell (j := 9) rfl
      have x10 := hbx.cell (j := 10) rfl
      have x11 := hbx.cell (j := 11) rfl
      have y0 := hB.cell (j := 0) rfl
      have y1 := hB.cell (j := 1) rfl
      have y2 := hB.cell (j := 2) rfl
      have y3 := hB.cell (j := 3) rfl
      have y4 := hB.cell (j := 4) rfl
      have y5 := hB.cell (j := 5) rfl
      have y6 := hB.cell (j := 6) rfl
      have y7 := hB.cell (j := 7) rfl
      have y8 := hB.cell (j := 8) rfl
      have y9 := hB.cell (j := 9) rfl
      have y10 := hB.cell (j := 10) rfl
      have y11 := hB.cell (j := 11) rfl
      have f0 := hB.free 0
      have f1 := hB.free 1
      have f2 := hB.free 2
      have f3 := hB.free 3
      have f4 := hB.free 4
      have f5 := hB.free 5
      have f6 := hB.free 6
      have f7 := hB.free 7
      have f8 := hB.free 8
      have f9 := hB.free 9
      have f10 := hB.free 10
      have f11 := hB.free 11
      obtain ⟨BF, kF⟩ := hB.fill12 (.slice r0.a.p r0.a.n r0.a.c) (.slice r0.l.p r0.l.n r0.l.c) (.bool r0.b) (.slice r1.a.p r1.a.n r1.a.c) (.slice r1.l.p r1.l.n r1.l.c) (.bool r1.b) (.slice r2.a.p r2.a.n r2.a.c) (.slice r2.l.p r2.l.n r2.l.c) (.bool r2.b) (.slice r3.a.p r3.a.n r3.a.c) (.slice r3.l.p r3.l.n r3.l.c) (.bool r3.b)
      obtain ⟨wF, hwF⟩ : ∃ wF, wF = ((((((((((((wr.setCell ⟨w.heap.size, 0, none⟩ (.slice r0.a.p r0.a.n r0.a.c)).setCell ⟨w.heap.size, 1, none⟩ (.slice r0.l.p r0.l.n r0.l.c)).setCell ⟨w.heap.size, 2, none⟩ (.bool r0.b)).setCell ⟨w.heap.size, 3, none⟩ (.slice r1.a.p r1.a.n r1.a.c)).setCell ⟨w.heap.size, 4, none⟩ (.slice r1.l.p r1.l.n r1.l.c)).setCell ⟨w.heap.size, 5, none⟩ (.bool r1.b)).setCell ⟨w.heap.size, 6, none⟩ (.slice r2.a.p r2.a.n r2.a.c)).setCell ⟨w.heap.size, 7, none⟩ (.slice r2.l.p r2.l.n r2.l.c)).setCell ⟨w.heap.size, 8, none⟩ (.bool r2.b)).setCell ⟨w.heap.size, 9, none⟩ (.slice r3.a.p r3.a.n r3.a.c)).setCell ⟨w.heap.size, 10, none⟩ (.slice r3.l.p r3.l.n r3.l.c)).setCell ⟨w.heap.size, 11, none⟩ (.bool r3.b)) := ⟨_, rfl⟩
      rw [← hwF] at BF kF
      have HE := @hideH _ (And.intro ((hW.keptLow kF (fun y hy => by simp at hy; omega)).kept (Kept.refl [] wF).drew) (And.intro h300 (And.intro (hK.trans kF (fun y hy => .inr (by simp at hy; omega))).drew (show i ≤ pl.length by have := HN.out.1; omega))))
      have BD := BF.kept (Kept.refl [] wF).drew (by simp)
      have q0 := BD.cell (j := 0) rfl
      have q1 := BD.cell (j := 1) rfl
      have q2 := BD.cell (j := 2) rfl
      have q3 := BD.cell (j := 3) rfl
      have q4 := BD.cell (j := 4) rfl
      have q5 := BD.cell (j := 5) rfl
      have q6 := BD.cell (j := 6) rfl
      have q7 := BD.cell (j := 7) rfl
      have q8 := BD.cell (j := 8) rfl
      have q9 := BD.cell (j := 9) rfl
      have q10 := BD.cell (j := 10) rfl
      have q11 := BD.cell (j := 11) rfl
      clear BF kF BD hbx eL HOK
      by_cases hnv : i < nv
      · have h3 : ¬ i < 300 := fun c => hin ⟨hnv, c⟩
        have hnv' : (i : Int) < (nv : Int) := by omega
        have h3' : decide ((i : Int) < 300) = false := decide_eq_false (by omega)
        clear hin h3 hnv hi h300
        go_upto_region 39 with fail
        refine wp_region_late (fun w' => w'.cell? ⟨w.heap.size + 1, 0, none⟩ = some (.slice r0.a.p r0.a.n r0.a.c) ∧ w'.cell? ⟨w.heap.size + 1, 1, none⟩ = some (.slice r0.l.p r0.l.n r0.l.c) ∧ w'.cell? ⟨w.heap.size + 1, 2, none⟩ = some (.bool r0.b) ∧ w'.cell? ⟨w.heap.size + 1, 3, none⟩ = some (.slice r1.a.p r1.a.n r1.a.c) ∧ w'.cell? ⟨w.heap.size + 1, 4, none⟩ = some (.slice r1.l.p r1.l.n r1.l.c) ∧ w'.cell? ⟨w.heap.size + 1, 5, none⟩ = some (.bool r1.b) ∧ w'.cell? ⟨w.heap.size + 1, 6, none⟩ = some (.slice r2.a.p r2.a.n r2.a.c) ∧ w'.cell? ⟨w.heap.size + 1, 7, none⟩ = some (.slice r2.l.p r2.l.n r2.l.c) ∧ w'.cell? ⟨w.heap.size + 1, 8, none⟩ = some (.bool r2.b) ∧ w'.cell? ⟨w.heap.size + 1, 9, none⟩ = some (.slice r3.a.p r3.a.n r3.a.c) ∧ w'.cell? ⟨w.heap.size + 1, 10, none⟩ = some (.slice r3.l.p r3.l.n r3.l.c) ∧ w'.cell? ⟨w.heap.size + 1, 11, none⟩ = some (.bool r3.b)) 5 (by kernel_rfl) ?_
        have hS : wr.drew.cell? ⟨w.heap.size + 1, 0, none⟩ = some (.slice r0.a.p r0.a.n r0.a.c) ∧ wr.drew.cell? ⟨w.heap.size + 1, 1, none⟩ = some (.slice r0.l.p r0.l.n r0.l.c) ∧ wr.drew.cell? ⟨w.heap.size + 1, 2, none⟩ = some (.bool r0.b) ∧ wr.drew.cell? ⟨w.heap.size + 1, 3, none⟩ = some (.slice r1.a.p r1.a.n r1.a.c) ∧ wr.drew.cell? ⟨w.heap.size + 1, 4, none⟩ = some (.slice r1.l.p r1.l.n r1.l.c) ∧ wr.drew.cell? ⟨w.heap.size + 1, 5, none⟩ = some (.bool r1.b) ∧ wr.drew.cell? ⟨w.heap.size + 1, 6, none⟩ = some (.slice r2.a.p r2.a.n r2.a.c) ∧ wr.drew.cell? ⟨w.heap.size + 1, 7, none⟩ = some (.slice r2.l.p r2.l.n r2.l.c) ∧ wr.drew.cell? ⟨w.heap.size + 1, 8, none⟩ = some (.bool r2.b) ∧ wr.drew.cell? ⟨w.heap.size + 1, 9, none⟩ = some (.slice r3.a.p r3.a.n r3.a.c) ∧ wr.drew.cell? ⟨w.heap.size + 1, 10, none⟩ = some (.slice r3.l.p r3.l.n r3.l.c) ∧ wr.drew.cell? ⟨w.heap.size + 1, 11, none⟩ = some (.bool r3.b) := ⟨x0, x1, x2, x3, x4, x5, x6, x7, x8, x9, x10, x11⟩
        refine wpAnyZ_takeC 0 [5] (v := ?va0) rfl (by kernel_rfl) (by kernel_rfl) (by kernel_rfl) (by kernel_rfl) (by kernel_rfl) (by kernel_rfl) (fun _ _ _ h => h) (by rfl) ?hya0 hS ?resta0
        case hya0 => (intro wx hSx; (try dsimp only at hSx); go_simp; (try with_reducible rfl))
        (try simp only [Act.put, List.setIfInBounds_toArray, List.set_cons_zero, List.set_cons_succ])
        refine wpAnyZ_takeC 1 [5] (v := ?va1) rfl (by kernel_rfl) (by kernel_rfl) (by kernel_rfl) (by kernel_rfl) (by kernel_rfl) (by kernel_rfl) (fun _ _ _ h => h) (by rfl) ?hya1 hS ?resta1
        case hya1 => (intro wx hSx; (try dsimp only at hSx); go_simp; (try with_reducible rfl))
        (try simp only [Act.put, List.setIfInBounds_toArray, List.set_cons_zero, List.set_cons_succ])
        refine wpAnyZ_takeC 2 [5] (v := ?va2) rfl (by kernel_rfl) (by kernel_rfl) (by kernel_rfl) (by kernel_rfl) (by kernel_rfl) (by kernel_rfl) (fun _ _ _ h => h) (by rfl) ?hya2 hS ?resta2
        case hya2 => (intro wx hSx; (try dsimp only at hSx); go_simp; (try with_reducible rfl))
        (try simp only [Act.put, List.setIfInBounds_toArray, List.set_cons_zero, List.set_cons_succ])
        refine wpAnyZ_one 3 rfl (by kernel_rfl) (fun K hK => ?_)
        go_simp
        refine hK _ _ (fun _ => hS) ?_
        clear hK K
        (try simp only [Act.put, List.setIfInBounds_toArray, List.set_cons_zero, List.set_cons_succ])
        refine wpAnyZ_one 4 rfl (by kernel_rfl) (fun K hK => ?_)
        go_simp
        refine hK _ _ (fun _ => hS) ?_
        clear hK K
        (try simp only [Act.put, List.setIfInBounds_toArray, List.set_cons_zero, List.set_cons_succ])
        have d0 : wr.drew.cell? ⟨w.heap.size, 0, none⟩ = _ := y0
        have d1 : wr.drew.cell? ⟨w.heap.size, 1, none⟩ = _ := y1
        have d2 : wr.drew.cell? ⟨w.heap.size, 2, none⟩ = _ := y2
        have d3 : wr.drew.cell? ⟨w.heap.size, 3, none⟩ = _ := y3
        have d4 : wr.drew.cell? ⟨w.heap.size, 4, none⟩ = _ := y4
        have d5 : wr.drew.cell? ⟨w.heap.size, 5, none⟩ = _ := y5
        have d6 : wr.drew.cell? ⟨w.heap.size, 6, none⟩ = _ := y6
        have d7 : wr.drew.cell? ⟨w.heap.size, 7, none⟩ = _ := y7
        have d8 : wr.drew.cell? ⟨w.heap.size, 8, none⟩ = _ := y8
        have d9 : wr.drew.cell? ⟨w.heap.size, 9, none⟩ = _ := y9
        have d10 : wr.drew.cell? ⟨w.heap.size, 10, none⟩ = _ := y10
        have d11 : wr.drew.cell? ⟨w.heap.size, 11, none⟩ = _ := y11
        have e0 : wr.drew.frozen? ⟨w.heap.size, 0, none⟩ = _ := f0
        have e1 : wr.drew.frozen? ⟨w.heap.size, 1, none⟩ = _ := f1
        have e2 : wr.drew.frozen? ⟨w.heap.size, 2, none⟩ = _ := f2
        have e3 : wr.drew.frozen? ⟨w.heap.size, 3, none⟩ = _ := f3
        have e4 : wr.drew.frozen? ⟨w.heap.size, 4, none⟩ = _ := f4
        have e5 : wr.drew.frozen? ⟨w.heap.size, 5, none⟩ = _ := f5
        have e6 : wr.drew.frozen? ⟨w.heap.size, 6, none⟩ = _ := f6
        have e7 : wr.drew.frozen? ⟨w.heap.size, 7, none⟩ = _ := f7
        have e8 : wr.drew.frozen? ⟨w.heap.size, 8, none⟩ = _ := f8
        have e9 : wr.drew.frozen? ⟨w.heap.size, 9, none⟩ = _ := f9
        have e10 : wr.drew.frozen? ⟨w.heap.size, 10, none⟩ = _ := f10
        have e11 : wr.drew.frozen? ⟨w.heap.size, 11, none⟩ = _ := f11
        refine wpAnyZ_one 5 rfl (by kernel_rfl) (fun K hK => ?_)
        go_simp
        rw [← hwF]
        refine hK _ _ (fun h => absurd rfl h) ?_
        clear hK K hwF d0 e0 y0 f0 x0 d1 e1 y1 f1 x1 d2 e2 y2 f2 x2 d3 e3 y3 f3 x3 d4 e4 y4 f4 x4 d5 e5 y5 f5 x5 d6 e6 y6 f6 x6 d7 e7 y7 f7 x7 d8 e8 y8 f8 x8 d9 e9 y9 f9 x9 d10 e10 y10 f10 x10 d11 e11 y11 f11 x11
        (try simp only [Act.put, List.setIfInBounds_toArray, List.set_cons_zero, List.set_cons_succ])
        refine wpAnyZ_done (by kernel_rfl) ?_ _
        go_wp2
        refine bodyPost_ret (by simp [results, Try.results14, go_sem, q0, q1, q2, q3, q4, q5, q6, q7, q8, q9, q10, q11]; try rfl) rfl ?_
        exact ⟨i, _, _, _, [r0, r1, r2, r3], wv, HE.out.2.2.2, HE.out.2.1, rfl, HE.out.1, HE.out.2.2.1⟩
      · have hnv' : ¬ (i : Int) < (nv : Int) := by omega
        clear hin hnv hi h300
        go_upto_region 39 with fail
        refine wp_region_late (fun w' => w'.cell? ⟨w.heap.size + 1, 0, none⟩ = some (.slice r0.a.p r0.a.n r0.a.c) ∧ w'.cell? ⟨w.heap.size + 1, 1, none⟩ = some (.slice r0.l.p r0.l.n r0.l.c) ∧ w'.cell? ⟨w.heap.size + 1, 2, none⟩ = some (.bool r0.b) ∧ w'.cell? ⟨w.heap.size + 1, 3, none⟩ = some (.slice r1.a.p r1.a.n r1.a.c) ∧ w'.cell? ⟨w.heap.size + 1, 4, none⟩ = some (.slice r1.l.p r1.l.n r1.l.c) ∧ w'.cell? ⟨w.heap.size + 1, 5, none⟩ = some (.bool r1.b) ∧ w'.cell? ⟨w.heap.size + 1, 6, none⟩ = some (.slice r2.a.p r2.a.n r2.a.c) ∧ w'.cell? ⟨w.heap.size + 1, 7, none⟩ = some (.slice r2.l.p r2.l.n r2.l.c) ∧ w'.cell? ⟨w.heap.size + 1, 8, none⟩ = some (.bool r2.b) ∧ w'.cell? ⟨w.heap.size + 1, 9, none⟩ = some (.slice r3.a.p r3.a.n r3.a.c) ∧ w'.cell? ⟨w.heap.size + 1, 10, none⟩ = some (.slice r3.l.p r3.l.n r3.l.c) ∧ w'.cell? ⟨w.heap.size + 1, 11, none⟩ = some (.bool r3.b)) 5 (by kernel_rfl) ?_
        have hS : wr.drew.cell? ⟨w.heap.size + 1, 0, none⟩ = some (.slice r0.a.p r0.a.n r0.a.c) ∧ wr.drew.cell? ⟨w.heap.size + 1, 1, none⟩ = some (.slice r0.l.p r0.l.n r0.l.c) ∧ wr.drew.cell? ⟨w.heap.size + 1, 2, none⟩ = some (.bool r0.b) ∧ wr.drew.cell? ⟨w.heap.size + 1, 3, none⟩ = some (.slice r1.a.p r1.a.n r1.a.c) ∧ wr.drew.cell? ⟨w.heap.size + 1, 4, none⟩ = some (.slice r1.l.p r1.l.n r1.l.c) ∧ wr.drew.cell? ⟨w.heap.size + 1, 5, none⟩ = some (.bool r1.b) ∧ wr.drew.cell? ⟨w.heap.size + 1, 6, none⟩ = some (.slice r2.a.p r2.a.n r2.a.c) ∧ wr.drew.cell? ⟨w.heap.size + 1, 7, none⟩ = some (.slice r2.l.p r2.l.n r2.l.c) ∧ wr.drew.cell? ⟨w.heap.size + 1, 8, none⟩ = some (.bool r2.b) ∧ wr.drew.cell? ⟨w.heap.size + 1, 9, none⟩ = some (.slice r3.a.p r3.a.n r3.a.c) ∧ wr.drew.cell? ⟨w.heap.size + 1, 10, none⟩ = some (.slice r3.l.p r3.l.n r3.l.c) ∧ wr.drew.cell? ⟨w.heap.size + 1, 11, none⟩ = some (.bool r3.b) := ⟨x0, x1, x2, x3, x4, x5, x6, x7, x8, x9, x10, x11⟩
        refine wpAnyZ_takeC 0 [5] (v := ?vb0) rfl (by kernel_rfl) (by kernel_rfl) (by kernel_rfl) (by kernel_rfl) (by kernel_rfl) (by kernel_rfl) (fun _ _ _ h => h) (by rfl) ?hyb0 hS ?restb0
        case hyb0 => (intro wx hSx; (try dsimp only at hSx); go_simp; (try with_reducible rfl))
        (try simp only [Act.put, List.setIfInBounds_toArray, List.set_cons_zero, List.set_cons_succ])
        refine wpAnyZ_takeC 1 [5] (v := ?vb1) rfl (by kernel_rfl) (by kernel_rfl) (by kernel_rfl) (by kernel_rfl) (by kernel_rfl) (by kernel_rfl) (fun _ _ _ h => h) (by rfl) ?hyb1 hS ?restb1
        case hyb1 => (intro wx hSx; (try dsimp only at hSx); go_simp; (try with_reducible rfl))
        (try simp only [Act.put, List.setIfInBounds_toArray, List.set_cons_zero, List.set_cons_succ])
        refine wpAnyZ_takeC 2 [5] (v := ?vb2) rfl (by kernel_rfl) (by kernel_rfl) (by kernel_rfl) (by kernel_rfl) (by kernel_rfl) (by kernel_rfl) (fun _ _ _ h => h) (by rfl) ?hyb2 hS ?restb2
        case hyb2 => (intro wx hSx; (try dsimp only at hSx); go_simp; (try with_reducible rfl))
        (try simp only [Act.put, List.setIfInBounds_toArray, List.set_cons_zero, List.set_cons_succ])
        refine wpAnyZ_one 3 rfl (by kernel_rfl) (fun K hK => ?_)
        go_simp
        refine hK _ _ (fun _ => hS) ?_
        clear hK K
        (try simp only [Act.put, List.setIfInBounds_toArray, List.set_cons_zero, List.set_cons_succ])
        refine wpAnyZ_one 4 rfl (by kernel_rfl) (fun K hK => ?_)
        go_simp
        refine hK _ _ (fun _ => hS) ?_
        clear hK K
        (try simp only [Act.put, List.setIfInBounds_toArray, List.set_cons_zero, List.set_cons_succ])
        have d0 : wr.drew.cell? ⟨w.heap.size, 0, none⟩ = _ := y0
        have d1 : wr.drew.cell? ⟨w.heap.size, 1, none⟩ = _ := y1
        have d2 : wr.drew.cell? ⟨w.heap.size, 2, none⟩ = _ := y2
        have d3 : wr.drew.cell? ⟨w.heap.size, 3, none⟩ = _ := y3
        have d4 : wr.drew.cell? ⟨w.heap.size, 4, none⟩ = _ := y4
        have d5 : wr.drew.cell? ⟨w.heap.size, 5, none⟩ = _ := y5
        have d6 : wr.drew.cell? ⟨w.heap.size, 6, none⟩ = _ := y6
        have d7 : wr.drew.cell? ⟨w.heap.size, 7, none⟩ = _ := y7
        have d8 : wr.drew.cell? ⟨w.heap.size, 8, none⟩ = _ := y8
        have d9 : wr.drew.cell? ⟨w.heap.size, 9, none⟩ = _ := y9
        have d10 : wr.drew.cell? ⟨w.heap.size, 10, none⟩ = _ := y10
        have d11 : wr.drew.cell? ⟨w.heap.size, 11, none⟩ = _ := y11
        have e0 : wr.drew.frozen? ⟨w.heap.size, 0, none⟩ = _ := f0
        have e1 : wr.drew.frozen? ⟨w.heap.size, 1, none⟩ = _ := f1
        have e2 : wr.drew.frozen? ⟨w.heap.size, 2, none⟩ = _ := f2
        have e3 : wr.drew.frozen? ⟨w.heap.size, 3, none⟩ = _ := f3
        have e4 : wr.drew.frozen? ⟨w.heap.size, 4, none⟩ = _ := f4
        have e5 : wr.drew.frozen? ⟨w.heap.size, 5, none⟩ = _ := f5
        have e6 : wr.drew.frozen? ⟨w.heap.size, 6, none⟩ = _ := f6
        have e7 : wr.drew.frozen? ⟨w.heap.size, 7, none⟩ = _ := f7
        have e8 : wr.drew.frozen? ⟨w.heap.size, 8, none⟩ = _ := f8
        have e9 : wr.drew.frozen? ⟨w.heap.size, 9, none⟩ = _ := f9
        have e10 : wr.drew.frozen? ⟨w.heap.size, 10, none⟩ = _ := f10
        have e11 : wr.drew.frozen? ⟨w.heap.size, 11, none⟩ = _ := f11
        refine wpAnyZ_one 5 rfl (by kernel_rfl) (fun K hK => ?_)
        go_simp
        rw [← hwF]
        refine hK _ _ (fun h => absurd rfl h) ?_
        clear hK K hwF d0 e0 y0 f0 x0 d1 e1 y1 f1 x1 d2 e2 y2 f2 x2 d3 e3 y3 f3 x3 d4 e4 y4 f4 x4 d5 e5 y5 f5 x5 d6 e6 y6 f6 x6 d7 e7 y7 f7 x7 d8 e8 y8 f8 x8 d9 e9 y9 f9 x9 d10 e10 y10 f10 x10 d11 e11 y11 f11 x11
        (try simp only [Act.put, List.setIfInBounds_toArray, List.set_cons_zero, List.set_cons_succ])
        refine wpAnyZ_done (by kernel_rfl) ?_ _
        go_wp2
        refine bodyPost_ret (by simp [results, Try.results14, go_sem, q0, q1, q2, q3, q4, q5, q6, q7, q8, q9, q10, q11]; try rfl) rfl ?_
        exact ⟨i, _, _, _, [r0, r1, r2, r3], wv, HE.out.2.2.2, HE.out.2.1, rfl, HE.out.1, HE.out.2.2.1⟩
    case pos =>
      obtain ⟨hin1, hin2⟩ := hin
      have hin' : (i : Int) < (nv : Int) := by omega
      have hi0 : (0 : Int) ≤ (i : Int) := by omega
      have wi : IntKind.i64.wrap ((i : Int) + 1) = (i : Int) + 1 := wrap_i64_of (by omega) (by omega)
      obtain ⟨a, ha⟩ : ∃ a, pl[i]? = some a := ⟨_, List.getElem?_eq_getElem (by have := HN.out.1; omega)⟩
      have HST := @hideH _ (wrote_next ha)
      obtain ⟨pb, po, epv, hA⟩ := (HS.out.kept hK).at ha
      subst epv
      have a0 := hA.c0
      have a1 := hA.c1
      have a2 := hA.c2
      obtain ⟨ab, hab⟩ : ∃ x, x = a.by_ := ⟨_, rfl⟩
      obtain ⟨aw, haw⟩ : ∃ x, x = a.what := ⟨_, rfl⟩
      obtain ⟨ag, hag⟩ : ∃ x, x = a.gap := ⟨_, rfl⟩
      rw [← hab] at a0
      rw [← haw] at a1
      rw [← hag] at a2
      obtain ⟨k, hk⟩ : ∃ k : Nat, ab % 4 = (k : Int) := ⟨(ab % 4).toNat, by have := Int.emod_nonneg ab (show (4 : Int) ≠ 0 by omega); omega⟩
      have hk4 : k < 4 := by have := Int.emod_lt_of_pos ab (show (0 : Int) < 4 by omega); omega
      obtain ⟨G, hG⟩ : ∃ G : Int, G = ag % 50 := ⟨_, rfl⟩
      have hG1 : 0 ≤ G ∧ G < 50 := by rw [hG]; exact ⟨Int.emod_nonneg _ (by omega), Int.emod_lt_of_pos _ (by omega)⟩
      obtain ⟨W, hWh⟩ : ∃ W : Int, W = aw % 4 := ⟨_, rfl⟩
      have hL := HOK.out.lsn
      rw [← eL] at hL
      have wl1 : IntKind.i64.wrap (L + 1) = L + 1 := wrap_i64_of (by omega) (by omega)
      have wl2 : IntKind.i64.wrap (L + 1 + G) = L + 1 + G := wrap_i64_of (by omega) (by omega)
      obtain ⟨x, hx⟩ : ∃ x, x = runAt (wrote pl i).runs k := ⟨_, rfl⟩
      obtain ⟨M, hM⟩ : ∃ M : Int, M = L + 1 + G := ⟨_, rfl⟩
      have HSTEP := @hideH _ (show wrote pl (i + 1) = ⟨M, (wrote pl i).lines ++ [⟨M, (recStep x W M k).1⟩], (wrote pl i).ways ++ [(x.all ++ [M]).reverse], (wrote pl i).runs.set k (endRun (recStep x W M k).1 (recStep x W M k).2 (x.all ++ [M]))⟩ by
        rw [HST.out]
        unfold wstep
        simp only [← hab, ← haw, ← hag, ← hG, ← hWh, ← eL, ← hM]
        rw [hk, Int.toNat_natCast, ← hx])
      obtain ⟨r, hr⟩ : ∃ r, rs[k]? = some r := ⟨_, List.getElem?_eq_getElem (by rw [hW.rlen]; exact hk4)⟩
      obtain ⟨sA, sL, eb⟩ := hW.runs k r x hr (by rw [hx]; exact runAt_get HOK.out.rlen hk4)
      obtain ⟨-, rga, rgl, rna, rnl⟩ := HOK.out.runs k x (by rw [hx]; exact runAt_get HOK.out.rlen hk4)
      obtain ⟨pA, cA, eA⟩ := sA.1.shape
      obtain ⟨pL, cL, eLL⟩ := sL.1.shape
      obtain ⟨nA, hnA⟩ : ∃ n, n = x.all.length := ⟨_, rfl⟩
      obtain ⟨nL, hnL⟩ : ∃ n, n = x.left.length := ⟨_, rfl⟩
      rw [← hnA] at eA rna
      rw [← hnL] at eLL rnl
      have r0 : wr.cell? ⟨w.heap.size + 1, k * 3, none⟩ = some r.a.v := hW.box.cell (flatR_at rs k r 0 _ hr rfl)
      have r1 := hW.box.cell (flatR_at rs k r 1 _ hr rfl)
      have r2 := hW.box.cell (flatR_at rs k r 2 _ hr rfl)
      rw [eA] at r0
      rw [eLL] at r1
      rw [eA] at sA
      rw [eLL] at sL
      obtain ⟨bk, hbk⟩ : ∃ b, b = r.b := ⟨_, rfl⟩
      rw [← hbk] at r2 eb
      have kk0 : (0 : Int) ≤ (k : Int) := by omega
      have kk4 : (k : Int) < 4 := by omega
      have wk : IntKind.i64.wrap ((k : Int) + 1) = (k : Int) + 1 := wrap_i64_of (by omega) (by omega)
      have HI2 := hideH hin2
      have HW := @hideH _ (And.intro hW (And.intro hB (And.intro hK (And.intro hr (And.intro sA (And.intro sL (And.intro eb (And.intro hx (And.intro hnA (And.intro hnL (And.intro rna rnl)))))))))))
      have HM := @hideH _ (And.intro hM (And.intro hk hG))
      have HWH := hideH hWh
      clear hW hB hK hr sA sL eb hx hnA hnL rna rnl rga rgl eA eLL hbk hA ha hab haw hag hL eL h300 hin1 hin2 hi HST hWh hM
      have hI1 := into_any ab 4 wr (by omega) (by omega)
      rw [hk] at hI1
      have hI2 := into_any ag 50 wr (by omega) (by omega)
      rw [← hG] at hI2
      clear hk hG hG1
      go_upto_if 24 with fail
      rw [show decide ((i : Int) < 300) = true from decide_eq_true (by have := HI2.out; omega)]
      go_wp2_with fail
      refine hI1.mono ?_
      clear hI1
      rintro e wz ⟨rfl, hwz⟩
      rw [hwz]
      clear hwz wz
      go_wp2_with fail
      refine hI2.mono ?_
      clear hI2
      rintro e wz ⟨rfl, hwz⟩
      rw [hwz]
      clear hwz wz
      obtain ⟨w3, hw3⟩ : ∃ wx, wx = wr.alloc (.cells #[.slice pA nA cA, .slice pL nL cL, .bool bk] 34) := ⟨_, rfl⟩
      have B3 : Blk w3 wr.heap.size 34 [.slice pA nA cA, .slice pL nL cL, .bool bk] := by rw [hw3]; exact Blk.new wr _ _
      have k3 : Kept [] wr w3 := by rw [hw3]; exact (Kept.refl [] wr).alloc _
      have z3 : w3.heap.size = wr.heap.size + 1 := by rw [hw3, World.size_alloc]
      obtain ⟨w4, hw4⟩ : ∃ wx, wx = w3.alloc (.cells #[.int .i64 1, .int .i64 0, .int .i64 0, .int .i64 ((k : Int) + 1), .int .i64 0, .int .i64 0, .slice none 0 0, .slice none 0 0, .int .i64 0, .slice none 0 0, .slice none 0 0] 42) := ⟨_, rfl⟩
      have B4 : Blk w4 w3.heap.size 42 [.int .i64 1, .int .i64 0, .int .i64 0, .int .i64 ((k : Int) + 1), .int .i64 0, .int .i64 0, .slice none 0 0, .slice none 0 0, .int .i64 0, .slice none 0 0, .slice none 0 0] := by rw [hw4]; exact Blk.new w3 _ _
      have k4 : Kept [] w3 w4 := by rw [hw4]; exact (Kept.refl [] w3).alloc _
      rw [z3] at B4
      have B3' := B3.kept k4 (by simp)
      go_upto_region 11 with fail
      rw [← hw3]
      clear hw3 r0 r1 r2
      go_upto_region 12 with fail
      rw [← hw4]
      clear hw4
      obtain ⟨X, hX⟩ : ∃ X, X = wr.heap.size := ⟨_, rfl⟩
      rw [← hX] at B3 B3' B4 z3 ⊢
      have HX := @hideH _ (And.intro hX (show w.heap.size + 1 < X by rw [hX]; exact HW.out.1.box.lt))
      have HK4 := @hideH _ (k3.then k4)
      have HWM := @hideH _ (And.intro (HW.out.1.kept (k3.then k4)) (And.intro (HW.out.2.1.kept (k3.then k4) (by simp)) (And.intro (HW.out.2.2.1.then (k3.then k4)) (And.intro ((HW.out.2.2.2.2.1).kept (k3.then k4) (by simp)) ((HW.out.2.2.2.2.2.1).kept (k3.then k4) (by simp))))))
      have HB34 := @hideH _ (And.intro B3' B4)
      clear hX z3 k3 k4 B3
      have HPB := @hideH _ (show pb < X from by rw [HX.out.1]; exact lt_of_cell a1)
      replace a1 := HK4.out.cell a1 (by simp)
      have hMe : L + 1 + G = M := HM.out.1.symm
      rw [hMe]
      clear hMe wl2 wl1 a0 a2
      obtain ⟨RX, hRX⟩ : ∃ RX, RX = recStep x W M k := ⟨_, rfl⟩
      have HRX := hideH hRX
      clear hRX
      have g0 := B3'.cell (j := 0) rfl
      go_upto_if 51 with fail
      go_cut [] (fun wx => ∃ (pL' : Option Addr) (nL' cL' : Nat) (kd bi pr nx : Int), Hid (Blk wx X 34 [.slice pA nA cA, .slice pL' nL' cL', .bool RX.2.back] ∧ Blk wx (X + 1) 42 [.int .i64 kd, .int .i64 bi, .int .i64 pr, .int .i64 RX.1.id, .int .i64 0, .int .i64 0, .slice none 0 0, .slice none 0 0, .int .i64 nx, .slice none 0 0, .slice none 0 0] ∧ Blk wx (X + 1) 42 RX.1.cells ∧ RX.1.kind = kd ∧ Still wx (w.heap.size + 1) (FF (w.heap.size + 1) (.slice p5 i c5) (.slice p6 i c6)) (.slice pL' nL' cL') RX.2.left ∧ nL' = RX.2.left.length ∧ Kept [] wr wx ∧ ∀ y, (Value.slice pL' nL' cL').ownBlock = some y → y ≠ X ∧ y ≠ X + 1))
      case first =>
        have hx1 : X < w4.heap.size := B3'.lt
        have hx2 : X + 1 < w4.heap.size := B4.lt
        by_cases hA0 : nA = 0
        · subst hA0
          have e : RX = (recOf 1 0 0 ((k : Int) + 1) 0, x) := by rw [HRX.out]; exact if_pos (by have := HW.out.2.2.2.2.2.2.2.2.1; omega)
          have HE := hideH e
          clear e
          go_wp2
          go_meet
          case rel =>
            refine ⟨pL, nL, cL, 1, 0, 0, 0, ?_⟩
            rw [HE.out]
            exact ⟨by have := HB34.out.1; rw [HW.out.2.2.2.2.2.2.1] at this; exact this, HB34.out.2, HB34.out.2, rfl, HWM.out.2.2.2.2, HW.out.2.2.2.2.2.2.2.2.2.1, HK4.out, fun y hy => by have e := (HW.out.2.2.2.2.2.1.1.lt hy).2; have := HX.out.1; omega⟩
        · have hA1 : (0 : Int) < (nA : Int) := by omega
          obtain ⟨gA, epA, -, d0, -⟩ := HWM.out.2.2.2.1.1.at (j := 0) (by have := HW.out.2.2.2.2.2.2.2.2.1; omega)
          subst epA
          obtain ⟨gA2, epA2, -, d1, -⟩ := HWM.out.2.2.2.1.1.at (j := x.all.length - 1) (by have := HW.out.2.2.2.2.2.2.2.2.1; omega)
          cases epA2
          obtain ⟨bi, hbi⟩ : ∃ b, b = x.all.getD 0 0 := ⟨_, rfl⟩
          obtain ⟨pr, hpr⟩ : ∃ b, b = x.all.getD (x.all.length - 1) 0 := ⟨_, rfl⟩
          rw [← hbi] at d0
          rw [← hpr] at d1
          obtain ⟨nA1, hnA1⟩ : ∃ n, n = x.all.length - 1 := ⟨_, rfl⟩
          rw [← hnA1] at d1
          have e1 : IntKind.i64.wrap ((nA : Int) - 1) = (nA1 : Int) := by have e := HW.out.2.2.2.2.2.2.2.2.1; have e2 := HW.out.2.2.2.2.2.2.2.2.2.2.1; have e3 := HI2.out; rw [wrap_i64_of (by omega) (by omega)]; omega
          have e2 : (0 : Int) ≤ (nA1 : Int) := by omega
          have e3 : (nA1 : Int) < (nA : Int) := by have e := HW.out.2.2.2.2.2.2.2.2.1; omega
          have HBP := @hideH _ (And.intro hbi hpr)
          clear hbi hpr hnA1
          have B4x := HB34.out.2
          have y0 := B4x.cell (j := 0) rfl
          have y1 := B4x.cell (j := 1) rfl
          have y2 := B4x.cell (j := 2) rfl
          have y3 := B4x.cell (j := 3) rfl
          have y4 := B4x.cell (j := 4) rfl
          have y5 := B4x.cell (j := 5) rfl
          have y6 := B4x.cell (j := 6) rfl
          have y7 := B4x.cell (j := 7) rfl
          have y8 := B4x.cell (j := 8) rfl
          have y9 := B4x.cell (j := 9) rfl
          have y10 := B4x.cell (j := 10) rfl
          have f0 := B4x.free 0
          have f1 := B4x.free 1
          have f2 := B4x.free 2
          have f3 := B4x.free 3
          have f4 := B4x.free 4
          have f5 := B4x.free 5
          have f6 := B4x.free 6
          have f7 := B4x.free 7
          have f8 := B4x.free 8
          have f9 := B4x.free 9
          have f10 := B4x.free 10
          obtain ⟨BF, kF⟩ := B4x.fill11 (.int .i64 2) (.int .i64 bi) (.int .i64 pr) (.int .i64 0) (.int .i64 0) (.int .i64 0) (.slice none 0 0) (.slice none 0 0) (.int .i64 0) (.slice none 0 0) (.slice none 0 0)
          obtain ⟨wF, hwF⟩ : ∃ wF, wF = (((((((((((w4.setCell ⟨(X + 1), 0, none⟩ (.int .i64 2)).setCell ⟨(X + 1), 1, none⟩ (.int .i64 bi)).setCell ⟨(X + 1), 2, none⟩ (.int .i64 pr)).setCell ⟨(X + 1), 3, none⟩ (.int .i64 0)).setCell ⟨(X + 1), 4, none⟩ (.int .i64 0)).setCell ⟨(X + 1), 5, none⟩ (.int .i64 0)).setCell ⟨(X + 1), 6, none⟩ (.slice none 0 0)).setCell ⟨(X + 1), 7, none⟩ (.slice none 0 0)).setCell ⟨(X + 1), 8, none⟩ (.int .i64 0)).setCell ⟨(X + 1), 9, none⟩ (.slice none 0 0)).setCell ⟨(X + 1), 10, none⟩ (.slice none 0 0)) := ⟨_, rfl⟩
          rw [← hwF] at BF kF
          have hpn : ∀ y, (Value.slice (some ⟨gA, 0, none⟩) nA cA).ownBlock = some y → y < X := fun y hy => by have e := ((HW.out.2.2.2.2.1).1.lt hy).2; rw [← HX.out.1] at e; exact e
          have HNG := @hideH _ (show gA ≠ X + 1 ∧ gA ≠ X from by have := hpn gA rfl; omega)
          clear hpn B4x
          have g0' := g0
          go_upto_region 13 with fail
          go_cut [] (fun wx => Hid (Blk wx (X + 1) 42 [.int .i64 2, .int .i64 bi, .int .i64 pr, .int .i64 0, .int .i64 0, .int .i64 0, .slice none 0 0, .slice none 0 0, .int .i64 0, .slice none 0 0, .slice none 0 0] ∧ Kept [X + 1] w4 wx))
          case first =>
            have HF := @hideH _ (And.intro BF kF)
            clear BF kF
            refine wp_region_late (fun w' => w'.cell? ⟨X, 0, none⟩ = some (.slice (some ⟨gA, 0, none⟩) nA cA) ∧ w'.cell? ⟨gA, 0, none⟩ = some (.int .i64 bi) ∧ w'.cell? ⟨gA, nA1, none⟩ = some (.int .i64 pr)) 13 (by kernel_rfl) ?_
            have hS : w4.drew.cell? ⟨X, 0, none⟩ = some (.slice (some ⟨gA, 0, none⟩) nA cA) ∧ w4.drew.cell? ⟨gA, 0, none⟩ = some (.int .i64 bi) ∧ w4.drew.cell? ⟨gA, nA1, none⟩ = some (.int .i64 pr) := ⟨g0, d0, d1⟩
            clear g0 d0 d1 g0'
            refine wpAnyZ_takeC 0 [13, 12, 3, 2, 1] (v := ?v0) rfl (by kernel_rfl) (by kernel_rfl) (by kernel_rfl) (by kernel_rfl) (by kernel_rfl) (by kernel_rfl) (fun _ _ _ h => h) (by rfl) ?hy0 hS ?rest0
            case hy0 => (intro wx hSx; (try dsimp only at hSx); go_simp; (try with_reducible rfl))
            (try simp only [Act.put, List.setIfInBounds_toArray, List.set_cons_zero, List.set_cons_succ])
            refine wpAnyZ_takeC 1 [13, 12, 3, 2] (v := ?v1) rfl (by kernel_rfl) (by kernel_rfl) (by kernel_rfl) (by kernel_rfl) (by kernel_rfl) (by kernel_rfl) (fun _ _ _ h => h) (by rfl) ?hy1 hS ?rest1
            case hy1 => (intro wx hSx; (try dsimp only at hSx); go_simp; (try with_reducible rfl))
            (try simp only [Act.put, List.setIfInBounds_toArray, List.set_cons_zero, List.set_cons_succ])
            refine wpAnyZ_takeC 2 [13, 12, 3] (v := ?v2) rfl (by kernel_rfl) (by kernel_rfl) (by kernel_rfl) (by kernel_rfl) (by kernel_rfl) (by kernel_rfl) (fun _ _ _ h => h) (by rfl) ?hy2 hS ?rest2
            case hy2 => (intro wx hSx; (try dsimp only at hSx); go_simp; (try with_reducible rfl))
            (try simp only [Act.put, List.setIfInBounds_toArray, List.set_cons_zero, List.set_cons_succ])
            refine wpAnyZ_takeC 3 [13, 12] (v := ?v3) rfl (by kernel_rfl) (by kernel_rfl) (by kernel_rfl) (by kernel_rfl) (by kernel_rfl) (by kernel_rfl) (fun _ _ _ h => h) (by rfl) ?hy3 hS ?rest3
            case hy3 => (intro wx hSx; (try dsimp only at hSx); go_simp; (try with_reducible rfl))
            (try simp only [Act.put, List.setIfInBounds_toArray, List.set_cons_zero, List.set_cons_succ])
            refine wpAnyZ_takeC 4 [13, 12, 11, 10, 5] (v := ?v4) rfl (by kernel_rfl) (by kernel_rfl) (by kernel_rfl) (by kernel_rfl) (by kernel_rfl) (by kernel_rfl) (fun _ _ _ h => h) (by rfl) ?hy4 hS ?rest4
            case hy4 => (intro wx hSx; (try dsimp only at hSx); go_simp; (try with_reducible rfl))
            (try simp only [Act.put, List.setIfInBounds_toArray, List.set_cons_zero, List.set_cons_succ])
            refine wpAnyZ_takeC 5 [13, 12, 11, 10] (v := ?v5) rfl (by kernel_rfl) (by kernel_rfl) (by kernel_rfl) (by kernel_rfl) (by kernel_rfl) (by kernel_rfl) (fun _ _ _ h => h) (by rfl) ?hy5 hS ?rest5
            case hy5 => (intro wx hSx; (try dsimp only at hSx); go_simp; (try with_reducible rfl))
            (try simp only [Act.put, List.setIfInBounds_toArray, List.set_cons_zero, List.set_cons_succ])
            refine wpAnyZ_takeC 6 [13, 12, 11, 10, 9, 8, 7] (v := ?v6) rfl (by kernel_rfl) (by kernel_rfl) (by kernel_rfl) (by kernel_rfl) (by kernel_rfl) (by kernel_rfl) (fun _ _ _ h => h) (by rfl) ?hy6 hS ?rest6
            case hy6 => (intro wx hSx; (try dsimp only at hSx); go_simp; (try with_reducible rfl))
            (try simp only [Act.put, List.setIfInBounds_toArray, List.set_cons_zero, List.set_cons_succ])
            refine wpAnyZ_takeC 7 [13, 12, 11, 10, 9, 8] (v := ?v7) rfl (by kernel_rfl) (by kernel_rfl) (by kernel_rfl) (by kernel_rfl) (by kernel_rfl) (by kernel_rfl) (fun _ _ _ h => h) (by rfl) ?hy7 hS ?rest7
            case hy7 => (intro wx hSx; (try dsimp only at hSx); go_simp; (try with_reducible rfl))
            (try simp only [Act.put, List.setIfInBounds_toArray, List.set_cons_zero, List.set_cons_succ])
            refine wpAnyZ_takeC 8 [13, 12, 11, 10, 9] (v := ?v8) rfl (by kernel_rfl) (by kernel_rfl) (by kernel_rfl) (by kernel_rfl) (by kernel_rfl) (by kernel_rfl) (fun _ _ _ h => h) (by rfl) ?hy8 hS ?rest8
            case hy8 => (intro wx hSx; (try dsimp only at hSx); go_simp; (try with_reducible rfl))
            (try simp only [Act.put, List.setIfInBounds_toArray, List.set_cons_zero, List.set_cons_succ])
            refine wpAnyZ_takeC 9 [13, 12, 11, 10] (v := ?v9) rfl (by kernel_rfl) (by kernel_rfl) (by kernel_rfl) (by kernel_rfl) (by kernel_rfl) (by kernel_rfl) (fun _ _ _ h => h) (by rfl) ?hy9 hS ?rest9
            case hy9 => (intro wx hSx; (try dsimp only at hSx); go_simp; (try with_reducible rfl))
            (try simp only [Act.put, List.setIfInBounds_toArray, List.set_cons_zero, List.set_cons_succ])
            refine wpAnyZ_takeC 10 [13, 12, 11] (v := ?v10) rfl (by kernel_rfl) (by kernel_rfl) (by kernel_rfl) (by kernel_rfl) (by kernel_rfl) (by kernel_rfl) (fun _ _ _ h => h) (by rfl) ?hy10 hS ?rest10
            case hy10 => (intro wx hSx; (try dsimp only at hSx); go_simp; (try with_reducible rfl))
            (try simp only [Act.put, List.setIfInBounds_toArray, List.set_cons_zero, List.set_cons_succ])
            refine wpAnyZ_takeC 11 [13, 12] (v := ?v11) rfl (by kernel_rfl) (by kernel_rfl) (by kernel_rfl) (by kernel_rfl) (by kernel_rfl) (by kernel_rfl) (fun _ _ _ h => h) (by rfl) ?hy11 hS ?rest11
            case hy11 => (intro wx hSx; (try dsimp only at hSx); go_simp; (try with_reducible rfl))
            (try simp only [Act.put, List.setIfInBounds_toArray, List.set_cons_zero, List.set_cons_succ])
            refine wpAnyZ_takeC 12 [13] (v := ?v12) rfl (by kernel_rfl) (by kernel_rfl) (by kernel_rfl) (by kernel_rfl) (by kernel_rfl) (by kernel_rfl) (fun _ _ _ h => h) (by rfl) ?hy12 hS ?rest12
            case hy12 => (intro wx hSx; (try dsimp only at hSx); go_simp; (try with_reducible rfl))
            (try simp only [Act.put, List.setIfInBounds_toArray, List.set_cons_zero, List.set_cons_succ])
            refine wpAnyZ_one 13 rfl (by kernel_rfl) (fun K hK => ?_)
            go_simp
            refine hK _ _ (fun h => absurd rfl h) ?_
            clear hK K
            refine wpAnyZ_done (by kernel_rfl) ?_ _
            rw [← hwF]
            go_wp2
            go_meet
            case rel => exact ⟨HF.out.1.kept ((Kept.refl [] wF).drew) (by simp), HF.out.2.drew⟩
          case rest =>
            clear BF kF hwF g0' y0 y1 y2 y3 y4 y5 y6 y7 y8 y9 y10 f0 f1 f2 f3 f4 f5 f6 f7 f8 f9 f10 g0 d0 d1 e1 e2 e3 hA1 hx1 hx2
            have KWC := @hideH _ (show Kept [] wr wc from HK4.out.trans hcut.out.2 (fun y hy => .inr (by simp at hy; have := HX.out.1; omega)))
            have Bx := HB34.out.1.kept hcut.out.2 (by simp)
            have Br := hcut.out.1
            replace a1 := hcut.out.2.cell a1 (by have := HPB.out; simp; omega)
            have x1 := Bx.cell (j := 1) rfl
            have x2 := Bx.cell (j := 2) rfl
            have HBX := hideH Bx
            have HBR := hideH Br
            clear Bx Br hcut
            have hI3 := into_any aw 4 wc (by omega) (by omega)
            rw [← HWH.out] at hI3
            go_wp2_with fail
            refine hI3.mono ?_
            clear hI3
            rintro e wz ⟨rfl, hwz⟩
            rw [hwz]
            clear hwz wz a1
            have HNA := @hideH _ (show x.all.length ≠ 0 from by have := HW.out.2.2.2.2.2.2.2.2.1; omega)
            have HEB := hideH HW.out.2.2.2.2.2.2.1
            have HNL := hideH HW.out.2.2.2.2.2.2.2.2.2.1
            have HSL := hideH HW.out.2.2.2.2.2.1
            clear hA0
            cases bk with
            | false =>
              by_cases hW1 : W = 1
              · skip
                as_aux_lemma =>
                  have HE := hideH (show RX = _ from HRX.out.trans (recStep_abort HNA.out hW1 (by rw [← HEB.out])))
                  subst hW1
                  have u0 := HBR.out.cell (j := 0) rfl
                  have v0 := HBR.out.free 0
                  have Bd0 := HBR.out.set 0 (.int .i64 5)
                  obtain ⟨wd, hwd⟩ : ∃ wx, wx = wc.setCell ⟨(X + 1), 0, none⟩ (.int .i64 5) := ⟨_, rfl⟩
                  rw [← hwd] at Bd0
                  have Bd : Blk wd (X + 1) 42 [.int .i64 5, .int .i64 bi, .int .i64 pr, .int .i64 0, .int .i64 0, .int .i64 0, .slice none 0 0, .slice none 0 0, .int .i64 0, .slice none 0 0, .slice none 0 0] := Bd0.1
                  have kd_ := Bd0.2
                  clear Bd0
                  have Bx2 := HBX.out.kept kd_ (by simp)
                  have u2 := Bx2.cell (j := 2) rfl
                  have v2 := Bx2.free 2
                  have Be0 := Bx2.set 2 (.bool true)
                  obtain ⟨we, hwe⟩ : ∃ wx, wx = wd.setCell ⟨X, 2, none⟩ (.bool true) := ⟨_, rfl⟩
                  rw [← hwe] at Be0
                  have Be : Blk we X 34 [.slice (some ⟨gA, 0, none⟩) nA cA, .slice pL nL cL, .bool true] := Be0.1
                  have ke_ := Be0.2
                  clear Be0
                  have Bd2 := Bd.kept ke_ (by simp)
                  have HZ := @hideH _ (And.intro Be (And.intro Bd2 ((KWC.out.trans kd_ (fun y hy => .inr (by simp at hy; have := HX.out.1; omega))).trans ke_ (fun y hy => .inr (by simp at hy; have := HX.out.1; omega)))))
                  clear Bd Bd2 Be Bx2 kd_ ke_
                  go_upto_region 19 with fail
                  rw [← hwd]
                  clear hwd u0 v0
                  go_wp2
                  rw [← hwe]
                  clear hwe u2 v2
                  go_meet
                  case rel =>
                    refine ⟨pL, nL, cL, 5, bi, pr, 0, ?_⟩
                    rw [HE.out]
                    exact ⟨HZ.out.1, HZ.out.2.1, by have q := HZ.out.2.1; rw [HBP.out.1, HBP.out.2] at q; exact q, rfl, HSL.out.kept HZ.out.2.2 (by simp), HNL.out, HZ.out.2.2, fun y hy => by have e := (HSL.out.1.lt hy).2; have := HX.out.1; omega⟩
              · by_cases hW2 : W = 2
                · by_cases hn0 : 0 < nL
                  · have hn0' : (0 : Int) < (nL : Int) := by omega
                    as_aux_lemma =>
                      by_cases hn1' : 1 < nL
                      · skip
                        have HE := hideH (show RX = _ from HRX.out.trans (recStep_undo HNA.out hW2 (by rw [← HNL.out]; exact hn0)))
                        subst hW2
                        obtain ⟨m, hm⟩ : ∃ m, m = nL - 1 := ⟨_, rfl⟩
                        have wm : IntKind.i64.wrap ((nL : Int) - 1) = (m : Int) := by have e2 := HW.out.2.2.2.2.2.2.2.2.2.2.2; have e3 := HI2.out; rw [wrap_i64_of (by omega) (by omega)]; omega
                        have hcutm : ∀ w, (Instr.slice 24 (.slice pL nL cL) none (some (.int .i64 (m : Int))) (some (.int .i64 (m : Int)))).run Try.prog w = .ok (.slice pL m m) w := fun w => cut_tight_int w pL nL cL m (by obtain ⟨p', c', e, h3, h4⟩ := Row.shape HSL.out.1; cases e; have := HNL.out; omega)
                        have hrowL : Row wr (w.heap.size + 1) 1 (.slice pL nL cL) nL (i64s x.left) := by have q := HSL.out.1; rw [HNL.out]; rw [HNL.out] at q; exact q
                        have SF : Still wr (w.heap.size + 1) (FF (w.heap.size + 1) (.slice p5 i c5) (.slice p6 i c6)) (.slice pL m m) (x.left.take (x.left.length - 1)) := by
                          refine ⟨?_, fun y hy => HSL.out.2 y (by cases pL with | none => cases hy | some a => exact hy)⟩
                          have q := Row.front hrowL m (by omega) hn0
                          unfold Ns
                          rw [show (x.left.take (x.left.length - 1)).length = m by rw [List.length_take, ← HNL.out]; omega, show i64s (x.left.take (x.left.length - 1)) = (i64s x.left).take (m * 1) by rw [← HNL.out, ← hm, Nat.mul_one]; simp [i64s]]
                          exact q
                        have HSF := hideH SF
                        clear SF hrowL
                        have u0 := HBR.out.cell (j := 0) rfl
                        have v0 := HBR.out.free 0
                        have Bd0 := HBR.out.set 0 (.int .i64 3)
                        obtain ⟨wd, hwd⟩ : ∃ wx, wx = wc.setCell ⟨(X + 1), 0, none⟩ (.int .i64 3) := ⟨_, rfl⟩
                        rw [← hwd] at Bd0
                        have Bd : Blk wd (X + 1) 42 [.int .i64 3, .int .i64 bi, .int .i64 pr, .int .i64 0, .int .i64 0, .int .i64 0, .slice none 0 0, .slice none 0 0, .int .i64 0, .slice none 0 0, .slice none 0 0] := Bd0.1
                        have kd_ := Bd0.2
                        clear Bd0
                        have Bx2 := HBX.out.kept kd_ (by simp)
                        have u2 := Bx2.cell (j := 2) rfl
                        have v2 := Bx2.free 2
                        have Be0 := Bx2.set 2 (.bool true)
                        obtain ⟨we, hwe⟩ : ∃ wx, wx = wd.setCell ⟨X, 2, none⟩ (.bool true) := ⟨_, rfl⟩
                        rw [← hwe] at Be0
                        have Be : Blk we X 34 [.slice (some ⟨gA, 0, none⟩) nA cA, .slice pL nL cL, .bool true] := Be0.1
                        have ke_ := Be0.2
                        clear Be0
                        have u3 := Be.cell (j := 1) rfl
                        have v3 := Be.free 1
                        have Bf0 := Be.set 1 (.slice pL m m)
                        obtain ⟨wf, hwf⟩ : ∃ wx, wx = we.setCell ⟨X, 1, none⟩ (.slice pL m m) := ⟨_, rfl⟩
                        rw [← hwf] at Bf0
                        have Bf : Blk wf X 34 [.slice (some ⟨gA, 0, none⟩) nA cA, .slice pL m m, .bool true] := Bf0.1
                        have kf_ := Bf0.2
                        clear Bf0
                        have Bd2 := (Bd.kept ke_ (by simp)).kept kf_ (by simp)
                        have Kf := ((KWC.out.trans kd_ (fun y hy => .inr (by simp at hy; have := HX.out.1; omega))).trans ke_ (fun y hy => .inr (by simp at hy; have := HX.out.1; omega))).trans kf_ (fun y hy => .inr (by simp at hy; have := HX.out.1; omega))
                        have HNM := @hideH _ (show m = nL - 1 from hm)
                        have HE2 := hideH (show 1 < x.left.length by rw [← HNL.out]; omega)
                        have hn1 : (1 : Int) < (nL : Int) := by omega
                        have wm2 : IntKind.i64.wrap ((nL : Int) - 2) = ((m - 1 : Nat) : Int) := by have e2 := HW.out.2.2.2.2.2.2.2.2.2.2.2; have e3 := HI2.out; rw [wrap_i64_of (by omega) (by omega)]; omega
                        obtain ⟨gL, epL, -, dl, -⟩ := HSL.out.1.at (j := x.left.length - 2) (by have := HE2.out; omega)
                        subst epL
                        obtain ⟨nx, hnx⟩ : ∃ n, n = x.left.getD (x.left.length - 2) 0 := ⟨_, rfl⟩
                        rw [← hnx] at dl
                        rw [show x.left.length - 2 = m - 1 by rw [← HNL.out]; omega] at dl
                        obtain ⟨m1, hm1⟩ : ∃ m1, m1 = m - 1 := ⟨_, rfl⟩
                        rw [← hm1] at wm2 dl
                        have m1a : (0 : Int) ≤ (m1 : Int) := by omega
                        have m1b : (m1 : Int) < (m : Int) := by omega
                        have dl2 := Kf.cell dl (by simp)
                        have HNX := hideH hnx
                        clear hnx dl
                        have x1f := Bf.cell (j := 1) rfl
                        have u8 := Bd2.cell (j := 8) rfl
                        have v8 := Bd2.free 8
                        have Bg0 := Bd2.set 8 (.int .i64 nx)
                        obtain ⟨wg, hwg⟩ : ∃ wx, wx = wf.setCell ⟨(X + 1), 8, none⟩ (.int .i64 nx) := ⟨_, rfl⟩
                        rw [← hwg] at Bg0
                        have Bg : Blk wg (X + 1) 42 [.int .i64 3, .int .i64 bi, .int .i64 pr, .int .i64 0, .int .i64 0, .int .i64 0, .slice none 0 0, .slice none 0 0, .int .i64 nx, .slice none 0 0, .slice none 0 0] := Bg0.1
                        have kg_ := Bg0.2
                        clear Bg0
                        have HZ := @hideH _ (And.intro (Bf.kept kg_ (by simp)) (And.intro Bg (Kf.trans kg_ (fun y hy => .inr (by simp at hy; have := HX.out.1; omega)))))
                        clear Bd Bd2 Be Bx2 Bf Bg kd_ ke_ kf_ kg_ Kf hm hm1
                        go_upto_region 22 with fail
                        rw [← hwd]
                        clear hwd u0 v0
                        go_upto_region 23 with fail
                        rw [← hwe]
                        clear hwe u2 v2
                        go_upto_region 24 with fail
                        rw [← hwf]
                        clear hwf u3 v3
                        go_wp2
                        rw [← hwg]
                        clear hwg u8 v8 dl2 x1f
                        rw [if_pos HE2.out, ← HNX.out] at HE
                        go_meet
                        case rel =>
                          refine ⟨(some ⟨gL, 0, none⟩), m, m, 3, bi, pr, nx, ?_⟩
                          rw [HE.out]
                          exact ⟨HZ.out.1, HZ.out.2.1, by have q := HZ.out.2.1; rw [HBP.out.1, HBP.out.2] at q; exact q, rfl, HSF.out.kept HZ.out.2.2 (by simp), by rw [HNM.out]; rw [List.length_take, ← HNL.out]; omega, HZ.out.2.2, fun y hy => by have e := (HSF.out.1.lt hy).2; have := HX.out.1; omega⟩
                      · skip
                        have HE := hideH (show RX = _ from HRX.out.trans (recStep_undo HNA.out hW2 (by rw [← HNL.out]; exact hn0)))
                        subst hW2
                        obtain ⟨m, hm⟩ : ∃ m, m = nL - 1 := ⟨_, rfl⟩
                        have wm : IntKind.i64.wrap ((nL : Int) - 1) = (m : Int) := by have e2 := HW.out.2.2.2.2.2.2.2.2.2.2.2; have e3 := HI2.out; rw [wrap_i64_of (by omega) (by omega)]; omega
                        have hcutm : ∀ w, (Instr.slice 24 (.slice pL nL cL) none (some (.int .i64 (m : Int))) (some (.int .i64 (m : Int)))).run Try.prog w = .ok (.slice pL m m) w := fun w => cut_tight_int w pL nL cL m (by obtain ⟨p', c', e, h3, h4⟩ := Row.shape HSL.out.1; cases e; have := HNL.out; omega)
                        have hrowL : Row wr (w.heap.size + 1) 1 (.slice pL nL cL) nL (i64s x.left) := by have q := HSL.out.1; rw [HNL.out]; rw [HNL.out] at q; exact q
                        have SF : Still wr (w.heap.size + 1) (FF (w.heap.size + 1) (.slice p5 i c5) (.slice p6 i c6)) (.slice pL m m) (x.left.take (x.left.length - 1)) := by
                          refine ⟨?_, fun y hy => HSL.out.2 y (by cases pL with | none => cases hy | some a => exact hy)⟩
                          have q := Row.front hrowL m (by omega) hn0
                          unfold Ns
                          rw [show (x.left.take (x.left.length - 1)).length = m by rw [List.length_take, ← HNL.out]; omega, show i64s (x.left.take (x.left.length - 1)) = (i64s x.left).take (m * 1) by rw [← HNL.out, ← hm, Nat.mul_one]; simp [i64s]]
                          exact q
                        have HSF := hideH SF
                        clear SF hrowL
                        have u0 := HBR.out.cell (j := 0) rfl
                        have v0 := HBR.out.free 0
                        have Bd0 := HBR.out.set 0 (.int .i64 3)
                        obtain ⟨wd, hwd⟩ : ∃ wx, wx = wc.setCell ⟨(X + 1), 0, none⟩ (.int .i64 3) := ⟨_, rfl⟩
                        rw [← hwd] at Bd0
                        have Bd : Blk wd (X + 1) 42 [.int .i64 3, .int .i64 bi, .int .i64 pr, .int .i64 0, .int .i64 0, .int .i64 0, .slice none 0 0, .slice none 0 0, .int .i64 0, .slice none 0 0, .slice none 0 0] := Bd0.1
                        have kd_ := Bd0.2
                        clear Bd0
                        have Bx2 := HBX.out.kept kd_ (by simp)
                        have u2 := Bx2.cell (j := 2) rfl
                        have v2 := Bx2.free 2
                        have Be0 := Bx2.set 2 (.bool true)
                        obtain ⟨we, hwe⟩ : ∃ wx, wx = wd.setCell ⟨X, 2, none⟩ (.bool true) := ⟨_, rfl⟩
                        rw [← hwe] at Be0
                        have Be : Blk we X 34 [.slice (some ⟨gA, 0, none⟩) nA cA, .slice pL nL cL, .bool true] := Be0.1
                        have ke_ := Be0.2
                        clear Be0
                        have u3 := Be.cell (j := 1) rfl
                        have v3 := Be.free 1
                        have Bf0 := Be.set 1 (.slice pL m m)
                        obtain ⟨wf, hwf⟩ : ∃ wx, wx = we.setCell ⟨X, 1, none⟩ (.slice pL m m) := ⟨_, rfl⟩
                        rw [← hwf] at Bf0
                        have Bf : Blk wf X 34 [.slice (some ⟨gA, 0, none⟩) nA cA, .slice pL m m, .bool true] := Bf0.1
                        have kf_ := Bf0.2
                        clear Bf0
                        have Bd2 := (Bd.kept ke_ (by simp)).kept kf_ (by simp)
                        have Kf := ((KWC.out.trans kd_ (fun y hy => .inr (by simp at hy; have := HX.out.1; omega))).trans ke_ (fun y hy => .inr (by simp at hy; have := HX.out.1; omega))).trans kf_ (fun y hy => .inr (by simp at hy; have := HX.out.1; omega))
                        have HNM := @hideH _ (show m = nL - 1 from hm)
                        have HE2 := hideH (show ¬ 1 < x.left.length by rw [← HNL.out]; omega)
                        have hn1 : ¬ (1 : Int) < (nL : Int) := by omega
                        have HZ := @hideH _ (And.intro Bf (And.intro Bd2 Kf))
                        clear Bd Bd2 Be Bx2 Bf kd_ ke_ kf_ Kf hm
                        go_upto_region 22 with fail
                        rw [← hwd]
                        clear hwd u0 v0
                        go_upto_region 23 with fail
                        rw [← hwe]
                        clear hwe u2 v2
                        go_upto_region 24 with fail
                        rw [← hwf]
                        clear hwf u3 v3
                        go_wp2
                        rw [if_neg HE2.out] at HE
                        go_meet
                        case rel =>
                          refine ⟨pL, m, m, 3, bi, pr, 0, ?_⟩
                          rw [HE.out]
                          exact ⟨HZ.out.1, HZ.out.2.1, by have q := HZ.out.2.1; rw [HBP.out.1, HBP.out.2] at q; exact q, rfl, HSF.out.kept HZ.out.2.2 (by simp), by rw [HNM.out]; rw [List.length_take, ← HNL.out]; omega, HZ.out.2.2, fun y hy => by have e := (HSF.out.1.lt hy).2; have := HX.out.1; omega⟩
                  · have hn0' : ¬ (0 : Int) < (nL : Int) := by omega
                    have hW3 : ¬ W = 3 := by omega
                    have HHW := @hideH _ (And.intro hW1 (And.intro hn0 hW3))
                    subst hW2
                    as_aux_lemma =>
                      have HE := hideH (show RX = _ from HRX.out.trans (recStep_more HNA.out (fun c => HHW.out.1 c.1) (fun c => HHW.out.2.1 (by rw [HNL.out]; exact c.2)) (fun c => by rcases c with c | c; (exact HHW.out.2.2 c); (rw [← HEB.out] at c; exact nomatch c))))
                      have hcutm : ∀ w, (Instr.slice 24 (.slice pL nL cL) none (some (.int .i64 (nL : Int))) (some (.int .i64 (nL : Int)))).run Try.prog w = .ok (.slice pL nL nL) w := fun w => cut_tight_int w pL nL cL nL (by obtain ⟨p', c', e, h3, h4⟩ := Row.shape HSL.out.1; cases e; have := HNL.out; omega)
                      have hrowL : Row wr (w.heap.size + 1) 1 (.slice pL nL cL) nL (i64s x.left) := by have q := HSL.out.1; rw [HNL.out]; rw [HNL.out] at q; exact q
                      have hrow1 := Row.kept (Row.tight hrowL) KWC.out (by simp)
                      have HB2 := @hideH _ (show nL ≤ 300 from by have e2 := HW.out.2.2.2.2.2.2.2.2.2.2.2; have e3 := HI2.out; omega)
                      clear hrowL
                      have hsrc := src_i64 (P := Try.prog) wc 24 3 Try.underlying24 M
                      have ka : Kept [] wc (wc.alloc (.cells #[.int .i64 M] 3)) := (Kept.refl [] wc).alloc _
                      have hrow2 := Row.kept hrow1 ka (by simp)
                      go_wp2_with (at_builtin; refine wpList_append_tight rfl (.tmp 78) (.tmp 80) 24 rfl (w.heap.size + 1) 3 inf (.int .i64 0) 1 8 Try.underlying24 HI.out.1 HI.out.2.1 HI.out.2.2.1 HI.out.2.2.2 rfl _ _ _ (by rfl) hrow2 _ 1 (by omega) [.int .i64 M] (by rfl) hsrc (by have := HB2.out; omega) (by have := HB2.out; unfold maxLen; omega) (by have := HB2.out; omega) ?_; intro v7 w7 r7 o7 k7; obtain ⟨p7, c7, hv7, -⟩ := Row.shape r7; subst hv7; have B7 := (HBX.out.kept ka (by simp)).kept k7 (by simp); have u1 := B7.cell (j := 1) rfl; have v1 := B7.free 1; have H7 := @hideH _ (And.intro r7 (And.intro o7 (And.intro (ka.then k7) B7))); clear r7 o7 k7 B7 hrow2 hrow1 hsrc ka)
                      have Bd0 := H7.out.2.2.2.set 1 (.slice p7 (nL + 1) c7)
                      obtain ⟨wd, hwd⟩ : ∃ wx, wx = w7.setCell ⟨X, 1, none⟩ (.slice p7 (nL + 1) c7) := ⟨_, rfl⟩
                      rw [← hwd] at Bd0
                      have Bd : Blk wd X 34 [.slice (some ⟨gA, 0, none⟩) nA cA, .slice p7 (nL + 1) c7, .bool false] := Bd0.1
                      have kd_ := Bd0.2
                      clear Bd0
                      try rw [← hwd]
                      have Kf : Kept [] wr wd := (KWC.out.then H7.out.2.2.1).trans kd_ (fun y hy => .inr (by simp at hy; have := HX.out.1; omega))
                      have wcs := KWC.out.size
                      have o7' : ∀ y, (Value.slice p7 (nL + 1) c7).ownBlock = some y → wr.heap.size < y := fun y hy => by
                        rw [H7.out.2.1] at hy
                        have e := Option.some.inj hy
                        rw [World.size_alloc] at e
                        omega
                      have n7 : Ns w7 (w.heap.size + 1) (.slice p7 (nL + 1) c7) (x.left ++ [M]) := (Ns.push HNL.out H7.out.1).mono (by rw [World.size_alloc]; have := HX.out; omega)
                      have S7 : Still wd (w.heap.size + 1) (FF (w.heap.size + 1) (.slice p5 i c5) (.slice p6 i c6)) (.slice p7 (nL + 1) c7) (x.left ++ [M]) := ⟨n7.kept kd_ (fun y hy hm => by simp at hm; have := o7' y hy; have := HX.out.1; omega), fun y hy hm => by have e1 := o7' y hy; have e2 := HW.out.1.lt y hm; omega⟩
                      have HZ := @hideH _ (And.intro Bd (And.intro ((HBR.out.kept H7.out.2.2.1 (by simp)).kept kd_ (by simp)) Kf))
                      have HS7 := hideH S7
                      have HO7 := @hideH _ (show ∀ y, (Value.slice p7 (nL + 1) c7).ownBlock = some y → X + 1 < y from fun y hy => by rw [H7.out.2.1] at hy; have e := Option.some.inj hy; rw [World.size_alloc] at e; have e2 := HBR.out.lt; omega)
                      clear Bd kd_ Kf wcs o7' n7 S7 hwd
                      rw [show x.back = false from HEB.out.symm] at HE
                      go_meet
                      case rel =>
                        refine ⟨p7, (nL + 1), c7, 2, bi, pr, 0, ?_⟩
                        rw [HE.out]
                        exact ⟨HZ.out.1, HZ.out.2.1, by have q := HZ.out.2.1; rw [HBP.out.1, HBP.out.2] at q; exact q, rfl, HS7.out, by rw [List.length_append, HNL.out]; rfl, HZ.out.2.2, fun y hy => by have := HO7.out y hy; omega⟩
                · by_cases hW3 : W = 3
                  · have HHW := @hideH _ (And.intro hW1 hW2)
                    have HW3 := hideH hW3
                    subst hW3
                    as_aux_lemma =>
                      have HE := hideH (show RX = _ from HRX.out.trans (recStep_end HNA.out (fun c => HHW.out.1 c.1) (fun c => HHW.out.2 c.1) (.inl HW3.out)))
                      have u0 := HBR.out.cell (j := 0) rfl
                      have v0 := HBR.out.free 0
                      have Bd0 := HBR.out.set 0 (.int .i64 6)
                      obtain ⟨wd, hwd⟩ : ∃ wx, wx = wc.setCell ⟨(X + 1), 0, none⟩ (.int .i64 6) := ⟨_, rfl⟩
                      rw [← hwd] at Bd0
                      have Bd : Blk wd (X + 1) 42 [.int .i64 6, .int .i64 bi, .int .i64 pr, .int .i64 0, .int .i64 0, .int .i64 0, .slice none 0 0, .slice none 0 0, .int .i64 0, .slice none 0 0, .slice none 0 0] := Bd0.1
                      have kd_ := Bd0.2
                      clear Bd0
                      have HZ := @hideH _ (And.intro (HBX.out.kept kd_ (by simp)) (And.intro Bd (KWC.out.trans kd_ (fun y hy => .inr (by simp at hy; have := HX.out.1; omega)))))
                      rw [HEB.out] at HZ
                      clear Bd kd_
                      go_wp2
                      rw [← hwd]
                      clear hwd u0 v0
                      go_meet
                      case rel =>
                        refine ⟨pL, nL, cL, 6, bi, pr, 0, ?_⟩
                        rw [HE.out]
                        exact ⟨HZ.out.1, HZ.out.2.1, by have q := HZ.out.2.1; rw [HBP.out.1, HBP.out.2] at q; exact q, rfl, HSL.out.kept HZ.out.2.2 (by simp), HNL.out, HZ.out.2.2, fun y hy => by have e := (HSL.out.1.lt hy).2; have := HX.out.1; omega⟩
                  · have HHW := @hideH _ (And.intro hW1 (And.intro hW2 hW3))
                    have hW1' : (W == 1) = false := by simpa using hW1
                    have hW2' : (W == 2) = false := by simpa using hW2
                    have hW3' : (W == 3) = false := by simpa using hW3
                    clear hW1 hW2 hW3
                    as_aux_lemma =>
                      have HE := hideH (show RX = _ from HRX.out.trans (recStep_more HNA.out (fun c => HHW.out.1 c.1) (fun c => HHW.out.2.1 c.1) (fun c => by rcases c with c | c; (exact HHW.out.2.2 c); (rw [← HEB.out] at c; exact nomatch c))))
                      have hcutm : ∀ w, (Instr.slice 24 (.slice pL nL cL) none (some (.int .i64 (nL : Int))) (some (.int .i64 (nL : Int)))).run Try.prog w = .ok (.slice pL nL nL) w := fun w => cut_tight_int w pL nL cL nL (by obtain ⟨p', c', e, h3, h4⟩ := Row.shape HSL.out.1; cases e; have := HNL.out; omega)
                      have hrowL : Row wr (w.heap.size + 1) 1 (.slice pL nL cL) nL (i64s x.left) := by have q := HSL.out.1; rw [HNL.out]; rw [HNL.out] at q; exact q
                      have hrow1 := Row.kept (Row.tight hrowL) KWC.out (by simp)
                      have HB2 := @hideH _ (show nL ≤ 300 from by have e2 := HW.out.2.2.2.2.2.2.2.2.2.2.2; have e3 := HI2.out; omega)
                      clear hrowL
                      have hsrc := src_i64 (P := Try.prog) wc 24 3 Try.underlying24 M
                      have ka : Kept [] wc (wc.alloc (.cells #[.int .i64 M] 3)) := (Kept.refl [] wc).alloc _
                      have hrow2 := Row.kept hrow1 ka (by simp)
                      go_wp2_with (at_builtin; refine wpList_append_tight rfl (.tmp 78) (.tmp 80) 24 rfl (w.heap.size + 1) 3 inf (.int .i64 0) 1 8 Try.underlying24 HI.out.1 HI.out.2.1 HI.out.2.2.1 HI.out.2.2.2 rfl _ _ _ (by rfl) hrow2 _ 1 (by omega) [.int .i64 M] (by rfl) hsrc (by have := HB2.out; omega) (by have := HB2.out; unfold maxLen; omega) (by have := HB2.out; omega) ?_; intro v7 w7 r7 o7 k7; obtain ⟨p7, c7, hv7, -⟩ := Row.shape r7; subst hv7; have B7 := (HBX.out.kept ka (by simp)).kept k7 (by simp); have u1 := B7.cell (j := 1) rfl; have v1 := B7.free 1; have H7 := @hideH _ (And.intro r7 (And.intro o7 (And.intro (ka.then k7) B7))); clear r7 o7 k7 B7 hrow2 hrow1 hsrc ka)
                      have Bd0 := H7.out.2.2.2.set 1 (.slice p7 (nL + 1) c7)
                      obtain ⟨wd, hwd⟩ : ∃ wx, wx = w7.setCell ⟨X, 1, none⟩ (.slice p7 (nL + 1) c7) := ⟨_, rfl⟩
                      rw [← hwd] at Bd0
                      have Bd : Blk wd X 34 [.slice (some ⟨gA, 0, none⟩) nA cA, .slice p7 (nL + 1) c7, .bool false] := Bd0.1
                      have kd_ := Bd0.2
                      clear Bd0
                      try rw [← hwd]
                      have Kf : Kept [] wr wd := (KWC.out.then H7.out.2.2.1).trans kd_ (fun y hy => .inr (by simp at hy; have := HX.out.1; omega))
                      have wcs := KWC.out.size
                      have o7' : ∀ y, (Value.slice p7 (nL + 1) c7).ownBlock = some y → wr.heap.size < y := fun y hy => by
                        rw [H7.out.2.1] at hy
                        have e := Option.some.inj hy
                        rw [World.size_alloc] at e
                        omega
                      have n7 : Ns w7 (w.heap.size + 1) (.slice p7 (nL + 1) c7) (x.left ++ [M]) := (Ns.push HNL.out H7.out.1).mono (by rw [World.size_alloc]; have := HX.out; omega)
                      have S7 : Still wd (w.heap.size + 1) (FF (w.heap.size + 1) (.slice p5 i c5) (.slice p6 i c6)) (.slice p7 (nL + 1) c7) (x.left ++ [M]) := ⟨n7.kept kd_ (fun y hy hm => by simp at hm; have := o7' y hy; have := HX.out.1; omega), fun y hy hm => by have e1 := o7' y hy; have e2 := HW.out.1.lt y hm; omega⟩
                      have HZ := @hideH _ (And.intro Bd (And.intro ((HBR.out.kept H7.out.2.2.1 (by simp)).kept kd_ (by simp)) Kf))
                      have HS7 := hideH S7
                      have HO7 := @hideH _ (show ∀ y, (Value.slice p7 (nL + 1) c7).ownBlock = some y → X + 1 < y from fun y hy => by rw [H7.out.2.1] at hy; have e := Option.some.inj hy; rw [World.size_alloc] at e; have e2 := HBR.out.lt; omega)
                      clear Bd kd_ Kf wcs o7' n7 S7 hwd
                      rw [show x.back = false from HEB.out.symm] at HE
                      go_meet
                      case rel =>
                        refine ⟨p7, (nL + 1), c7, 2, bi, pr, 0, ?_⟩
                        rw [HE.out]
                        exact ⟨HZ.out.1, HZ.out.2.1, by have q := HZ.out.2.1; rw [HBP.out.1, HBP.out.2] at q; exact q, rfl, HS7.out, by rw [List.length_append, HNL.out]; rfl, HZ.out.2.2, fun y hy => by have := HO7.out y hy; omega⟩
            | true =>
              by_cases hW2 : W = 2
              · by_cases hn0 : 0 < nL
                · have hn0' : (0 : Int) < (nL : Int) := by omega
                  as_aux_lemma =>
                    by_cases hn1' : 1 < nL
                    · skip
                      have HE := hideH (show RX = _ from HRX.out.trans (recStep_undo HNA.out hW2 (by rw [← HNL.out]; exact hn0)))
                      subst hW2
                      obtain ⟨m, hm⟩ : ∃ m, m = nL - 1 := ⟨_, rfl⟩
                      have wm : IntKind.i64.wrap ((nL : Int) - 1) = (m : Int) := by have e2 := HW.out.2.2.2.2.2.2.2.2.2.2.2; have e3 := HI2.out; rw [wrap_i64_of (by omega) (by omega)]; omega
                      have hcutm : ∀ w, (Instr.slice 24 (.slice pL nL cL) none (some (.int .i64 (m : Int))) (some (.int .i64 (m : Int)))).run Try.prog w = .ok (.slice pL m m) w := fun w => cut_tight_int w pL nL cL m (by obtain ⟨p', c', e, h3, h4⟩ := Row.shape HSL.out.1; cases e; have := HNL.out; omega)
                      have hrowL : Row wr (w.heap.size + 1) 1 (.slice pL nL cL) nL (i64s x.left) := by have q := HSL.out.1; rw [HNL.out]; rw [HNL.out] at q; exact q
                      have SF : Still wr (w.heap.size + 1) (FF (w.heap.size + 1) (.slice p5 i c5) (.slice p6 i c6)) (.slice pL m m) (x.left.take (x.left.length - 1)) := by
                        refine ⟨?_, fun y hy => HSL.out.2 y (by cases pL with | none => cases hy | some a => exact hy)⟩
                        have q := Row.front hrowL m (by omega) hn0
                        unfold Ns
                        rw [show (x.left.take (x.left.length - 1)).length = m by rw [List.length_take, ← HNL.out]; omega, show i64s (x.left.take (x.left.length - 1)) = (i64s x.left).take (m * 1) by rw [← HNL.out, ← hm, Nat.mul_one]; simp [i64s]]
                        exact q
                      have HSF := hideH SF
                      clear SF hrowL
                      have u0 := HBR.out.cell (j := 0) rfl
                      have v0 := HBR.out.free 0
                      have Bd0 := HBR.out.set 0 (.int .i64 3)
                      obtain ⟨wd, hwd⟩ : ∃ wx, wx = wc.setCell ⟨(X + 1), 0, none⟩ (.int .i64 3) := ⟨_, rfl⟩
                      rw [← hwd] at Bd0
                      have Bd : Blk wd (X + 1) 42 [.int .i64 3, .int .i64 bi, .int .i64 pr, .int .i64 0, .int .i64 0, .int .i64 0, .slice none 0 0, .slice none 0 0, .int .i64 0, .slice none 0 0, .slice none 0 0] := Bd0.1
                      have kd_ := Bd0.2
                      clear Bd0
                      have Bx2 := HBX.out.kept kd_ (by simp)
                      have u2 := Bx2.cell (j := 2) rfl
                      have v2 := Bx2.free 2
                      have Be0 := Bx2.set 2 (.bool true)
                      obtain ⟨we, hwe⟩ : ∃ wx, wx = wd.setCell ⟨X, 2, none⟩ (.bool true) := ⟨_, rfl⟩
                      rw [← hwe] at Be0
                      have Be : Blk we X 34 [.slice (some ⟨gA, 0, none⟩) nA cA, .slice pL nL cL, .bool true] := Be0.1
                      have ke_ := Be0.2
                      clear Be0
                      have u3 := Be.cell (j := 1) rfl
                      have v3 := Be.free 1
                      have Bf0 := Be.set 1 (.slice pL m m)
                      obtain ⟨wf, hwf⟩ : ∃ wx, wx = we.setCell ⟨X, 1, none⟩ (.slice pL m m) := ⟨_, rfl⟩
                      rw [← hwf] at Bf0
                      have Bf : Blk wf X 34 [.slice (some ⟨gA, 0, none⟩) nA cA, .slice pL m m, .bool true] := Bf0.1
                      have kf_ := Bf0.2
                      clear Bf0
                      have Bd2 := (Bd.kept ke_ (by simp)).kept kf_ (by simp)
                      have Kf := ((KWC.out.trans kd_ (fun y hy => .inr (by simp at hy; have := HX.out.1; omega))).trans ke_ (fun y hy => .inr (by simp at hy; have := HX.out.1; omega))).trans kf_ (fun y hy => .inr (by simp at hy; have := HX.out.1; omega))
                      have HNM := @hideH _ (show m = nL - 1 from hm)
                      have HE2 := hideH (show 1 < x.left.length by rw [← HNL.out]; omega)
                      have hn1 : (1 : Int) < (nL : Int) := by omega
                      have wm2 : IntKind.i64.wrap ((nL : Int) - 2) = ((m - 1 : Nat) : Int) := by have e2 := HW.out.2.2.2.2.2.2.2.2.2.2.2; have e3 := HI2.out; rw [wrap_i64_of (by omega) (by omega)]; omega
                      obtain ⟨gL, epL, -, dl, -⟩ := HSL.out.1.at (j := x.left.length - 2) (by have := HE2.out; omega)
                      subst epL
                      obtain ⟨nx, hnx⟩ : ∃ n, n = x.left.getD (x.left.length - 2) 0 := ⟨_, rfl⟩
                      rw [← hnx] at dl
                      rw [show x.left.length - 2 = m - 1 by rw [← HNL.out]; omega] at dl
                      obtain ⟨m1, hm1⟩ : ∃ m1, m1 = m - 1 := ⟨_, rfl⟩
                      rw [← hm1] at wm2 dl
                      have m1a : (0 : Int) ≤ (m1 : Int) := by omega
                      have m1b : (m1 : Int) < (m : Int) := by omega
                      have dl2 := Kf.cell dl (by simp)
                      have HNX := hideH hnx
                      clear hnx dl
                      have x1f := Bf.cell (j := 1) rfl
                      have u8 := Bd2.cell (j := 8) rfl
                      have v8 := Bd2.free 8
                      have Bg0 := Bd2.set 8 (.int .i64 nx)
                      obtain ⟨wg, hwg⟩ : ∃ wx, wx = wf.setCell ⟨(X + 1), 8, none⟩ (.int .i64 nx) := ⟨_, rfl⟩
                      rw [← hwg] at Bg0
                      have Bg : Blk wg (X + 1) 42 [.int .i64 3, .int .i64 bi, .int .i64 pr, .int .i64 0, .int .i64 0, .int .i64 0, .slice none 0 0, .slice none 0 0, .int .i64 nx, .slice none 0 0, .slice none 0 0] := Bg0.1
                      have kg_ := Bg0.2
                      clear Bg0
                      have HZ := @hideH _ (And.intro (Bf.kept kg_ (by simp)) (And.intro Bg (Kf.trans kg_ (fun y hy => .inr (by simp at hy; have := HX.out.1; omega)))))
                      clear Bd Bd2 Be Bx2 Bf Bg kd_ ke_ kf_ kg_ Kf hm hm1
                      go_upto_region 22 with fail
                      rw [← hwd]
                      clear hwd u0 v0
                      go_upto_region 23 with fail
                      rw [← hwe]
                      clear hwe u2 v2
                      go_upto_region 24 with fail
                      rw [← hwf]
                      clear hwf u3 v3
                      go_wp2
                      rw [← hwg]
                      clear hwg u8 v8 dl2 x1f
                      rw [if_pos HE2.out, ← HNX.out] at HE
                      go_meet
                      case rel =>
                        refine ⟨(some ⟨gL, 0, none⟩), m, m, 3, bi, pr, nx, ?_⟩
                        rw [HE.out]
                        exact ⟨HZ.out.1, HZ.out.2.1, by have q := HZ.out.2.1; rw [HBP.out.1, HBP.out.2] at q; exact q, rfl, HSF.out.kept HZ.out.2.2 (by simp), by rw [HNM.out]; rw [List.length_take, ← HNL.out]; omega, HZ.out.2.2, fun y hy => by have e := (HSF.out.1.lt hy).2; have := HX.out.1; omega⟩
                    · skip
                      have HE := hideH (show RX = _ from HRX.out.trans (recStep_undo HNA.out hW2 (by rw [← HNL.out]; exact hn0)))
                      subst hW2
                      obtain ⟨m, hm⟩ : ∃ m, m = nL - 1 := ⟨_, rfl⟩
                      have wm : IntKind.i64.wrap ((nL : Int) - 1) = (m : Int) := by have e2 := HW.out.2.2.2.2.2.2.2.2.2.2.2; have e3 := HI2.out; rw [wrap_i64_of (by omega) (by omega)]; omega
                      have hcutm : ∀ w, (Instr.slice 24 (.slice pL nL cL) none (some (.int .i64 (m : Int))) (some (.int .i64 (m : Int)))).run Try.prog w = .ok (.slice pL m m) w := fun w => cut_tight_int w pL nL cL m (by obtain ⟨p', c', e, h3, h4⟩ := Row.shape HSL.out.1; cases e; have := HNL.out; omega)
                      have hrowL : Row wr (w.heap.size + 1) 1 (.slice pL nL cL) nL (i64s x.left) := by have q := HSL.out.1; rw [HNL.out]; rw [HNL.out] at q; exact q
                      have SF : Still wr (w.heap.size + 1) (FF (w.heap.size + 1) (.slice p5 i c5) (.slice p6 i c6)) (.slice pL m m) (x.left.take (x.left.length - 1)) := by
                        refine ⟨?_, fun y hy => HSL.out.2 y (by cases pL with | none => cases hy | some a => exact hy)⟩
                        have q := Row.front hrowL m (by omega) hn0
                        unfold Ns
                        rw [show (x.left.take (x.left.length - 1)).length = m by rw [List.length_take, ← HNL.out]; omega, show i64s (x.left.take (x.left.length - 1)) = (i64s x.left).take (m * 1) by rw [← HNL.out, ← hm, Nat.mul_one]; simp [i64s]]
                        exact q
                      have HSF := hideH SF
                      clear SF hrowL
                      have u0 := HBR.out.cell (j := 0) rfl
                      have v0 := HBR.out.free 0
                      have Bd0 := HBR.out.set 0 (.int .i64 3)
                      obtain ⟨wd, hwd⟩ : ∃ wx, wx = wc.setCell ⟨(X + 1), 0, none⟩ (.int .i64 3) := ⟨_, rfl⟩
                      rw [← hwd] at Bd0
                      have Bd : Blk wd (X + 1) 42 [.int .i64 3, .int .i64 bi, .int .i64 pr, .int .i64 0, .int .i64 0, .int .i64 0, .slice none 0 0, .slice none 0 0, .int .i64 0, .slice none 0 0, .slice none 0 0] := Bd0.1
                      have kd_ := Bd0.2
                      clear Bd0
                      have Bx2 := HBX.out.kept kd_ (by simp)
                      have u2 := Bx2.cell (j := 2) rfl
                      have v2 := Bx2.free 2
                      have Be0 := Bx2.set 2 (.bool true)
                      obtain ⟨we, hwe⟩ : ∃ wx, wx = wd.setCell ⟨X, 2, none⟩ (.bool true) := ⟨_, rfl⟩
                      rw [← hwe] at Be0
                      have Be : Blk we X 34 [.slice (some ⟨gA, 0, none⟩) nA cA, .slice pL nL cL, .bool true] := Be0.1
                      have ke_ := Be0.2
                      clear Be0
                      have u3 := Be.cell (j := 1) rfl
                      have v3 := Be.free 1
                      have Bf0 := Be.set 1 (.slice pL m m)
                      obtain ⟨wf, hwf⟩ : ∃ wx, wx = we.setCell ⟨X, 1, none⟩ (.slice pL m m) := ⟨_, rfl⟩
                      rw [← hwf] at Bf0
                      have Bf : Blk wf X 34 [.slice (some ⟨gA, 0, none⟩) nA cA, .slice pL m m, .bool true] := Bf0.1
                      have kf_ := Bf0.2
                      clear Bf0
                      have Bd2 := (Bd.kept ke_ (by simp)).kept kf_ (by simp)
                      have Kf := ((KWC.out.trans kd_ (fun y hy => .inr (by simp at hy; have := HX.out.1; omega))).trans ke_ (fun y hy => .inr (by simp at hy; have := HX.out.1; omega))).trans kf_ (fun y hy => .inr (by simp at hy; have := HX.out.1; omega))
                      have HNM := @hideH _ (show m = nL - 1 from hm)
                      have HE2 := hideH (show ¬ 1 < x.left.length by rw [← HNL.out]; omega)
                      have hn1 : ¬ (1 : Int) < (nL : Int) := by omega
                      have HZ := @hideH _ (And.intro Bf (And.intro Bd2 Kf))
                      clear Bd Bd2 Be Bx2 Bf kd_ ke_ kf_ Kf hm
                      go_upto_region 22 with fail
                      rw [← hwd]
                      clear hwd u0 v0
                      go_upto_region 23 with fail
                      rw [← hwe]
                      clear hwe u2 v2
                      go_upto_region 24 with fail
                      rw [← hwf]
                      clear hwf u3 v3
                      go_wp2
                      rw [if_neg HE2.out] at HE
                      go_meet
                      case rel =>
                        refine ⟨pL, m, m, 3, bi, pr, 0, ?_⟩
                        rw [HE.out]
                        exact ⟨HZ.out.1, HZ.out.2.1, by have q := HZ.out.2.1; rw [HBP.out.1, HBP.out.2] at q; exact q, rfl, HSF.out.kept HZ.out.2.2 (by simp), by rw [HNM.out]; rw [List.length_take, ← HNL.out]; omega, HZ.out.2.2, fun y hy => by have e := (HSF.out.1.lt hy).2; have := HX.out.1; omega⟩
                · have hn0' : ¬ (0 : Int) < (nL : Int) := by omega
                  have HHW := hideH hn0
                  subst hW2
                  as_aux_lemma =>
                    have HE := hideH (show RX = _ from HRX.out.trans (recStep_end HNA.out (fun c => by rw [← HEB.out] at c; exact nomatch c.2) (fun c => HHW.out (by rw [HNL.out]; exact c.2)) (.inr HEB.out.symm)))
                    have u0 := HBR.out.cell (j := 0) rfl
                    have v0 := HBR.out.free 0
                    have Bd0 := HBR.out.set 0 (.int .i64 6)
                    obtain ⟨wd, hwd⟩ : ∃ wx, wx = wc.setCell ⟨(X + 1), 0, none⟩ (.int .i64 6) := ⟨_, rfl⟩
                    rw [← hwd] at Bd0
                    have Bd : Blk wd (X + 1) 42 [.int .i64 6, .int .i64 bi, .int .i64 pr, .int .i64 0, .int .i64 0, .int .i64 0, .slice none 0 0, .slice none 0 0, .int .i64 0, .slice none 0 0, .slice none 0 0] := Bd0.1
                    have kd_ := Bd0.2
                    clear Bd0
                    have HZ := @hideH _ (And.intro (HBX.out.kept kd_ (by simp)) (And.intro Bd (KWC.out.trans kd_ (fun y hy => .inr (by simp at hy; have := HX.out.1; omega)))))
                    rw [HEB.out] at HZ
                    clear Bd kd_
                    go_wp2
                    rw [← hwd]
                    clear hwd u0 v0
                    go_meet
                    case rel =>
                      refine ⟨pL, nL, cL, 6, bi, pr, 0, ?_⟩
                      rw [HE.out]
                      exact ⟨HZ.out.1, HZ.out.2.1, by have q := HZ.out.2.1; rw [HBP.out.1, HBP.out.2] at q; exact q, rfl, HSL.out.kept HZ.out.2.2 (by simp), HNL.out, HZ.out.2.2, fun y hy => by have e := (HSL.out.1.lt hy).2; have := HX.out.1; omega⟩
              · by_cases hW1 : W = 1
                · have HHW := hideH hW2
                  subst hW1
                  as_aux_lemma =>
                    have HE := hideH (show RX = _ from HRX.out.trans (recStep_end HNA.out (fun c => by rw [← HEB.out] at c; exact nomatch c.2) (fun c => HHW.out c.1) (.inr HEB.out.symm)))
                    have u0 := HBR.out.cell (j := 0) rfl
                    have v0 := HBR.out.free 0
                    have Bd0 := HBR.out.set 0 (.int .i64 6)
                    obtain ⟨wd, hwd⟩ : ∃ wx, wx = wc.setCell ⟨(X + 1), 0, none⟩ (.int .i64 6) := ⟨_, rfl⟩
                    rw [← hwd] at Bd0
                    have Bd : Blk wd (X + 1) 42 [.int .i64 6, .int .i64 bi, .int .i64 pr, .int .i64 0, .int .i64 0, .int .i64 0, .slice none 0 0, .slice none 0 0, .int .i64 0, .slice none 0 0, .slice none 0 0] := Bd0.1
                    have kd_ := Bd0.2
                    clear Bd0
                    have HZ := @hideH _ (And.intro (HBX.out.kept kd_ (by simp)) (And.intro Bd (KWC.out.trans kd_ (fun y hy => .inr (by simp at hy; have := HX.out.1; omega)))))
                    rw [HEB.out] at HZ
                    clear Bd kd_
                    go_wp2
                    rw [← hwd]
                    clear hwd u0 v0
                    go_meet
                    case rel =>
                      refine ⟨pL, nL, cL, 6, bi, pr, 0, ?_⟩
                      rw [HE.out]
                      exact ⟨HZ.out.1, HZ.out.2.1, by have q := HZ.out.2.1; rw [HBP.out.1, HBP.out.2] at q; exact q, rfl, HSL.out.kept HZ.out.2.2 (by simp), HNL.out, HZ.out.2.2, fun y hy => by have e := (HSL.out.1.lt hy).2; have := HX.out.1; omega⟩
                · by_cases hW3 : W = 3
                  · have HHW := hideH hW2
                    subst hW3
                    as_aux_lemma =>
                      have HE := hideH (show RX = _ from HRX.out.trans (recStep_end HNA.out (fun c => by rw [← HEB.out] at c; exact nomatch c.2) (fun c => HHW.out c.1) (.inr HEB.out.symm)))
                      have u0 := HBR.out.cell (j := 0) rfl
                      have v0 := HBR.out.free 0
                      have Bd0 := HBR.out.set 0 (.int .i64 6)
                      obtain ⟨wd, hwd⟩ : ∃ wx, wx = wc.setCell ⟨(X + 1), 0, none⟩ (.int .i64 6) := ⟨_, rfl⟩
                      rw [← hwd] at Bd0
                      have Bd : Blk wd (X + 1) 42 [.int .i64 6, .int .i64 bi, .int .i64 pr, .int .i64 0, .int .i64 0, .int .i64 0, .slice none 0 0, .slice none 0 0, .int .i64 0, .slice none 0 0, .slice none 0 0] := Bd0.1
                      have kd_ := Bd0.2
                      clear Bd0
                      have HZ := @hideH _ (And.intro (HBX.out.kept kd_ (by simp)) (And.intro Bd (KWC.out.trans kd_ (fun y hy => .inr (by simp at hy; have := HX.out.1; omega)))))
                      rw [HEB.out] at HZ
                      clear Bd kd_
                      go_wp2
                      rw [← hwd]
                      clear hwd u0 v0
                      go_meet
                      case rel =>
                        refine ⟨pL, nL, cL, 6, bi, pr, 0, ?_⟩
                        rw [HE.out]
                        exact ⟨HZ.out.1, HZ.out.2.1, by have q := HZ.out.2.1; rw [HBP.out.1, HBP.out.2] at q; exact q, rfl, HSL.out.kept HZ.out.2.2 (by simp), HNL.out, HZ.out.2.2, fun y hy => by have e := (HSL.out.1.lt hy).2; have := HX.out.1; omega⟩
                  · have HHW := hideH hW2
                    have hW1' : (W == 1) = false := by simpa using hW1
                    have hW2' : (W == 2) = false := by simpa using hW2
                    have hW3' : (W == 3) = false := by simpa using hW3
                    clear hW1 hW2 hW3
                    as_aux_lemma =>
                      have HE := hideH (show RX = _ from HRX.out.trans (recStep_end HNA.out (fun c => by rw [← HEB.out] at c; exact nomatch c.2) (fun c => HHW.out c.1) (.inr HEB.out.symm)))
                      have u0 := HBR.out.cell (j := 0) rfl
                      have v0 := HBR.out.free 0
                      have Bd0 := HBR.out.set 0 (.int .i64 6)
                      obtain ⟨wd, hwd⟩ : ∃ wx, wx = wc.setCell ⟨(X + 1), 0, none⟩ (.int .i64 6) := ⟨_, rfl⟩
                      rw [← hwd] at Bd0
                      have Bd : Blk wd (X + 1) 42 [.int .i64 6, .int .i64 bi, .int .i64 pr, .int .i64 0, .int .i64 0, .int .i64 0, .slice none 0 0, .slice none 0 0, .int .i64 0, .slice none 0 0, .slice none 0 0] := Bd0.1
                      have kd_ := Bd0.2
                      clear Bd0
                      have HZ := @hideH _ (And.intro (HBX.out.kept kd_ (by simp)) (And.intro Bd (KWC.out.trans kd_ (fun y hy => .inr (by simp at hy; have := HX.out.1; omega)))))
                      rw [HEB.out] at HZ
                      clear Bd kd_
                      go_wp2
                      rw [← hwd]
                      clear hwd u0 v0
                      go_meet
                      case rel =>
                        refine ⟨pL, nL, cL, 6, bi, pr, 0, ?_⟩
                        rw [HE.out]
                        exact ⟨HZ.out.1, HZ.out.2.1, by have q := HZ.out.2.1; rw [HBP.out.1, HBP.out.2] at q; exact q, rfl, HSL.out.kept HZ.out.2.2 (by simp), HNL.out, HZ.out.2.2, fun y hy => by have e := (HSL.out.1.lt hy).2; have := HX.out.1; omega⟩
      case rest =>
        obtain ⟨pL', nL', cL', kd, bi, pr, nx, hc⟩ := hcut
        clear g0 a1 B3' B4
        have Bx := hc.out.1
        have HC := hideH hc.out
        have KC := hc.out.2.2.2.2.2.2.1
        have x0 := Bx.cell (j := 0) rfl
        have hcutA : ∀ w, (Instr.slice 24 (.slice pA nA cA) none (some (.int .i64 (nA : Int))) (some (.int .i64 (nA : Int)))).run Try.prog w = .ok (.slice pA nA nA) w := fun w => cut_tight_int w pA nA cA nA (by obtain ⟨p', c', e, h3, h4⟩ := Row.shape HW.out.2.2.2.2.1.1; cases e; have := HW.out.2.2.2.2.2.2.2.2.1; omega)
        have hrowA : Row wr (w.heap.size + 1) 1 (.slice pA nA cA) nA (i64s x.all) := by have q := HW.out.2.2.2.2.1.1; have e := HW.out.2.2.2.2.2.2.2.2.1; rw [e]; rw [e] at q; exact q
        have hrow1 := Row.kept (Row.tight hrowA) KC (by simp)
        have HB2 := @hideH _ (show nA ≤ 300 from by have e2 := HW.out.2.2.2.2.2.2.2.2.2.2.1; have e3 := HI2.out; omega)
        clear hrowA
        have hsrc := src_i64 (P := Try.prog) wc 24 3 Try.underlying24 M
        have ka : Kept [] wc (wc.alloc (.cells #[.int .i64 M] 3)) := (Kept.refl [] wc).alloc _
        have hrow2 := Row.kept hrow1 ka (by simp)
        clear Bx hc
        go_upto_region 29 with (at_builtin; refine wpList_append_tight rfl (.tmp 135) (.tmp 137) 24 rfl (w.heap.size + 1) 3 inf (.int .i64 0) 1 8 Try.underlying24 HI.out.1 HI.out.2.1 HI.out.2.2.1 HI.out.2.2.2 rfl _ _ _ (by rfl) hrow2 _ 1 (by omega) [.int .i64 M] (by rfl) hsrc (by have := HB2.out; omega) (by have := HB2.out; unfold maxLen; omega) (by have := HB2.out; omega) ?_; intro v8 w8 r8 o8 k8; obtain ⟨p8, c8, hv8, -⟩ := Row.shape r8; subst hv8; have B8 := (HC.out.1.kept ka (by simp)).kept k8 (by simp); have u1 := B8.cell (j := 0) rfl; have v1 := B8.free 0; have H8 := @hideH _ (And.intro r8 (And.intro o8 (And.intro (ka.then k8) B8))); clear r8 o8 k8 B8 hrow2 hrow1 hsrc ka)
        have B90 := H8.out.2.2.2.set 0 (.slice p8 (nA + 1) c8)
        obtain ⟨w9, hw9⟩ : ∃ wx, wx = w8.setCell ⟨X, 0, none⟩ (.slice p8 (nA + 1) c8) := ⟨_, rfl⟩
        rw [← hw9] at B90
        have B9 : Blk w9 X 34 [.slice p8 (nA + 1) c8, .slice pL' nL' cL', .bool RX.2.back] := B90.1
        have k9_ := B90.2
        clear B90
        rw [← hw9]
        clear hw9 u1 v1 x0 hcutA
        have K9 : Kept [] wr w9 := (KC.then H8.out.2.2.1).trans k9_ (fun y hy => .inr (by simp at hy; have := HX.out.1; omega))
        have wcs := KC.size
        have o8' : ∀ y, (Value.slice p8 (nA + 1) c8).ownBlock = some y → wr.heap.size < y := fun y hy => by
          rw [H8.out.2.1] at hy
          have e := Option.some.inj hy
          rw [World.size_alloc] at e
          omega
        have n8 : Ns w8 (w.heap.size + 1) (.slice p8 (nA + 1) c8) (x.all ++ [M]) := (Ns.push HW.out.2.2.2.2.2.2.2.2.1 H8.out.1).mono (by rw [World.size_alloc]; have := HX.out; omega)
        have S8 : Still w9 (w.heap.size + 1) (FF (w.heap.size + 1) (.slice p5 i c5) (.slice p6 i c6)) (.slice p8 (nA + 1) c8) (x.all ++ [M]) := ⟨n8.kept k9_ (fun y hy hm => by simp at hm; have := o8' y hy; have := HX.out.1; omega), fun y hy hm => by have e1 := o8' y hy; have e2 := HW.out.1.lt y hm; omega⟩
        have BR9 : Blk w9 (X + 1) 42 RX.1.cells := (HC.out.2.2.1.kept H8.out.2.2.1 (by simp)).kept k9_ (by simp)
        have HBRE := @hideH _ (show Blk w9 (X + 1) 42 [.int .i64 kd, .int .i64 bi, .int .i64 pr, .int .i64 RX.1.id, .int .i64 0, .int .i64 0, .slice none 0 0, .slice none 0 0, .int .i64 nx, .slice none 0 0, .slice none 0 0] from (HC.out.2.1.kept H8.out.2.2.1 (by simp)).kept k9_ (by simp))
        have HZ := @hideH _ (And.intro B9 (And.intro BR9 (And.intro K9 (And.intro S8 (show Still w9 (w.heap.size + 1) (FF (w.heap.size + 1) (.slice p5 i c5) (.slice p6 i c6)) (.slice pL' nL' cL') RX.2.left from ⟨(HC.out.2.2.2.2.1.1.kept H8.out.2.2.1 (by simp)).kept k9_ (fun y hy hm => (HC.out.2.2.2.2.2.2.2 y hy).1 (by simpa using hm)), HC.out.2.2.2.2.1.2⟩)))))
        clear K9 wcs o8' n8 S8 BR9 KC k9_
        obtain ⟨g8, ep8, -, -, -⟩ := HZ.out.2.2.2.1.1.at (j := 0) (by simp)
        subst ep8
        have y0 := B9.cell (j := 0) rfl
        have wAA : IntKind.i64.wrap (nA : Int) = (nA : Int) := wrap_i64_of (by omega) (by have := HB2.out; omega)
        clear B9
        go_wp2
        obtain ⟨al, hal⟩ : ∃ al, al = x.all ++ [M] := ⟨_, rfl⟩
        have HAL := @hideH _ (And.intro hal (show al.length = nA + 1 by rw [hal, List.length_append, ← HW.out.2.2.2.2.2.2.2.2.1]; rfl))
        clear hal
        obtain ⟨wo, rfl⟩ : ∃ wo, wo = wr := ⟨_, rfl⟩
        go_loopw [15, 16] (fun va vj wq => ∃ (s t : Nat) (pw : Option Addr) (cw : Nat), s ≤ nA + 1 ∧ va = .slice pw t cw ∧ vj = .int .i64 ((s : Int) - 1) ∧ Hid (t + s = nA + 1 ∧ Ns wq w9.heap.size (.slice pw t cw) (al.reverse.take t) ∧ Kept [] w9 wq)) (fun _ vj _ => (intOf vj + 1).toNat)
        case atStart => exact ⟨nA + 1, 0, none, 0, Nat.le_refl _, rfl, by go_num, by omega, by simpa using Ns.nil w9 w9.heap.size, Kept.refl _ _⟩
        case round =>
          obtain ⟨s, t, pw, cw, hs, rfl, rfl, hh⟩ := hrel
          by_cases hs0 : s = 0
          case neg =>
            obtain ⟨z, rfl⟩ : ∃ z, s = z + 1 := ⟨s - 1, by omega⟩
            rw [show (((z + 1 : Nat) : Int) - 1) = (z : Int) by omega]
            have hz0 : (0 : Int) ≤ (z : Int) := by omega
            have hzn : (z : Int) < (nA : Int) + 1 := by omega
            have wz : IntKind.i64.wrap ((z : Int) - 1) = (z : Int) - 1 := wrap_i64_of (by omega) (by have := HB2.out; omega)
            obtain ⟨g9, ep9, -, cz, -⟩ := HZ.out.2.2.2.1.1.at (j := z) (by simp; have := HW.out.2.2.2.2.2.2.2.2.1; omega)
            cases ep9
            rw [← HAL.out.1] at cz
            obtain ⟨y, hy⟩ : ∃ y, y = al.getD z 0 := ⟨_, rfl⟩
            rw [← hy] at cz
            have cz2 := hh.out.2.2.cell cz (by simp)
            have y1 := hh.out.2.2.cell y0 (by simp)
            have HT := @hideH _ (show al.reverse.take (t + 1) = al.reverse.take t ++ [y] by rw [take_snoc (by rw [List.length_reverse, HAL.out.2]; have := hh.out.1; omega), List.getD_eq_getElem?_getD, List.getElem?_reverse (by rw [HAL.out.2]; have := hh.out.1; omega), HAL.out.2, hy, List.getD_eq_getElem?_getD, show nA + 1 - 1 - t = z by have := hh.out.1; omega])
            have htl : (al.reverse.take t).length = t := by rw [List.length_take, List.length_reverse, HAL.out.2]; have := hh.out.1; omega
            have hrow : Row wr w9.heap.size 1 (.slice pw t cw) t (i64s (al.reverse.take t)) := by have q := hh.out.2.1; unfold Ns at q; rw [htl] at q; exact q
            have HB3 := @hideH _ (And.intro (show t ≤ 300 from by have e1 := hh.out.1; have e2 := HB2.out; omega) htl.symm)
            have hbs := hh.out.2.2.size
            have HHK := hideH hh.out
            clear hy htl cz hh
            have hsrc10 := src_i64 (P := Try.prog) wr 24 3 Try.underlying24 y
            have ka10 : Kept [] wr (wr.alloc (.cells #[.int .i64 y] 3)) := (Kept.refl [] wr).alloc _
            have hrow10 : Row (wr.alloc (.cells #[.int .i64 y] 3)) w9.heap.size 1 (.slice pw t cw) t (i64s (al.reverse.take t)) := Row.kept hrow ka10 (by simp)
            go_wp2_with (at_builtin; refine wpList_append_row2 rfl (.tmp 148) (.tmp 154) 24 rfl w9.heap.size 3 inf (.int .i64 0) 1 8 Try.underlying24 HI.out.1 HI.out.2.1 HI.out.2.2.1 HI.out.2.2.2 rfl _ _ _ (by rfl) hrow10 _ 1 [.int .i64 y] (by rfl) hsrc10 (by have := HB3.out.1; omega) (by have := HB3.out.1; unfold maxLen; omega) (by have := HB3.out.1; omega) (by have := hbs; rw [World.size_alloc]; omega) ?_; intro v10 w10 r10 k10 at10; obtain ⟨p10, c10, hv10, -⟩ := Row.shape r10; subst hv10; have H10 := @hideH _ (And.intro r10 (And.intro k10 ka10)); clear r10 k10 ka10 at10; clear hrow10 hsrc10)
            go_roundw
            case rel =>
              refine ⟨z, t + 1, _, _, by omega, rfl, rfl, ?_⟩
              exact ⟨by have := HHK.out.1; omega, by rw [HT.out]; exact Ns.push HB3.out.2 H10.out.1, (HHK.out.2.2.then H10.out.2.2).trans H10.out.2.1 (fun y hy => .inr (Ns.lt HHK.out.2.1 (by simpa using hy)).1)⟩
            case measure => first | (simp [intOf]; done) | (simp [intOf]; omega)
          case pos =>
            subst hs0
            rw [show (((0 : Nat) : Int) - 1) = -1 from rfl]
            have et : t = nA + 1 := by have := hh.out.1; omega
            subst et
            have nW := hh.out.2.1
            rw [List.take_of_length_le (by rw [List.length_reverse, HAL.out.2]; exact Nat.le_refl _)] at nW
            have KQ : Kept [] wo wr := HZ.out.2.2.1.then hh.out.2.2
            have Bx := HZ.out.1.kept hh.out.2.2 (by simp)
            have Br := HBRE.out.kept hh.out.2.2 (by simp)
            have xx0 := Bx.cell (j := 0) rfl
            have xx1 := Bx.cell (j := 1) rfl
            have xx2 := Bx.cell (j := 2) rfl
            have hWq := HW.out.1.kept KQ
            have SA := HZ.out.2.2.2.1.kept hh.out.2.2 (by simp)
            have SL := HZ.out.2.2.2.2.kept hh.out.2.2 (by simp)
            rw [← HAL.out.1] at SA
            obtain ⟨q0, q1, q2⟩ : wr.cell? ⟨w.heap.size + 1, k * 3, none⟩ = some r.a.v ∧ wr.cell? ⟨w.heap.size + 1, k * 3 + 1, none⟩ = some r.l.v ∧ wr.cell? ⟨w.heap.size + 1, k * 3 + 2, none⟩ = some (.bool r.b) := ⟨hWq.box.cell (flatR_at rs k r 0 _ HW.out.2.2.2.1 rfl), hWq.box.cell (flatR_at rs k r 1 _ HW.out.2.2.2.1 rfl), hWq.box.cell (flatR_at rs k r 2 _ HW.out.2.2.2.1 rfl)⟩
            have f0 := hWq.box.free (k * 3)
            have f1 := hWq.box.free (k * 3 + 1)
            have f2 := hWq.box.free (k * 3 + 2)
            obtain ⟨wS, hwS⟩ : ∃ wx, wx = (((wr.setCell ⟨w.heap.size + 1, k * 3, none⟩ (.slice (some ⟨g8, 0, none⟩) (nA + 1) c8)).setCell ⟨w.heap.size + 1, k * 3 + 1, none⟩ (.slice pL' nL' cL')).setCell ⟨w.heap.size + 1, k * 3 + 2, none⟩ (.bool RX.2.back)) := ⟨_, rfl⟩
            obtain ⟨hWS, kS⟩ := hWq.setRun hk4 (r := ⟨⟨some ⟨g8, 0, none⟩, nA + 1, c8⟩, ⟨pL', nL', cL'⟩, RX.2.back⟩) (x := ⟨al, RX.2.left, RX.2.back⟩) SA SL rfl hwS
            have hgR : w.heap.size + 1 ∉ [X] := by have := HX.out.2; simp; omega
            have BrS := Br.kept kS (by have := HX.out.2; simp; omega)
            have SW : Still wS (w.heap.size + 1) (FF (w.heap.size + 1) (.slice p5 i c5) (.slice p6 i c6)) (.slice pw (nA + 1) cw) al.reverse := ⟨(nW.mono (by have := HZ.out.2.2.1.size; have := HX.out; omega)).kept kS (fun y hy hm => by simp at hm; have e := (nW.lt hy).1; have e2 := HZ.out.2.2.1.size; have := HX.out; omega), fun y hy hm => by have e := (nW.lt hy).1; have e2 := HZ.out.2.2.1.size; have e3 := HW.out.1.lt y hm; omega⟩
            have KS : Kept [] w wS := (HW.out.2.2.1.then KQ).trans kS (fun y hy => .inr (by simp at hy; omega))
            have BB := (HW.out.2.1.kept KQ (by simp)).kept kS (by simp)
            have HQ := @hideH _ (And.intro hWS (And.intro BrS (And.intro SW (And.intro KS BB))))
            clear hWS BrS SW KS BB kS Bx Br hWq SA SL nW KQ hh hgR
            go_upto_region 35 with fail
            rw [← hwS]
            clear hwS q0 q1 q2 f0 f1 f2 xx0 xx1 xx2 y0
            have HECL := @hideH _ (show [.int .i64 kd, .int .i64 bi, .int .i64 pr, .int .i64 RX.1.id, .int .i64 0, .int .i64 0, .slice none 0 0, .slice none 0 0, .int .i64 nx, .slice none 0 0, .slice none 0 0] = RX.1.cells from Blk.same HBRE.out HZ.out.2.1)
            have HST2 := @hideH _ (show wrote pl (i + 1) = ⟨M, (wrote pl i).lines ++ [⟨M, RX.1⟩], (wrote pl i).ways ++ [al.reverse], (wrote pl i).runs.set k (endRun RX.1 RX.2 al)⟩ by rw [HSTEP.out, ← HRX.out, ← HAL.out.1])
            by_cases hkd : kd = 6
            case neg =>
              have hkd' : (kd == 6) = false := by simpa using hkd
              have HST3 := @hideH _ (show wrote pl (i + 1) = ⟨M, (wrote pl i).lines ++ [⟨M, RX.1⟩], (wrote pl i).ways ++ [al.reverse], (wrote pl i).runs.set k ⟨al, RX.2.left, RX.2.back⟩⟩ by rw [HST2.out, show endRun RX.1 RX.2 al = ⟨al, RX.2.left, RX.2.back⟩ from if_neg (fun c => hkd (HC.out.2.2.2.1.symm.trans c))])
              have cc0 := HQ.out.2.1.cell (j := 0) rfl
              clear hkd
              have wm := HQ.out.1
              have hsrcL := src_cells (P := Try.prog) wS 12 22 44 Try.underlying22 [.int .i64 M, .int .i64 kd, .int .i64 bi, .int .i64 pr, .int .i64 RX.1.id, .int .i64 0, .int .i64 0, .slice none 0 0, .slice none 0 0, .int .i64 nx, .slice none 0 0, .slice none 0 0] rfl (by intro u hu; simp only [List.mem_cons, List.not_mem_nil, or_false] at hu; rcases hu with rfl | rfl | rfl | rfl | rfl | rfl | rfl | rfl | rfl | rfl | rfl | rfl <;> rfl) _ rfl
              have kaL : Kept [] wS (wS.alloc (.cells #[.int .i64 M, .int .i64 kd, .int .i64 bi, .int .i64 pr, .int .i64 RX.1.id, .int .i64 0, .int .i64 0, .slice none 0 0, .slice none 0 0, .int .i64 nx, .slice none 0 0, .slice none 0 0] 44)) := (Kept.refl [] wS).alloc _
              have wmL := wm.kept kaL
              have hlen : (wrote pl i).lines.length = i := HOK.out.len
              have hlen2 : (wrote pl i).ways.length = i := HOK.out.wlen
              have hrL := wmL.lines
              rw [hlen] at hrL
              have Brc := HQ.out.2.1
              have b0 := Brc.cell (j := 0) rfl
              have b1 := Brc.cell (j := 1) rfl
              have b2 := Brc.cell (j := 2) rfl
              have b3 := Brc.cell (j := 3) rfl
              have b4 := Brc.cell (j := 4) rfl
              have b5 := Brc.cell (j := 5) rfl
              have b6 := Brc.cell (j := 6) rfl
              have b7 := Brc.cell (j := 7) rfl
              have b8 := Brc.cell (j := 8) rfl
              have b9 := Brc.cell (j := 9) rfl
              have b10 := Brc.cell (j := 10) rfl
              clear Brc
              have HSZ := @hideH _ (show w.heap.size + 1 ≤ wS.heap.size from by have := wm.box.lt; omega)
              go_upto_region 38 with (at_builtin; refine wpList_append_row2 rfl (.tmp 165) (.tmp 169) 22 rfl (w.heap.size + 1) 44 infL (.agg #[.int .i64 0, .int .i64 0, .int .i64 0, .int .i64 0, .int .i64 0, .int .i64 0, .int .i64 0, .slice none 0 0, .slice none 0 0, .int .i64 0, .slice none 0 0, .slice none 0 0]) 12 160 Try.underlying22 HJL.out.1 HJL.out.2.1 HJL.out.2.2.1 HJL.out.2.2.2 rfl _ _ _ (by rfl) hrL _ 1 [.int .i64 M, .int .i64 kd, .int .i64 bi, .int .i64 pr, .int .i64 RX.1.id, .int .i64 0, .int .i64 0, .slice none 0 0, .slice none 0 0, .int .i64 nx, .slice none 0 0, .slice none 0 0] (by rfl) hsrcL (by have := HI2.out; omega) (by have := HI2.out; unfold maxLen; omega) (by have := HI2.out; omega) (by have := HSZ.out; rw [World.size_alloc]; omega) ?_; intro v11 w11 r11 k11 at11; obtain ⟨p11, c11, hv11, -⟩ := Row.shape r11; subst hv11; have H11 := @hideH _ (And.intro r11 (And.intro k11 at11)); clear r11 k11 at11 hsrcL hrL)
              have wm1 := wmL.addLine (l := ⟨M, RX.1⟩) (by rw [hlen]; have q := H11.out.1; rw [show [.int .i64 M, .int .i64 kd, .int .i64 bi, .int .i64 pr, .int .i64 RX.1.id, .int .i64 0, .int .i64 0, .slice none 0 0, .slice none 0 0, .int .i64 nx, .slice none 0 0, .slice none 0 0] = (⟨M, RX.1⟩ : Ln).cells from by unfold Ln.cells; rw [← HECL.out]] at q; exact q) H11.out.2.1 H11.out.2.2
              have sw1 := still_line ((HQ.out.2.2.1).kept kaL (by simp)) H11.out.2.1 H11.out.2.2
              have K11 : Kept [] w w11 := (HQ.out.2.2.2.1.then kaL).trans H11.out.2.1 (fun y hy => .inr (by have := (Row.lt wmL.lines y (by simpa using hy)).1; omega))
              have BB11 := (HQ.out.2.2.2.2.kept kaL (by simp)).kept H11.out.2.1 (fun hm => by have := (Row.lt wmL.lines _ (by simpa using hm)).1; omega)
              have hsrcW := src_cells (P := Try.prog) w11 1 32 24 Try.underlying32 [.slice pw (nA + 1) cw] rfl (by intro u hu; simp only [List.mem_singleton] at hu; subst hu; rfl) _ rfl
              have kaW : Kept [] w11 (w11.alloc (.cells #[.slice pw (nA + 1) cw] 24)) := (Kept.refl [] w11).alloc _
              have wmW := wm1.kept kaW
              have hrW := wmW.ways
              rw [hlen2] at hrW
              have HSZ2 := @hideH _ (show w.heap.size + 1 ≤ w11.heap.size from by have := wm1.box.lt; omega)
              have HFIN := @hideH _ (And.intro wmW (And.intro sw1 (And.intro K11 (And.intro BB11 (And.intro kaW (And.intro hlen hlen2))))))
              clear wm wmL wm1 wmW sw1 K11 BB11 kaL hlen hlen2 HSZ b0 b1 b2 b3 b4 b5 b6 b7 b8 b9 b10
              go_wp2_with (at_builtin; refine wpList_append_row2 rfl (.tmp 171) (.tmp 173) 32 rfl (w.heap.size + 1) 24 infW (.slice none 0 0) 1 24 Try.underlying32 HJW.out.1 HJW.out.2.1 HJW.out.2.2.1 HJW.out.2.2.2 rfl _ _ _ (by rfl) hrW _ 1 [.slice pw (nA + 1) cw] (by rfl) hsrcW (by have := HI2.out; omega) (by have := HI2.out; unfold maxLen; omega) (by have := HI2.out; omega) (by have := HSZ2.out; rw [World.size_alloc]; omega) ?_; intro v12 w12 r12 k12 at12; obtain ⟨p12, c12, hv12, -⟩ := Row.shape r12; subst hv12; have H12 := @hideH _ (And.intro r12 (And.intro k12 at12)); clear r12 k12 at12 hsrcW hrW kaW)
              have HEND := @hideH _ (HFIN.out.1.addWay (HFIN.out.2.1.kept HFIN.out.2.2.2.2.1 (by simp)) (by rw [HFIN.out.2.2.2.2.2.2]; exact H12.out.1) H12.out.2.1 H12.out.2.2)
              have HKE := @hideH _ (And.intro ((HFIN.out.2.2.2.1.kept HFIN.out.2.2.2.2.1 (by simp)).kept H12.out.2.1 (fun hm => by have := (Row.lt HFIN.out.1.ways _ (by simpa using hm)).1; omega)) ((HFIN.out.2.2.1.then HFIN.out.2.2.2.2.1).trans H12.out.2.1 (fun y hy => .inr (by have := (Row.lt HFIN.out.1.ways y (by simpa using hy)).1; omega))))
              go_roundw
              case rel => exact ⟨i + 1, M, p11, c11, p12, c12, rfl, rfl, rfl, by go_num, by omega, hideH (wrel_next HST3.out HI2.out HEND.out HKE.out.1 HKE.out.2)⟩
              case measure => simp [intOf]; omega
            case pos =>
              have hkd' : (kd == 6) = true := by simpa using hkd
              have HST3 := @hideH _ (show wrote pl (i + 1) = ⟨M, (wrote pl i).lines ++ [⟨M, RX.1⟩], (wrote pl i).ways ++ [al.reverse], (wrote pl i).runs.set k RunL.none⟩ by rw [HST2.out, show endRun RX.1 RX.2 al = RunL.none from if_pos (HC.out.2.2.2.1.trans hkd)])
              clear hkd
              have cc0 := HQ.out.2.1.cell (j := 0) rfl
              obtain ⟨r', hr'⟩ : ∃ r' : Rv, r' = ⟨⟨some ⟨g8, 0, none⟩, nA + 1, c8⟩, ⟨pL', nL', cL'⟩, RX.2.back⟩ := ⟨_, rfl⟩
              have hbx := HQ.out.1.box
              have hrk : (rs.set k r')[k]? = some r' := by rw [List.getElem?_set_self (by rw [HW.out.1.rlen]; exact hk4)]
              rw [hr'] at hrk
              obtain ⟨q0, q1, q2⟩ : wS.cell? ⟨w.heap.size + 1, k * 3, none⟩ = some (.slice (some ⟨g8, 0, none⟩) (nA + 1) c8) ∧ wS.cell? ⟨w.heap.size + 1, k * 3 + 1, none⟩ = some (.slice pL' nL' cL') ∧ wS.cell? ⟨w.heap.size + 1, k * 3 + 2, none⟩ = some (.bool RX.2.back) := ⟨hbx.cell (flatR_at _ k _ 0 _ hrk rfl), hbx.cell (flatR_at _ k _ 1 _ hrk rfl), hbx.cell (flatR_at _ k _ 2 _ hrk rfl)⟩
              have f0 := hbx.free (k * 3)
              have f1 := hbx.free (k * 3 + 1)
              have f2 := hbx.free (k * 3 + 2)
              obtain ⟨wT, hwT⟩ : ∃ wx, wx = (((wS.setCell ⟨w.heap.size + 1, k * 3, none⟩ (.slice none 0 0)).setCell ⟨w.heap.size + 1, k * 3 + 1, none⟩ (.slice none 0 0)).setCell ⟨w.heap.size + 1, k * 3 + 2, none⟩ (.bool false)) := ⟨_, rfl⟩
              obtain ⟨hWT, kT⟩ := HQ.out.1.setRun hk4 (r := ⟨.nil, .nil, false⟩) (x := RunL.none) ⟨Ns.nil _ _, fun y hy => by cases hy⟩ ⟨Ns.nil _ _, fun y hy => by cases hy⟩ rfl hwT
              rw [List.set_set, List.set_set] at hWT
              have BrT := HQ.out.2.1.kept kT (by have := HX.out.2; simp; omega)
              have SWT := HQ.out.2.2.1.kept kT (fun y hy => .inl (by simp at hy; exact mem_FF.2 (.inl hy)))
              have KT : Kept [] w wT := HQ.out.2.2.2.1.trans kT (fun y hy => .inr (by simp at hy; omega))
              have BBT := HQ.out.2.2.2.2.kept kT (by simp)
              have HQT := @hideH _ (And.intro hWT (And.intro BrT (And.intro SWT (And.intro KT BBT))))
              clear hWT BrT SWT KT BBT kT hbx hrk hr'
              go_upto_region 37 with fail
              rw [← hwT]
              clear hwT q0 q1 q2 f0 f1 f2 cc0
              have wm := HQT.out.1
              have hsrcL := src_cells (P := Try.prog) wT 12 22 44 Try.underlying22 [.int .i64 M, .int .i64 kd, .int .i64 bi, .int .i64 pr, .int .i64 RX.1.id, .int .i64 0, .int .i64 0, .slice none 0 0, .slice none 0 0, .int .i64 nx, .slice none 0 0, .slice none 0 0] rfl (by intro u hu; simp only [List.mem_cons, List.not_mem_nil, or_false] at hu; rcases hu with rfl | rfl | rfl | rfl | rfl | rfl | rfl | rfl | rfl | rfl | rfl | rfl <;> rfl) _ rfl
              have kaL : Kept [] wT (wT.alloc (.cells #[.int .i64 M, .int .i64 kd, .int .i64 bi, .int .i64 pr, .int .i64 RX.1.id, .int .i64 0, .int .i64 0, .slice none 0 0, .slice none 0 0, .int .i64 nx, .slice none 0 0, .slice none 0 0] 44)) := (Kept.refl [] wT).alloc _
              have wmL := wm.kept kaL
              have hlen : (wrote pl i).lines.length = i := HOK.out.len
              have hlen2 : (wrote pl i).ways.length = i := HOK.out.wlen
              have hrL := wmL.lines
              rw [hlen] at hrL
              have Brc := HQT.out.2.1
              have b0 := Brc.cell (j := 0) rfl
              have b1 := Brc.cell (j := 1) rfl
              have b2 := Brc.cell (j := 2) rfl
              have b3 := Brc.cell (j := 3) rfl
              have b4 := Brc.cell (j := 4) rfl
              have b5 := Brc.cell (j := 5) rfl
              have b6 := Brc.cell (j := 6) rfl
              have b7 := Brc.cell (j := 7) rfl
              have b8 := Brc.cell (j := 8) rfl
              have b9 := Brc.cell (j := 9) rfl
              have b10 := Brc.cell (j := 10) rfl
              clear Brc
              have HSZ := @hideH _ (show w.heap.size + 1 ≤ wT.heap.size from by have := wm.box.lt; omega)
              go_upto_region 38 with (at_builtin; refine wpList_append_row2 rfl (.tmp 165) (.tmp 169) 22 rfl (w.heap.size + 1) 44 infL (.agg #[.int .i64 0, .int .i64 0, .int .i64 0, .int .i64 0, .int .i64 0, .int .i64 0, .int .i64 0, .slice none 0 0, .slice none 0 0, .int .i64 0, .slice none 0 0, .slice none 0 0]) 12 160 Try.underlying22 HJL.out.1 HJL.out.2.1 HJL.out.2.2.1 HJL.out.2.2.2 rfl _ _ _ (by rfl) hrL _ 1 [.int .i64 M, .int .i64 kd, .int .i64 bi, .int .i64 pr, .int .i64 RX.1.id, .int .i64 0, .int .i64 0, .slice none 0 0, .slice none 0 0, .int .i64 nx, .slice none 0 0, .slice none 0 0] (by rfl) hsrcL (by have := HI2.out; omega) (by have := HI2.out; unfold maxLen; omega) (by have := HI2.out; omega) (by have := HSZ.out; rw [World.size_alloc]; omega) ?_; intro v11 w11 r11 k11 at11; obtain ⟨p11, c11, hv11, -⟩ := Row.shape r11; subst hv11; have H11 := @hideH _ (And.intro r11 (And.intro k11 at11)); clear r11 k11 at11 hsrcL hrL)
              have wm1 := wmL.addLine (l := ⟨M, RX.1⟩) (by rw [hlen]; have q := H11.out.1; rw [show [.int .i64 M, .int .i64 kd, .int .i64 bi, .int .i64 pr, .int .i64 RX.1.id, .int .i64 0, .int .i64 0, .slice none 0 0, .slice none 0 0, .int .i64 nx, .slice none 0 0, .slice none 0 0] = (⟨M, RX.1⟩ : Ln).cells from by unfold Ln.cells; rw [← HECL.out]] at q; exact q) H11.out.2.1 H11.out.2.2
              have sw1 := still_line ((HQT.out.2.2.1).kept kaL (by simp)) H11.out.2.1 H11.out.2.2
              have K11 : Kept [] w w11 := (HQT.out.2.2.2.1.then kaL).trans H11.out.2.1 (fun y hy => .inr (by have := (Row.lt wmL.lines y (by simpa using hy)).1; omega))
              have BB11 := (HQT.out.2.2.2.2.kept kaL (by simp)).kept H11.out.2.1 (fun hm => by have := (Row.lt wmL.lines _ (by simpa using hm)).1; omega)
              have hsrcW := src_cells (P := Try.prog) w11 1 32 24 Try.underlying32 [.slice pw (nA + 1) cw] rfl (by intro u hu; simp only [List.mem_singleton] at hu; subst hu; rfl) _ rfl
              have kaW : Kept [] w11 (w11.alloc (.cells #[.slice pw (nA + 1) cw] 24)) := (Kept.refl [] w11).alloc _
              have wmW := wm1.kept kaW
              have hrW := wmW.ways
              rw [hlen2] at hrW
              have HSZ2 := @hideH _ (show w.heap.size + 1 ≤ w11.heap.size from by have := wm1.box.lt; omega)
              have HFIN := @hideH _ (And.intro wmW (And.intro sw1 (And.intro K11 (And.intro BB11 (And.intro kaW (And.intro hlen hlen2))))))
              clear wm wmL wm1 wmW sw1 K11 BB11 kaL hlen hlen2 HSZ b0 b1 b2 b3 b4 b5 b6 b7 b8 b9 b10
              go_wp2_with (at_builtin; refine wpList_append_row2 rfl (.tmp 171) (.tmp 173) 32 rfl (w.heap.size + 1) 24 infW (.slice none 0 0) 1 24 Try.underlying32 HJW.out.1 HJW.out.2.1 HJW.out.2.2.1 HJW.out.2.2.2 rfl _ _ _ (by rfl) hrW _ 1 [.slice pw (nA + 1) cw] (by rfl) hsrcW (by have := HI2.out; omega) (by have := HI2.out; unfold maxLen; omega) (by have := HI2.out; omega) (by have := HSZ2.out; rw [World.size_alloc]; omega) ?_; intro v12 w12 r12 k12 at12; obtain ⟨p12, c12, hv12, -⟩ := Row.shape r12; subst hv12; have H12 := @hideH _ (And.intro r12 (And.intro k12 at12)); clear r12 k12 at12 hsrcW hrW kaW)
              have HEND := @hideH _ (HFIN.out.1.addWay (HFIN.out.2.1.kept HFIN.out.2.2.2.2.1 (by simp)) (by rw [HFIN.out.2.2.2.2.2.2]; exact H12.out.1) H12.out.2.1 H12.out.2.2)
              have HKE := @hideH _ (And.intro ((HFIN.out.2.2.2.1.kept HFIN.out.2.2.2.2.1 (by simp)).kept H12.out.2.1 (fun hm => by have := (Row.lt HFIN.out.1.ways _ (by simpa using hm)).1; omega)) ((HFIN.out.2.2.1.then HFIN.out.2.2.2.2.1).trans H12.out.2.1 (fun y hy => .inr (by have := (Row.lt HFIN.out.1.ways y (by simpa using hy)).1; omega))))
              go_roundw
              case rel => exact ⟨i + 1, M, p11, c11, p12, c12, rfl, rfl, rfl, by go_num, by omega, hideH (wrel_next HST3.out HI2.out HEND.out HKE.out.1 HKE.out.2)⟩
              case measure => simp [intOf]; omega
end Go.Proofs.Ytinlhojojeabcaa

