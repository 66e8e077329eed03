import Derived.Deep.MidRow
import Derived.Test.YtnjfahgmebmakaaGreatDoorC2
/-
  OWN WORK (by mkpnt.py). The law's may (layer 18).
-/
namespace Go.Proofs.YtnjfahgmebmakaaGreatDoor
open Go.RowKit
set_option linter.unusedVariables false
set_option linter.unusedSimpArgs false

theorem blk_over_aux {g : Nat} {t : TypeId} : ∀ (vs pre post old : List Value) (w : World), old.length = vs.length → Blk w g t (pre ++ old ++ post) → Blk (w.setCells g pre.length vs) g t (pre ++ vs ++ post)
  | [], pre, post, old, w, hl, h => by
    obtain rfl : old = [] := List.eq_nil_of_length_eq_zero (by simpa using hl)
    exact h
  | v :: r, pre, post, o :: old, w, hl, h => by
    obtain ⟨q, -⟩ := h.set pre.length v
    have e : (pre ++ (o :: old) ++ post).set pre.length v = (pre ++ [v]) ++ old ++ post := by
      rw [List.append_assoc, List.set_append_right _ _ (Nat.le_refl _), Nat.sub_self]
      simp
    rw [e] at q
    have ih := blk_over_aux r (pre ++ [v]) post old _ (by simpa using hl) q
    rw [World.setCells]
    rw [show (pre ++ [v]).length = pre.length + 1 by simp] at ih
    simpa using ih
theorem blk_over {w : World} {g : Nat} {t : TypeId} {old : List Value} (h : Blk w g t old) (vs : List Value) (hl : vs.length = old.length) : Blk (w.setCells g 0 vs) g t vs := by
  have q := blk_over_aux vs [] [] old w hl.symm (by simpa using h)
  simpa using q
theorem over6 {w : World} {g : Nat} {t : TypeId} {Z L : List Value} (h : Blk w g t Z) (hl : L.length = Z.length) : w.there g 0 L.toArray.size ∧ Blk (w.setCells g 0 L) g t L ∧ Kept [g] w (w.setCells g 0 L) := by
  refine ⟨fun j hj => ?_, blk_over h L hl, kept_setCells g _ 0 w⟩
  rw [List.size_toArray, hl] at hj
  obtain ⟨x, hx⟩ : ∃ x, Z[j]? = some x := ⟨_, List.getElem?_eq_getElem hj⟩
  have c := h.cell hx
  refine ⟨?_, h.free _⟩
  rw [Nat.zero_add, c]; rfl
/-- the law's Config that may be, made of any -/
def mayF (c : Cf) : Cf := ⟨1 + c.pages % 16, 1 + c.slots % 8, 1024 + c.log % 64513, 2 + c.frames % 15, 1 + c.table % 8, 1 + c.keys % 1048576⟩
theorem mayF_may (c : Cf) : mayC (mayF c) := by
  unfold mayC mayF
  refine ⟨?_, ?_, ?_, ?_, ?_, ?_⟩ <;> (try unfold Go.Proofs.YtnjfahgmebmakaaGreatDoor.inR) <;> dsimp only <;> omega
set_option maxRecDepth 20000 in
set_option maxHeartbeats 6400000 in
theorem may_any (c : Cf) (w : World) : Calls Tryz.prog 8 #[.agg #[.int .i64 c.pages, .int .i64 c.slots, .int .i64 c.log, .int .i64 c.frames, .int .i64 c.table, .int .i64 c.keys]] w fun e w' => e = .returned (.agg #[.int .i64 (mayF c).pages, .int .i64 (mayF c).slots, .int .i64 (mayF c).log, .int .i64 (mayF c).frames, .int .i64 (mayF c).table, .int .i64 (mayF c).keys]) ∧ Kept [] w w' := by
  obtain ⟨r0, hr0⟩ : ∃ r, r = c.pages % 16 := ⟨_, rfl⟩
  obtain ⟨r1, hr1⟩ : ∃ r, r = c.slots % 8 := ⟨_, rfl⟩
  obtain ⟨r2, hr2⟩ : ∃ r, r = c.log % 64513 := ⟨_, rfl⟩
  obtain ⟨r3, hr3⟩ : ∃ r, r = c.frames % 15 := ⟨_, rfl⟩
  obtain ⟨r4, hr4⟩ : ∃ r, r = c.table % 8 := ⟨_, rfl⟩
  obtain ⟨r5, hr5⟩ : ∃ r, r = c.keys % 1048576 := ⟨_, rfl⟩
  have e0 : IntKind.i64.wrap (1 + r0) = 1 + r0 := wrap_i64_of (by omega) (by omega)
  have e1 : IntKind.i64.wrap (1 + r1) = 1 + r1 := wrap_i64_of (by omega) (by omega)
  have e2 : IntKind.i64.wrap (1024 + r2) = 1024 + r2 := wrap_i64_of (by omega) (by omega)
  have e3 : IntKind.i64.wrap (2 + r3) = 2 + r3 := wrap_i64_of (by omega) (by omega)
  have e4 : IntKind.i64.wrap (1 + r4) = 1 + r4 := wrap_i64_of (by omega) (by omega)
  have e5 : IntKind.i64.wrap (1 + r5) = 1 + r5 := wrap_i64_of (by omega) (by omega)
  have HRS := @hideH _ (show Value.agg #[.int .i64 (mayF c).pages, .int .i64 (mayF c).slots, .int .i64 (mayF c).log, .int .i64 (mayF c).frames, .int .i64 (mayF c).table, .int .i64 (mayF c).keys] = .agg #[.int .i64 (1 + r0), .int .i64 (1 + r1), .int .i64 (1024 + r2), .int .i64 (2 + r3), .int .i64 (1 + r4), .int .i64 (1 + r5)] by unfold mayF; dsimp only; rw [hr0, hr1, hr2, hr3, hr4, hr5])
  have HQ0 := @hideH _ (fun w => rest_any c.pages 16 w (by omega) (by omega))
  have HQ1 := @hideH _ (fun w => rest_any c.slots 8 w (by omega) (by omega))
  have HQ2 := @hideH _ (fun w => rest_any c.log 64513 w (by omega) (by omega))
  have HQ3 := @hideH _ (fun w => rest_any c.frames 15 w (by omega) (by omega))
  have HQ4 := @hideH _ (fun w => rest_any c.table 8 w (by omega) (by omega))
  have HQ5 := @hideH _ (fun w => rest_any c.keys 1048576 w (by omega) (by omega))
  rw [← hr0] at HQ0
  rw [← hr1] at HQ1
  rw [← hr2] at HQ2
  rw [← hr3] at HQ3
  rw [← hr4] at HQ4
  rw [← hr5] at HQ5
  clear hr0 hr1 hr2 hr3 hr4 hr5
  obtain ⟨w1, hw1⟩ : ∃ wx, wx = w.alloc (.cells #[.int .i64 c.pages, .int .i64 c.slots, .int .i64 c.log, .int .i64 c.frames, .int .i64 c.table, .int .i64 c.keys] 25) := ⟨_, rfl⟩
  have k1 : Kept [] w w1 := by rw [hw1]; exact (Kept.refl [] w).alloc _
  have s1 : w1.heap.size = w.heap.size + 1 := by rw [hw1, World.size_alloc]
  have B1 : Blk w1 w.heap.size 25 [.int .i64 c.pages, .int .i64 c.slots, .int .i64 c.log, .int .i64 c.frames, .int .i64 c.table, .int .i64 c.keys] := by rw [hw1]; exact Blk.new w _ _
  obtain ⟨w2, hw2⟩ : ∃ wx, wx = w1.alloc (.cells #[.int .i64 0, .int .i64 0, .int .i64 0, .int .i64 0, .int .i64 0, .int .i64 0] 25) := ⟨_, rfl⟩
  have k2 : Kept [] w1 w2 := by rw [hw2]; exact (Kept.refl [] w1).alloc _
  have B2 : Blk w2 w1.heap.size 25 [.int .i64 0, .int .i64 0, .int .i64 0, .int .i64 0, .int .i64 0, .int .i64 0] := by rw [hw2]; exact Blk.new w1 _ _
  rw [s1] at B2
  have y0 := (B1.kept k2 (by simp)).cell (j := 0) rfl
  have y1 := (B1.kept k2 (by simp)).cell (j := 1) rfl
  have y2 := (B1.kept k2 (by simp)).cell (j := 2) rfl
  have y3 := (B1.kept k2 (by simp)).cell (j := 3) rfl
  have y4 := (B1.kept k2 (by simp)).cell (j := 4) rfl
  have y5 := (B1.kept k2 (by simp)).cell (j := 5) rfl
  have HB2 := @hideH _ B2
  have HK2 := @hideH _ (k1.then k2)
  clear B1 B2 k1 k2
  go_enter Tryz.func8, Tryz.ntmps8
  go_upto_region 1 with fail
  rw [← hw1, ← hw2]
  clear hw1 hw2 s1
  have kx : Kept [] w2 w2.drew := (Kept.refl [] w2).drew
  refine wp_region_late (fun w' => w'.cell? ⟨w.heap.size, 0, none⟩ = some (.int .i64 c.pages) ∧ w'.cell? ⟨w.heap.size, 1, none⟩ = some (.int .i64 c.slots) ∧ w'.cell? ⟨w.heap.size, 2, none⟩ = some (.int .i64 c.log) ∧ w'.cell? ⟨w.heap.size, 3, none⟩ = some (.int .i64 c.frames) ∧ w'.cell? ⟨w.heap.size, 4, none⟩ = some (.int .i64 c.table) ∧ w'.cell? ⟨w.heap.size, 5, none⟩ = some (.int .i64 c.keys)) 29 (by kernel_rfl) ?_
  have hS : w2.drew.cell? ⟨w.heap.size, 0, none⟩ = some (.int .i64 c.pages) ∧ w2.drew.cell? ⟨w.heap.size, 1, none⟩ = some (.int .i64 c.slots) ∧ w2.drew.cell? ⟨w.heap.size, 2, none⟩ = some (.int .i64 c.log) ∧ w2.drew.cell? ⟨w.heap.size, 3, none⟩ = some (.int .i64 c.frames) ∧ w2.drew.cell? ⟨w.heap.size, 4, none⟩ = some (.int .i64 c.table) ∧ w2.drew.cell? ⟨w.heap.size, 5, none⟩ = some (.int .i64 c.keys) := ⟨kx.cell y0 (by simp), kx.cell y1 (by simp), kx.cell y2 (by simp), kx.cell y3 (by simp), kx.cell y4 (by simp), kx.cell y5 (by simp)⟩
  obtain ⟨wd, hwd⟩ : ∃ x, x = w2.drew := ⟨_, rfl⟩
  have HBD := @hideH _ (HB2.out.kept kx (by simp))
  have HKD := @hideH _ (HK2.out.then kx)
  rw [← hwd] at hS HBD HKD ⊢
  clear hwd kx y0 y1 y2 y3 y4 y5
  refine wpAnyZ_take 0 (v := ?v0) rfl (by kernel_rfl) (by kernel_rfl) (by kernel_rfl) (by kernel_rfl) (fun _ _ _ h => h) (by rfl) ?hy0 hS ?rest0
  case hy0 => (intro wx hSx; (try dsimp only at hSx); go_simp; (try with_reducible rfl))
  (try simp only [Act.put, List.setIfInBounds_toArray, List.set_cons_zero, List.set_cons_succ])
  refine wpAnyZ_take 1 (v := ?v1) rfl (by kernel_rfl) (by kernel_rfl) (by kernel_rfl) (by kernel_rfl) (fun _ _ _ h => h) (by rfl) ?hy1 hS ?rest1
  case hy1 => (intro wx hSx; (try dsimp only at hSx); go_simp; (try with_reducible rfl))
  (try simp only [Act.put, List.setIfInBounds_toArray, List.set_cons_zero, List.set_cons_succ])
  refine wpAnyZ_take 2 (v := ?v2) rfl (by kernel_rfl) (by kernel_rfl) (by kernel_rfl) (by kernel_rfl) (fun _ _ _ h => h) (by rfl) ?hy2 hS ?rest2
  case hy2 => (intro wx hSx; (try dsimp only at hSx); go_simp; (try with_reducible rfl))
  (try simp only [Act.put, List.setIfInBounds_toArray, List.set_cons_zero, List.set_cons_succ])
  refine wpAnyZ_take 5 (v := ?v5) rfl (by kernel_rfl) (by kernel_rfl) (by kernel_rfl) (by kernel_rfl) (fun _ _ _ h => h) (by rfl) ?hy5 hS ?rest5
  case hy5 => (intro wx hSx; (try dsimp only at hSx); go_simp; (try with_reducible rfl))
  (try simp only [Act.put, List.setIfInBounds_toArray, List.set_cons_zero, List.set_cons_succ])
  refine wpAnyZ_take 6 (v := ?v6) rfl (by kernel_rfl) (by kernel_rfl) (by kernel_rfl) (by kernel_rfl) (fun _ _ _ h => h) (by rfl) ?hy6 hS ?rest6
  case hy6 => (intro wx hSx; (try dsimp only at hSx); go_simp; (try with_reducible rfl))
  (try simp only [Act.put, List.setIfInBounds_toArray, List.set_cons_zero, List.set_cons_succ])
  refine wpAnyZ_take 7 (v := ?v7) rfl (by kernel_rfl) (by kernel_rfl) (by kernel_rfl) (by kernel_rfl) (fun _ _ _ h => h) (by rfl) ?hy7 hS ?rest7
  case hy7 => (intro wx hSx; (try dsimp only at hSx); go_simp; (try with_reducible rfl))
  (try simp only [Act.put, List.setIfInBounds_toArray, List.set_cons_zero, List.set_cons_succ])
  refine wpAnyZ_take 10 (v := ?v10) rfl (by kernel_rfl) (by kernel_rfl) (by kernel_rfl) (by kernel_rfl) (fun _ _ _ h => h) (by rfl) ?hy10 hS ?rest10
  case hy10 => (intro wx hSx; (try dsimp only at hSx); go_simp; (try with_reducible rfl))
  (try simp only [Act.put, List.setIfInBounds_toArray, List.set_cons_zero, List.set_cons_succ])
  refine wpAnyZ_take 11 (v := ?v11) rfl (by kernel_rfl) (by kernel_rfl) (by kernel_rfl) (by kernel_rfl) (fun _ _ _ h => h) (by rfl) ?hy11 hS ?rest11
  case hy11 => (intro wx hSx; (try dsimp only at hSx); go_simp; (try with_reducible rfl))
  (try simp only [Act.put, List.setIfInBounds_toArray, List.set_cons_zero, List.set_cons_succ])
  refine wpAnyZ_take 12 (v := ?v12) rfl (by kernel_rfl) (by kernel_rfl) (by kernel_rfl) (by kernel_rfl) (fun _ _ _ h => h) (by rfl) ?hy12 hS ?rest12
  case hy12 => (intro wx hSx; (try dsimp only at hSx); go_simp; (try with_reducible rfl))
  (try simp only [Act.put, List.setIfInBounds_toArray, List.set_cons_zero, List.set_cons_succ])
  refine wpAnyZ_take 16 (v := ?v16) rfl (by kernel_rfl) (by kernel_rfl) (by kernel_rfl) (by kernel_rfl) (fun _ _ _ h => h) (by rfl) ?hy16 hS ?rest16
  case hy16 => (intro wx hSx; (try dsimp only at hSx); go_simp; (try with_reducible rfl))
  (try simp only [Act.put, List.setIfInBounds_toArray, List.set_cons_zero, List.set_cons_succ])
  refine wpAnyZ_take 17 (v := ?v17) rfl (by kernel_rfl) (by kernel_rfl) (by kernel_rfl) (by kernel_rfl) (fun _ _ _ h => h) (by rfl) ?hy17 hS ?rest17
  case hy17 => (intro wx hSx; (try dsimp only at hSx); go_simp; (try with_reducible rfl))
  (try simp only [Act.put, List.setIfInBounds_toArray, List.set_cons_zero, List.set_cons_succ])
  refine wpAnyZ_take 20 (v := ?v20) rfl (by kernel_rfl) (by kernel_rfl) (by kernel_rfl) (by kernel_rfl) (fun _ _ _ h => h) (by rfl) ?hy20 hS ?rest20
  case hy20 => (intro wx hSx; (try dsimp only at hSx); go_simp; (try with_reducible rfl))
  (try simp only [Act.put, List.setIfInBounds_toArray, List.set_cons_zero, List.set_cons_succ])
  refine wpAnyZ_take 21 (v := ?v21) rfl (by kernel_rfl) (by kernel_rfl) (by kernel_rfl) (by kernel_rfl) (fun _ _ _ h => h) (by rfl) ?hy21 hS ?rest21
  case hy21 => (intro wx hSx; (try dsimp only at hSx); go_simp; (try with_reducible rfl))
  (try simp only [Act.put, List.setIfInBounds_toArray, List.set_cons_zero, List.set_cons_succ])
  refine wpAnyZ_take 24 (v := ?v24) rfl (by kernel_rfl) (by kernel_rfl) (by kernel_rfl) (by kernel_rfl) (fun _ _ _ h => h) (by rfl) ?hy24 hS ?rest24
  case hy24 => (intro wx hSx; (try dsimp only at hSx); go_simp; (try with_reducible rfl))
  (try simp only [Act.put, List.setIfInBounds_toArray, List.set_cons_zero, List.set_cons_succ])
  refine wpAnyZ_take 25 (v := ?v25) rfl (by kernel_rfl) (by kernel_rfl) (by kernel_rfl) (by kernel_rfl) (fun _ _ _ h => h) (by rfl) ?hy25 hS ?rest25
  case hy25 => (intro wx hSx; (try dsimp only at hSx); go_simp; (try with_reducible rfl))
  (try simp only [Act.put, List.setIfInBounds_toArray, List.set_cons_zero, List.set_cons_succ])
  refine wpAnyZ_one 3 rfl (by kernel_rfl) (fun K hK => ?_)
  go_simp
  refine (HQ0.out _).mono ?_
  rintro e wb ⟨rfl, hwb⟩
  rw [hwb]
  clear hwb wb
  dsimp only
  refine hK _ _ (fun _ => hS) ?_
  clear hK K
  (try simp only [Act.put, List.setIfInBounds_toArray, List.set_cons_zero, List.set_cons_succ])
  refine wpAnyZ_take 4 (v := ?v4) rfl (by kernel_rfl) (by kernel_rfl) (by kernel_rfl) (by kernel_rfl) (fun _ _ _ h => h) (by rfl) ?hy4 hS ?rest4
  case hy4 => (intro wx hSx; (try dsimp only at hSx); go_simp; (try with_reducible rfl))
  (try simp only [Act.put, List.setIfInBounds_toArray, List.set_cons_zero, List.set_cons_succ])
  refine wpAnyZ_one 8 rfl (by kernel_rfl) (fun K hK => ?_)
  go_simp
  refine (HQ1.out _).mono ?_
  rintro e wb ⟨rfl, hwb⟩
  rw [hwb]
  clear hwb wb
  dsimp only
  refine hK _ _ (fun _ => hS) ?_
  clear hK K
  (try simp only [Act.put, List.setIfInBounds_toArray, List.set_cons_zero, List.set_cons_succ])
  refine wpAnyZ_take 9 (v := ?v9) rfl (by kernel_rfl) (by kernel_rfl) (by kernel_rfl) (by kernel_rfl) (fun _ _ _ h => h) (by rfl) ?hy9 hS ?rest9
  case hy9 => (intro wx hSx; (try dsimp only at hSx); go_simp; (try with_reducible rfl))
  (try simp only [Act.put, List.setIfInBounds_toArray, List.set_cons_zero, List.set_cons_succ])
  refine wpAnyZ_one 13 rfl (by kernel_rfl) (fun K hK => ?_)
  go_simp
  refine (HQ2.out _).mono ?_
  rintro e wb ⟨rfl, hwb⟩
  rw [hwb]
  clear hwb wb
  dsimp only
  refine hK _ _ (fun _ => hS) ?_
  clear hK K
  (try simp only [Act.put, List.setIfInBounds_toArray, List.set_cons_zero, List.set_cons_succ])
  refine wpAnyZ_take 14 (v := ?v14) rfl (by kernel_rfl) (by kernel_rfl) (by kernel_rfl) (by kernel_rfl) (fun _ _ _ h => h) (by rfl) ?hy14 hS ?rest14
  case hy14 => (intro wx hSx; (try dsimp only at hSx); go_simp; (try with_reducible rfl))
  (try simp only [Act.put, List.setIfInBounds_toArray, List.set_cons_zero, List.set_cons_succ])
  refine wpAnyZ_take 15 (v := ?v15) rfl (by kernel_rfl) (by kernel_rfl) (by kernel_rfl) (by kernel_rfl) (fun _ _ _ h => h) (by rfl) ?hy15 hS ?rest15
  case hy15 => (intro wx hSx; (try dsimp only at hSx); go_simp; (try with_reducible rfl))
  (try simp only [Act.put, List.setIfInBounds_toArray, List.set_cons_zero, List.set_cons_succ])
  refine wpAnyZ_one 18 rfl (by kernel_rfl) (fun K hK => ?_)
  go_simp
  refine (HQ3.out _).mono ?_
  rintro e wb ⟨rfl, hwb⟩
  rw [hwb]
  clear hwb wb
  dsimp only
  refine hK _ _ (fun _ => hS) ?_
  clear hK K
  (try simp only [Act.put, List.setIfInBounds_toArray, List.set_cons_zero, List.set_cons_succ])
  refine wpAnyZ_take 19 (v := ?v19) rfl (by kernel_rfl) (by kernel_rfl) (by kernel_rfl) (by kernel_rfl) (fun _ _ _ h => h) (by rfl) ?hy19 hS ?rest19
  case hy19 => (intro wx hSx; (try dsimp only at hSx); go_simp; (try with_reducible rfl))
  (try simp only [Act.put, List.setIfInBounds_toArray, List.set_cons_zero, List.set_cons_succ])
  refine wpAnyZ_one 22 rfl (by kernel_rfl) (fun K hK => ?_)
  go_simp
  refine (HQ4.out _).mono ?_
  rintro e wb ⟨rfl, hwb⟩
  rw [hwb]
  clear hwb wb
  dsimp only
  refine hK _ _ (fun _ => hS) ?_
  clear hK K
  (try simp only [Act.put, List.setIfInBounds_toArray, List.set_cons_zero, List.set_cons_succ])
  refine wpAnyZ_take 23 (v := ?v23) rfl (by kernel_rfl) (by kernel_rfl) (by kernel_rfl) (by kernel_rfl) (fun _ _ _ h => h) (by rfl) ?hy23 hS ?rest23
  case hy23 => (intro wx hSx; (try dsimp only at hSx); go_simp; (try with_reducible rfl))
  (try simp only [Act.put, List.setIfInBounds_toArray, List.set_cons_zero, List.set_cons_succ])
  refine wpAnyZ_one 26 rfl (by kernel_rfl) (fun K hK => ?_)
  go_simp
  refine (HQ5.out _).mono ?_
  rintro e wb ⟨rfl, hwb⟩
  rw [hwb]
  clear hwb wb
  dsimp only
  refine hK _ _ (fun _ => hS) ?_
  clear hK K
  (try simp only [Act.put, List.setIfInBounds_toArray, List.set_cons_zero, List.set_cons_succ])
  refine wpAnyZ_one 27 rfl (by kernel_rfl) (fun K hK => ?_)
  go_simp
  refine hK _ _ (fun _ => hS) ?_
  clear hK K
  (try simp only [Act.put, List.setIfInBounds_toArray, List.set_cons_zero, List.set_cons_succ])
  refine wpAnyZ_one 28 rfl (by kernel_rfl) (fun K hK => ?_)
  go_simp
  refine hK _ _ (fun _ => hS) ?_
  clear hK K
  (try simp only [Act.put, List.setIfInBounds_toArray, List.set_cons_zero, List.set_cons_succ])
  obtain ⟨ht, B3, k3⟩ := over6 (L := [.int .i64 (1 + r0), .int .i64 (1 + r1), .int .i64 (1024 + r2), .int .i64 (2 + r3), .int .i64 (1 + r4), .int .i64 (1 + r5)]) HBD.out rfl
  obtain ⟨w3, hw3⟩ : ∃ x, x = wd.setCells (w.heap.size + 1) 0 [.int .i64 (1 + r0), .int .i64 (1 + r1), .int .i64 (1024 + r2), .int .i64 (2 + r3), .int .i64 (1 + r4), .int .i64 (1 + r5)] := ⟨_, rfl⟩
  rw [← hw3] at B3 k3
  have HB3 := @hideH _ B3
  have HK3 := @hideH _ (HKD.out.trans k3 (fun y hy => .inr (by simp at hy; omega)))
  clear B3 k3
  refine wpAnyZ_one 29 rfl (by kernel_rfl) (fun K hK => ?_)
  rw [if_pos (by rfl)]
  refine wp_store_mid 25 (.tmp 2) (.tmp 31) rfl (w.heap.size + 1) 0 #[.int .i64 (1 + r0), .int .i64 (1 + r1), .int .i64 (1024 + r2), .int .i64 (2 + r3), .int .i64 (1 + r4), .int .i64 (1 + r5)] (by rfl) (by rfl) ht (by kernel_rfl) (by simp [Value.oneCell']) ?_
  refine hK _ _ (fun h => absurd rfl h) ?_
  clear hK K
  rw [show (#[.int .i64 (1 + r0), .int .i64 (1 + r1), .int .i64 (1024 + r2), .int .i64 (2 + r3), .int .i64 (1 + r4), .int .i64 (1 + r5)] : Array Value).toList = [.int .i64 (1 + r0), .int .i64 (1 + r1), .int .i64 (1024 + r2), .int .i64 (2 + r3), .int .i64 (1 + r4), .int .i64 (1 + r5)] from rfl, ← hw3]
  clear hw3 ht hS
  (try simp only [Act.put, List.setIfInBounds_toArray, List.set_cons_zero, List.set_cons_succ])
  refine wpAnyZ_done (by kernel_rfl) ?_ _
  go_wp2
  refine bodyPost_ret (v := .agg #[.int .i64 (1 + r0), .int .i64 (1 + r1), .int .i64 (1024 + r2), .int .i64 (2 + r3), .int .i64 (1 + r4), .int .i64 (1 + r5)]) (results_cell_row Tryz.results8 _ w3 (w.heap.size + 1) 25 _ (0, 0) _ (by rfl) HB3.out Tryz.underlying25 rfl (by kernel_rfl)) rfl ?_
  exact ⟨by rw [HRS.out], HK3.out⟩
end Go.Proofs.YtnjfahgmebmakaaGreatDoor

