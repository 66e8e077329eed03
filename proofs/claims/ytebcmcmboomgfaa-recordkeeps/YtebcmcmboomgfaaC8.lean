import Derived.Recover
import Derived.Laws.IdiomStrings
import Derived.Test.YtebcmcmboomgfaaC7
/-
  OWN WORK (by mkpr4.py). record: bytesOfKind.
-/
namespace Go.Proofs.Ytebcmcmboomgfaa
open Go.RowKit
set_option linter.unusedVariables false
set_option linter.unusedSimpArgs false

set_option maxRecDepth 20000 in
set_option maxHeartbeats 6400000 in
theorem qKind_1 (V : RV) (birth prev id page frm : Int) (before after : List UInt8) (next : Int) (rows : List RowR) (dirty : List RecR) (w : World) (h : SeeR w V (⟨1, birth, prev, id, page, frm, before, after, next, rows, dirty⟩ : Rcd)) (hR : (⟨1, birth, prev, id, page, frm, before, after, next, rows, dirty⟩ : Rcd).Right) : Calls Try.prog 31 #[(⟨1, birth, prev, id, page, frm, before, after, next, rows, dirty⟩ : Rcd).agg V] w fun e w' => ∃ u, e = .returned u ∧ Acc w w' u (tailB (⟨1, birth, prev, id, page, frm, before, after, next, rows, dirty⟩ : Rcd)) := by
  obtain ⟨pb, cb, pa, ca, pr, cr, pd, cd, rfl⟩ := h.shapes
  have hid : 1 ≤ id ∧ id ≤ 64 := by have q := hR.2.2.1; simp at q; exact q
  have h1 := fun w => qOne id w (by omega) (by omega)
  have eT : tailB (⟨1, birth, prev, id, page, frm, before, after, next, rows, dirty⟩ : Rcd) = putN 1 id.toNat := by unfold tailB; simp
  rw [eT]
  clear eT hid hR h
  unfold Rcd.agg
  dsimp only
  obtain ⟨wa, hwa⟩ : ∃ wa, wa = w.alloc (.cells #[.int .i64 1, .int .i64 birth, .int .i64 prev, .int .i64 id, .int .i64 page, .int .i64 frm, .slice pb before.length cb, .slice pa after.length ca, .int .i64 next, .slice pr rows.length cr, .slice pd dirty.length cd] 26) := ⟨_, rfl⟩
  have ba : Blk wa w.heap.size 26 [.int .i64 1, .int .i64 birth, .int .i64 prev, .int .i64 id, .int .i64 page, .int .i64 frm, .slice pb before.length cb, .slice pa after.length ca, .int .i64 next, .slice pr rows.length cr, .slice pd dirty.length cd] := by rw [hwa]; exact Blk.new w _ _
  have KA := @hideH _ (show Kept [] w wa by rw [hwa]; exact (Kept.refl [] w).alloc _)
  have c0 := ba.cell (j := 0) rfl
  have c1 := ba.cell (j := 1) rfl
  have c2 := ba.cell (j := 2) rfl
  have c3 := ba.cell (j := 3) rfl
  have c4 := ba.cell (j := 4) rfl
  have c5 := ba.cell (j := 5) rfl
  have c6 := ba.cell (j := 6) rfl
  have c7 := ba.cell (j := 7) rfl
  have c8 := ba.cell (j := 8) rfl
  have c9 := ba.cell (j := 9) rfl
  have c10 := ba.cell (j := 10) rfl
  have HBA := @hideH _ ba
  clear ba
  go_enter Try.func31, Try.ntmps31
  go_upto_region 1 with fail
  rw [← hwa]
  clear hwa
  go_wp2_with fail
  refine (h1 _).mono ?_
  rintro e w1 ⟨u1, rfl, a1⟩
  have REL := @hideH _ (a1.low KA.out)
  clear a1
  go_wp2
  go_ret
  exact ⟨_, rfl, REL.out⟩
set_option maxRecDepth 20000 in
set_option maxHeartbeats 6400000 in
theorem qKind_2 (V : RV) (birth prev id page frm : Int) (before after : List UInt8) (next : Int) (rows : List RowR) (dirty : List RecR) (w : World) (h : SeeR w V (⟨2, birth, prev, id, page, frm, before, after, next, rows, dirty⟩ : Rcd)) (hR : (⟨2, birth, prev, id, page, frm, before, after, next, rows, dirty⟩ : Rcd).Right) : Calls Try.prog 31 #[(⟨2, birth, prev, id, page, frm, before, after, next, rows, dirty⟩ : Rcd).agg V] w fun e w' => ∃ u, e = .returned u ∧ Acc w w' u (tailB (⟨2, birth, prev, id, page, frm, before, after, next, rows, dirty⟩ : Rcd)) := by
  obtain ⟨pb, cb, pa, ca, pr, cr, pd, cd, rfl⟩ := h.shapes
  have hrg : rangedOk (⟨2, birth, prev, id, page, frm, before, after, next, rows, dirty⟩ : Rcd) := by have q := hR.2.2.2.2.2.1; simp at q; exact q
  have hRB := fun wz (kz : Kept [] w wz) => qRangeB (⟨.slice pb before.length cb, .slice pa after.length ca, .slice pr rows.length cr, .slice pd dirty.length cd⟩ : RV) (⟨2, birth, prev, id, page, frm, before, after, next, rows, dirty⟩ : Rcd) wz (h.kept kz) hrg
  have hpt : partsOk (⟨2, birth, prev, id, page, frm, before, after, next, rows, dirty⟩ : Rcd) := by have q := hR.2.2.2.2.2.2; simp at q; exact q
  have eT : tailB (⟨2, birth, prev, id, page, frm, before, after, next, rows, dirty⟩ : Rcd) = flat [rangeB (⟨2, birth, prev, id, page, frm, before, after, next, rows, dirty⟩ : Rcd), before, after] := by rw [flat3]; unfold tailB rangeB; simp
  have HLN := @hideH _ (show (flat [rangeB (⟨2, birth, prev, id, page, frm, before, after, next, rows, dirty⟩ : Rcd), before, after]).length ≤ 100000 by rw [flat3]; simp only [List.length_append, rangeB_length]; have q1 := hrg.2.1.2; have q2 := hpt.1; simp only at q1 q2; omega)
  rw [eT]
  have HB := @hideH _ h.before
  have HAF := @hideH _ h.after
  clear eT hrg hR h hpt
  unfold Rcd.agg at hRB ⊢
  dsimp only at hRB HB HAF ⊢
  generalize rangeB (⟨2, birth, prev, id, page, frm, before, after, next, rows, dirty⟩ : Rcd) = RB at hRB HLN ⊢
  obtain ⟨wa, hwa⟩ : ∃ wa, wa = w.alloc (.cells #[.int .i64 2, .int .i64 birth, .int .i64 prev, .int .i64 id, .int .i64 page, .int .i64 frm, .slice pb before.length cb, .slice pa after.length ca, .int .i64 next, .slice pr rows.length cr, .slice pd dirty.length cd] 26) := ⟨_, rfl⟩
  have ba : Blk wa w.heap.size 26 [.int .i64 2, .int .i64 birth, .int .i64 prev, .int .i64 id, .int .i64 page, .int .i64 frm, .slice pb before.length cb, .slice pa after.length ca, .int .i64 next, .slice pr rows.length cr, .slice pd dirty.length cd] := by rw [hwa]; exact Blk.new w _ _
  have KA := @hideH _ (show Kept [] w wa by rw [hwa]; exact (Kept.refl [] w).alloc _)
  have c0 := ba.cell (j := 0) rfl
  have c1 := ba.cell (j := 1) rfl
  have c2 := ba.cell (j := 2) rfl
  have c3 := ba.cell (j := 3) rfl
  have c4 := ba.cell (j := 4) rfl
  have c5 := ba.cell (j := 5) rfl
  have c6 := ba.cell (j := 6) rfl
  have c7 := ba.cell (j := 7) rfl
  have c8 := ba.cell (j := 8) rfl
  have c9 := ba.cell (j := 9) rfl
  have c10 := ba.cell (j := 10) rfl
  have HBA := @hideH _ ba
  clear ba
  go_enter Try.func31, Try.ntmps31
  go_upto_region 1 with fail
  rw [← hwa]
  clear hwa
  have kx : Kept [] wa wa.drew := (Kept.refl [] wa).drew
  go_upto_region 5 with fail
  go_region_held3 (fun w' => w'.cell? ⟨w.heap.size, 0, none⟩ = some (.int .i64 2) ∧ w'.cell? ⟨w.heap.size, 1, none⟩ = some (.int .i64 birth) ∧ w'.cell? ⟨w.heap.size, 2, none⟩ = some (.int .i64 prev) ∧ w'.cell? ⟨w.heap.size, 3, none⟩ = some (.int .i64 id) ∧ w'.cell? ⟨w.heap.size, 4, none⟩ = some (.int .i64 page) ∧ w'.cell? ⟨w.heap.size, 5, none⟩ = some (.int .i64 frm) ∧ w'.cell? ⟨w.heap.size, 6, none⟩ = some (.slice pb before.length cb) ∧ w'.cell? ⟨w.heap.size, 7, none⟩ = some (.slice pa after.length ca) ∧ w'.cell? ⟨w.heap.size, 8, none⟩ = some (.int .i64 next) ∧ w'.cell? ⟨w.heap.size, 9, none⟩ = some (.slice pr rows.length cr) ∧ w'.cell? ⟨w.heap.size, 10, none⟩ = some (.slice pd dirty.length cd))
    (first | (with_reducible exact ⟨kx.cell c0 (by simp), kx.cell c1 (by simp), kx.cell c2 (by simp), kx.cell c3 (by simp), kx.cell c4 (by simp), kx.cell c5 (by simp), kx.cell c6 (by simp), kx.cell c7 (by simp), kx.cell c8 (by simp), kx.cell c9 (by simp), kx.cell c10 (by simp)⟩) | (with_reducible exact ⟨(kx.alloc _).cell c0 (by simp), (kx.alloc _).cell c1 (by simp), (kx.alloc _).cell c2 (by simp), (kx.alloc _).cell c3 (by simp), (kx.alloc _).cell c4 (by simp), (kx.alloc _).cell c5 (by simp), (kx.alloc _).cell c6 (by simp), (kx.alloc _).cell c7 (by simp), (kx.alloc _).cell c8 (by simp), (kx.alloc _).cell c9 (by simp), (kx.alloc _).cell c10 (by simp)⟩) | fail)
    (first
      | (go_at_call 51; refine (hRB _ (KA.out.then kx)).mono ?_; rintro e w1 ⟨u1, rfl, a1⟩; obtain ⟨p1, q1, rfl⟩ := own_shape2 a1.1; replace kx := kx.then a1.2)
      | (go_at_call 28; refine (qJoin _ [RB, before, after] _ (Bss.lit3 w1 _ _ _ _ _ _ _ a1.bs (HB.out.kept (KA.out.then kx)) (HAF.out.kept (KA.out.then kx)) _ rfl) HLN.out).mono ?_; rintro e wj ⟨uj, rfl, aj⟩; have ky := kx; replace kx := (kx.alloc _).then aj.2)
      | fail)
  have REL := @hideH _ (aj.low ((KA.out.then ky).alloc _))
  clear aj ky kx a1 hRB
  go_wp2
  go_ret
  exact ⟨_, rfl, REL.out⟩
set_option maxRecDepth 20000 in
set_option maxHeartbeats 6400000 in
theorem qKind_3 (V : RV) (birth prev id page frm : Int) (before after : List UInt8) (next : Int) (rows : List RowR) (dirty : List RecR) (w : World) (h : SeeR w V (⟨3, birth, prev, id, page, frm, before, after, next, rows, dirty⟩ : Rcd)) (hR : (⟨3, birth, prev, id, page, frm, before, after, next, rows, dirty⟩ : Rcd).Right) : Calls Try.prog 31 #[(⟨3, birth, prev, id, page, frm, before, after, next, rows, dirty⟩ : Rcd).agg V] w fun e w' => ∃ u, e = .returned u ∧ Acc w w' u (tailB (⟨3, birth, prev, id, page, frm, before, after, next, rows, dirty⟩ : Rcd)) := by
  obtain ⟨pb, cb, pa, ca, pr, cr, pd, cd, rfl⟩ := h.shapes
  have hrg : rangedOk (⟨3, birth, prev, id, page, frm, before, after, next, rows, dirty⟩ : Rcd) := by have q := hR.2.2.2.2.2.1; simp at q; exact q
  have hRB := fun wz (kz : Kept [] w wz) => qRangeB (⟨.slice pb before.length cb, .slice pa after.length ca, .slice pr rows.length cr, .slice pd dirty.length cd⟩ : RV) (⟨3, birth, prev, id, page, frm, before, after, next, rows, dirty⟩ : Rcd) wz (h.kept kz) hrg
  have hnx : nextOk next := by have q := hR.2.2.2.2.1; simp at q; exact q
  have h8 := fun w => qEight next w hnx.1 hnx.2
  have eT : tailB (⟨3, birth, prev, id, page, frm, before, after, next, rows, dirty⟩ : Rcd) = flat [rangeB (⟨3, birth, prev, id, page, frm, before, after, next, rows, dirty⟩ : Rcd), after, putN 8 next.toNat] := by rw [flat3]; unfold tailB rangeB; simp
  have HLN := @hideH _ (show (flat [rangeB (⟨3, birth, prev, id, page, frm, before, after, next, rows, dirty⟩ : Rcd), after, putN 8 next.toNat]).length ≤ 100000 by rw [flat3]; simp only [List.length_append, rangeB_length, putN_length]; have q1 := hrg.2.1.2; simp only at q1; omega)
  rw [eT]
  have HB := @hideH _ h.before
  have HAF := @hideH _ h.after
  clear eT hrg hR h hnx
  unfold Rcd.agg at hRB ⊢
  dsimp only at hRB HB HAF ⊢
  generalize rangeB (⟨3, birth, prev, id, page, frm, before, after, next, rows, dirty⟩ : Rcd) = RB at hRB HLN ⊢
  obtain ⟨wa, hwa⟩ : ∃ wa, wa = w.alloc (.cells #[.int .i64 3, .int .i64 birth, .int .i64 prev, .int .i64 id, .int .i64 page, .int .i64 frm, .slice pb before.length cb, .slice pa after.length ca, .int .i64 next, .slice pr rows.length cr, .slice pd dirty.length cd] 26) := ⟨_, rfl⟩
  have ba : Blk wa w.heap.size 26 [.int .i64 3, .int .i64 birth, .int .i64 prev, .int .i64 id, .int .i64 page, .int .i64 frm, .slice pb before.length cb, .slice pa after.length ca, .int .i64 next, .slice pr rows.length cr, .slice pd dirty.length cd] := by rw [hwa]; exact Blk.new w _ _
  have KA := @hideH _ (show Kept [] w wa by rw [hwa]; exact (Kept.refl [] w).alloc _)
  have c0 := ba.cell (j := 0) rfl
  have c1 := ba.cell (j := 1) rfl
  have c2 := ba.cell (j := 2) rfl
  have c3 := ba.cell (j := 3) rfl
  have c4 := ba.cell (j := 4) rfl
  have c5 := ba.cell (j := 5) rfl
  have c6 := ba.cell (j := 6) rfl
  have c7 := ba.cell (j := 7) rfl
  have c8 := ba.cell (j := 8) rfl
  have c9 := ba.cell (j := 9) rfl
  have c10 := ba.cell (j := 10) rfl
  have HBA := @hideH _ ba
  clear ba
  go_enter Try.func31, Try.ntmps31
  go_upto_region 1 with fail
  rw [← hwa]
  clear hwa
  have kx : Kept [] wa wa.drew := (Kept.refl [] wa).drew
  go_upto_region 7 with fail
  go_region_held3 (fun w' => w'.cell? ⟨w.heap.size, 0, none⟩ = some (.int .i64 3) ∧ w'.cell? ⟨w.heap.size, 1, none⟩ = some (.int .i64 birth) ∧ w'.cell? ⟨w.heap.size, 2, none⟩ = some (.int .i64 prev) ∧ w'.cell? ⟨w.heap.size, 3, none⟩ = some (.int .i64 id) ∧ w'.cell? ⟨w.heap.size, 4, none⟩ = some (.int .i64 page) ∧ w'.cell? ⟨w.heap.size, 5, none⟩ = some (.int .i64 frm) ∧ w'.cell? ⟨w.heap.size, 6, none⟩ = some (.slice pb before.length cb) ∧ w'.cell? ⟨w.heap.size, 7, none⟩ = some (.slice pa after.length ca) ∧ w'.cell? ⟨w.heap.size, 8, none⟩ = some (.int .i64 next) ∧ w'.cell? ⟨w.heap.size, 9, none⟩ = some (.slice pr rows.length cr) ∧ w'.cell? ⟨w.heap.size, 10, none⟩ = some (.slice pd dirty.length cd))
    (first | (with_reducible exact ⟨kx.cell c0 (by simp), kx.cell c1 (by simp), kx.cell c2 (by simp), kx.cell c3 (by simp), kx.cell c4 (by simp), kx.cell c5 (by simp), kx.cell c6 (by simp), kx.cell c7 (by simp), kx.cell c8 (by simp), kx.cell c9 (by simp), kx.cell c10 (by simp)⟩) | (with_reducible exact ⟨(kx.alloc _).cell c0 (by simp), (kx.alloc _).cell c1 (by simp), (kx.alloc _).cell c2 (by simp), (kx.alloc _).cell c3 (by simp), (kx.alloc _).cell c4 (by simp), (kx.alloc _).cell c5 (by simp), (kx.alloc _).cell c6 (by simp), (kx.alloc _).cell c7 (by simp), (kx.alloc _).cell c8 (by simp), (kx.alloc _).cell c9 (by simp), (kx.alloc _).cell c10 (by simp)⟩) | fail)
    (first
      | (go_at_call 51; refine (hRB _ (KA.out.then kx)).mono ?_; rintro e w1 ⟨u1, rfl, a1⟩; obtain ⟨p1, q1, rfl⟩ := own_shape2 a1.1; replace kx := kx.then a1.2)
      | (go_at_call 30; refine (h8 _).mono ?_; rintro e w2 ⟨u2, rfl, a2⟩; obtain ⟨p2, q2, rfl⟩ := own_shape2 a2.1; replace kx := kx.then a2.2)
      | (go_at_call 28; refine (qJoin _ [RB, after, putN 8 next.toNat] _ (Bss.lit3 w2 _ _ _ _ _ _ _ (a1.then a2.2).bs (HAF.out.kept (KA.out.then kx)) a2.bs _ rfl) HLN.out).mono ?_; rintro e wj ⟨uj, rfl, aj⟩; have ky := kx; replace kx := (kx.alloc _).then aj.2)
      | fail)
  have REL := @hideH _ (aj.low ((KA.out.then ky).alloc _))
  clear aj ky kx a1 a2 h8 hRB
  go_wp2
  go_ret
  exact ⟨_, rfl, REL.out⟩
set_option maxRecDepth 20000 in
set_option maxHeartbeats 6400000 in
theorem qKind_4 (V : RV) (birth prev id page frm : Int) (before after : List UInt8) (next : Int) (rows : List RowR) (dirty : List RecR) (w : World) (h : SeeR w V (⟨4, birth, prev, id, page, frm, before, after, next, rows, dirty⟩ : Rcd)) (hR : (⟨4, birth, prev, id, page, frm, before, after, next, rows, dirty⟩ : Rcd).Right) : Calls Try.prog 31 #[(⟨4, birth, prev, id, page, frm, before, after, next, rows, dirty⟩ : Rcd).agg V] w fun e w' => ∃ u, e = .returned u ∧ Acc w w' u (tailB (⟨4, birth, prev, id, page, frm, before, after, next, rows, dirty⟩ : Rcd)) := by
  obtain ⟨pb, cb, pa, ca, pr, cr, pd, cd, rfl⟩ := h.shapes
  have eT : tailB (⟨4, birth, prev, id, page, frm, before, after, next, rows, dirty⟩ : Rcd) = [] := by unfold tailB; simp
  rw [eT]
  clear eT hR h
  unfold Rcd.agg
  dsimp only
  obtain ⟨wa, hwa⟩ : ∃ wa, wa = w.alloc (.cells #[.int .i64 4, .int .i64 birth, .int .i64 prev, .int .i64 id, .int .i64 page, .int .i64 frm, .slice pb before.length cb, .slice pa after.length ca, .int .i64 next, .slice pr rows.length cr, .slice pd dirty.length cd] 26) := ⟨_, rfl⟩
  have ba : Blk wa w.heap.size 26 [.int .i64 4, .int .i64 birth, .int .i64 prev, .int .i64 id, .int .i64 page, .int .i64 frm, .slice pb before.length cb, .slice pa after.length ca, .int .i64 next, .slice pr rows.length cr, .slice pd dirty.length cd] := by rw [hwa]; exact Blk.new w _ _
  have KA := @hideH _ (show Kept [] w wa by rw [hwa]; exact (Kept.refl [] w).alloc _)
  have c0 := ba.cell (j := 0) rfl
  have c1 := ba.cell (j := 1) rfl
  have c2 := ba.cell (j := 2) rfl
  have c3 := ba.cell (j := 3) rfl
  have c4 := ba.cell (j := 4) rfl
  have c5 := ba.cell (j := 5) rfl
  have c6 := ba.cell (j := 6) rfl
  have c7 := ba.cell (j := 7) rfl
  have c8 := ba.cell (j := 8) rfl
  have c9 := ba.cell (j := 9) rfl
  have c10 := ba.cell (j := 10) rfl
  have HBA := @hideH _ ba
  clear ba
  go_enter Try.func31, Try.ntmps31
  go_upto_region 1 with fail
  rw [← hwa]
  clear hwa
  go_wp2
  go_ret
  exact ⟨_, rfl, Acc.nil KA.out⟩
set_option maxRecDepth 20000 in
set_option maxHeartbeats 6400000 in
theorem qKind_5 (V : RV) (birth prev id page frm : Int) (before after : List UInt8) (next : Int) (rows : List RowR) (dirty : List RecR) (w : World) (h : SeeR w V (⟨5, birth, prev, id, page, frm, before, after, next, rows, dirty⟩ : Rcd)) (hR : (⟨5, birth, prev, id, page, frm, before, after, next, rows, dirty⟩ : Rcd).Right) : Calls Try.prog 31 #[(⟨5, birth, prev, id, page, frm, before, after, next, rows, dirty⟩ : Rcd).agg V] w fun e w' => ∃ u, e = .returned u ∧ Acc w w' u (tailB (⟨5, birth, prev, id, page, frm, before, after, next, rows, dirty⟩ : Rcd)) := by
  obtain ⟨pb, cb, pa, ca, pr, cr, pd, cd, rfl⟩ := h.shapes
  have eT : tailB (⟨5, birth, prev, id, page, frm, before, after, next, rows, dirty⟩ : Rcd) = [] := by unfold tailB; simp
  rw [eT]
  clear eT hR h
  unfold Rcd.agg
  dsimp only
  obtain ⟨wa, hwa⟩ : ∃ wa, wa = w.alloc (.cells #[.int .i64 5, .int .i64 birth, .int .i64 prev, .int .i64 id, .int .i64 page, .int .i64 frm, .slice pb before.length cb, .slice pa after.length ca, .int .i64 next, .slice pr rows.length cr, .slice pd dirty.length cd] 26) := ⟨_, rfl⟩
  have ba : Blk wa w.heap.size 26 [.int .i64 5, .int .i64 birth, .int .i64 prev, .int .i64 id, .int .i64 page, .int .i64 frm, .slice pb before.length cb, .slice pa after.length ca, .int .i64 next, .slice pr rows.length cr, .slice pd dirty.length cd] := by rw [hwa]; exact Blk.new w _ _
  have KA := @hideH _ (show Kept [] w wa by rw [hwa]; exact (Kept.refl [] w).alloc _)
  have c0 := ba.cell (j := 0) rfl
  have c1 := ba.cell (j := 1) rfl
  have c2 := ba.cell (j := 2) rfl
  have c3 := ba.cell (j := 3) rfl
  have c4 := ba.cell (j := 4) rfl
  have c5 := ba.cell (j := 5) rfl
  have c6 := ba.cell (j := 6) rfl
  have c7 := ba.cell (j := 7) rfl
  have c8 := ba.cell (j := 8) rfl
  have c9 := ba.cell (j := 9) rfl
  have c10 := ba.cell (j := 10) rfl
  have HBA := @hideH _ ba
  clear ba
  go_enter Try.func31, Try.ntmps31
  go_upto_region 1 with fail
  rw [← hwa]
  clear hwa
  go_wp2
  go_ret
  exact ⟨_, rfl, Acc.nil KA.out⟩
set_option maxRecDepth 20000 in
set_option maxHeartbeats 6400000 in
theorem qKind_6 (V : RV) (birth prev id page frm : Int) (before after : List UInt8) (next : Int) (rows : List RowR) (dirty : List RecR) (w : World) (h : SeeR w V (⟨6, birth, prev, id, page, frm, before, after, next, rows, dirty⟩ : Rcd)) (hR : (⟨6, birth, prev, id, page, frm, before, after, next, rows, dirty⟩ : Rcd).Right) : Calls Try.prog 31 #[(⟨6, birth, prev, id, page, frm, before, after, next, rows, dirty⟩ : Rcd).agg V] w fun e w' => ∃ u, e = .returned u ∧ Acc w w' u (tailB (⟨6, birth, prev, id, page, frm, before, after, next, rows, dirty⟩ : Rcd)) := by
  obtain ⟨pb, cb, pa, ca, pr, cr, pd, cd, rfl⟩ := h.shapes
  have eT : tailB (⟨6, birth, prev, id, page, frm, before, after, next, rows, dirty⟩ : Rcd) = [] := by unfold tailB; simp
  rw [eT]
  clear eT hR h
  unfold Rcd.agg
  dsimp only
  obtain ⟨wa, hwa⟩ : ∃ wa, wa = w.alloc (.cells #[.int .i64 6, .int .i64 birth, .int .i64 prev, .int .i64 id, .int .i64 page, .int .i64 frm, .slice pb before.length cb, .slice pa after.length ca, .int .i64 next, .slice pr rows.length cr, .slice pd dirty.length cd] 26) := ⟨_, rfl⟩
  have ba : Blk wa w.heap.size 26 [.int .i64 6, .int .i64 birth, .int .i64 prev, .int .i64 id, .int .i64 page, .int .i64 frm, .slice pb before.length cb, .slice pa after.length ca, .int .i64 next, .slice pr rows.length cr, .slice pd dirty.length cd] := by rw [hwa]; exact Blk.new w _ _
  have KA := @hideH _ (show Kept [] w wa by rw [hwa]; exact (Kept.refl [] w).alloc _)
  have c0 := ba.cell (j := 0) rfl
  have c1 := ba.cell (j := 1) rfl
  have c2 := ba.cell (j := 2) rfl
  have c3 := ba.cell (j := 3) rfl
  have c4 := ba.cell (j := 4) rfl
  have c5 := ba.cell (j := 5) rfl
  have c6 := ba.cell (j := 6) rfl
  have c7 := ba.cell (j := 7) rfl
  have c8 := ba.cell (j := 8) rfl
  have c9 := ba.cell (j := 9) rfl
  have c10 := ba.cell (j := 10) rfl
  have HBA := @hideH _ ba
  clear ba
  go_enter Try.func31, Try.ntmps31
  go_upto_region 1 with fail
  rw [← hwa]
  clear hwa
  go_wp2
  go_ret
  exact ⟨_, rfl, Acc.nil KA.out⟩
set_option maxRecDepth 20000 in
set_option maxHeartbeats 6400000 in
theorem qKind_7 (V : RV) (birth prev id page frm : Int) (before after : List UInt8) (next : Int) (rows : List RowR) (dirty : List RecR) (w : World) (h : SeeR w V (⟨7, birth, prev, id, page, frm, before, after, next, rows, dirty⟩ : Rcd)) (hR : (⟨7, birth, prev, id, page, frm, before, after, next, rows, dirty⟩ : Rcd).Right) : Calls Try.prog 31 #[(⟨7, birth, prev, id, page, frm, before, after, next, rows, dirty⟩ : Rcd).agg V] w fun e w' => ∃ u, e = .returned u ∧ Acc w w' u (tailB (⟨7, birth, prev, id, page, frm, before, after, next, rows, dirty⟩ : Rcd)) := by
  obtain ⟨pb, cb, pa, ca, pr, cr, pd, cd, rfl⟩ := h.shapes
  have hls := (listsOk_iff (⟨7, birth, prev, id, page, frm, before, after, next, rows, dirty⟩ : Rcd)).1 (by have q := hR.2.2.2.1; simp at q; exact q)
  have ht := fun wz (kz : Kept [] w wz) => qTableB _ rows wz (h.rows.kept kz) hls.1
  have hd := fun wz (kz : Kept [] w wz) => qDirtyB _ dirty wz (h.dirty.kept kz) hls.2
  have eT : tailB (⟨7, birth, prev, id, page, frm, before, after, next, rows, dirty⟩ : Rcd) = flat [putN 1 rows.length ++ flatB rowB rows, putN 1 dirty.length ++ flatB recB dirty] := by rw [flat2]; unfold tailB; simp
  have HLN := @hideH _ (show (flat [putN 1 rows.length ++ flatB rowB rows, putN 1 dirty.length ++ flatB recB dirty]).length ≤ 100000 by rw [flat2]; simp only [List.length_append, putN_length]; rw [flatB_len rowB 26 _ (fun x _ => rowB_len x), flatB_len recB 9 _ (fun x _ => recB_len x)]; have q1 := hls.1.1; have q2 := hls.2.1; simp only at q1 q2; omega)
  rw [eT]
  clear eT hls hR h
  unfold Rcd.agg
  dsimp only at ht hd ⊢
  generalize putN 1 rows.length ++ flatB rowB rows = TB at ht HLN ⊢
  generalize putN 1 dirty.length ++ flatB recB dirty = DB at hd HLN ⊢
  obtain ⟨wa, hwa⟩ : ∃ wa, wa = w.alloc (.cells #[.int .i64 7, .int .i64 birth, .int .i64 prev, .int .i64 id, .int .i64 page, .int .i64 frm, .slice pb before.length cb, .slice pa after.length ca, .int .i64 next, .slice pr rows.length cr, .slice pd dirty.length cd] 26) := ⟨_, rfl⟩
  have ba : Blk wa w.heap.size 26 [.int .i64 7, .int .i64 birth, .int .i64 prev, .int .i64 id, .int .i64 page, .int .i64 frm, .slice pb before.length cb, .slice pa after.length ca, .int .i64 next, .slice pr rows.length cr, .slice pd dirty.length cd] := by rw [hwa]; exact Blk.new w _ _
  have KA := @hideH _ (show Kept [] w wa by rw [hwa]; exact (Kept.refl [] w).alloc _)
  have c0 := ba.cell (j := 0) rfl
  have c1 := ba.cell (j := 1) rfl
  have c2 := ba.cell (j := 2) rfl
  have c3 := ba.cell (j := 3) rfl
  have c4 := ba.cell (j := 4) rfl
  have c5 := ba.cell (j := 5) rfl
  have c6 := ba.cell (j := 6) rfl
  have c7 := ba.cell (j := 7) rfl
  have c8 := ba.cell (j := 8) rfl
  have c9 := ba.cell (j := 9) rfl
  have c10 := ba.cell (j := 10) rfl
  have HBA := @hideH _ ba
  clear ba
  go_enter Try.func31, Try.ntmps31
  go_upto_region 1 with fail
  rw [← hwa]
  clear hwa
  have kx : Kept [] wa wa.drew := (Kept.refl [] wa).drew
  go_upto_region 9 with fail
  go_region_held3 (fun w' => w'.cell? ⟨w.heap.size, 9, none⟩ = some (.slice pr rows.length cr) ∧ w'.cell? ⟨w.heap.size, 10, none⟩ = some (.slice pd dirty.length cd))
    (first | (with_reducible exact ⟨kx.cell c9 (by simp), kx.cell c10 (by simp)⟩) | (with_reducible exact ⟨(kx.alloc _).cell c9 (by simp), (kx.alloc _).cell c10 (by simp)⟩) | fail)
    (first
      | (go_at_call 52; refine (ht _ (KA.out.then kx)).mono ?_; rintro e w1 ⟨u1, rfl, a1⟩; obtain ⟨p1, q1, rfl⟩ := own_shape2 a1.1; replace kx := kx.then a1.2)
      | (go_at_call 53; refine (hd _ (KA.out.then kx)).mono ?_; rintro e w2 ⟨u2, rfl, a2⟩; obtain ⟨p2, q2, rfl⟩ := own_shape2 a2.1; replace kx := kx.then a2.2)
      | (go_at_call 28; refine (qJoin _ [TB, DB] _ (Bss.lit2 w2 _ _ _ _ _ (a1.then a2.2).bs a2.bs _ rfl) HLN.out).mono ?_; rintro e wj ⟨uj, rfl, aj⟩; have ky := kx; replace kx := (kx.alloc _).then aj.2)
      | fail)
  have REL := @hideH _ (aj.low ((KA.out.then ky).alloc _))
  clear aj ky kx a1 a2 ht hd
  go_wp2
  go_ret
  exact ⟨_, rfl, REL.out⟩
theorem qKind (V : RV) (r : Rcd) (w : World) (h : SeeR w V r) (hR : r.Right) : Calls Try.prog 31 #[r.agg V] w fun e w' => ∃ u, e = .returned u ∧ Acc w w' u (tailB r) := by
  obtain ⟨kind, birth, prev, id, page, frm, before, after, next, rows, dirty⟩ := r
  have : kind = 1 ∨ kind = 2 ∨ kind = 3 ∨ kind = 4 ∨ kind = 5 ∨ kind = 6 ∨ kind = 7 := by have hk := hR.1; simp only at hk; omega
  rcases this with rfl | rfl | rfl | rfl | rfl | rfl | rfl
  · exact qKind_1 V birth prev id page frm before after next rows dirty w h hR
  · exact qKind_2 V birth prev id page frm before after next rows dirty w h hR
  · exact qKind_3 V birth prev id page frm before after next rows dirty w h hR
  · exact qKind_4 V birth prev id page frm before after next rows dirty w h hR
  · exact qKind_5 V birth prev id page frm before after next rows dirty w h hR
  · exact qKind_6 V birth prev id page frm before after next rows dirty w h hR
  · exact qKind_7 V birth prev id page frm before after next rows dirty w h hR
end Go.Proofs.Ytebcmcmboomgfaa

/-
  OWN WORK. The laws of record: size, by the table.
-/
namespace Go.Proofs.Ytebcmcmboomgfaa
open Go.RowKit
set_option linter.unusedVariables false
set_option linter.unusedSimpArgs false

theorem flatB_length {α : Type} {f : α → List UInt8} {n : Nat} (h : ∀ a, (f a).length = n) : ∀ (l : List α), (flatB f l).length = n * l.length
  | [] => by simp [flatB]
  | a :: r => by simp [flatB, h a, flatB_length h r, Nat.mul_add, Nat.add_comm]
theorem rowB_length (x : RowR) : (rowB x).length = 26 := by simp [rowB, putN_length]
theorem recB_length (x : RecR) : (recB x).length = 9 := by simp [recB, putN_length]
/-- the table -/
def sizeT (r : Rcd) : Nat := if r.kind = 1 then 18 else if r.kind = 2 then 22 + 2 * r.after.length else if r.kind = 3 then 30 + r.after.length else if r.kind = 7 then 19 + 26 * r.rows.length + 9 * r.dirty.length else 17
theorem bytesR_length {r : Rcd} (h : r.Right) : (bytesR r).length = sizeT r := by
  obtain ⟨-, -, -, -, -, -, hp⟩ := h
  unfold bytesR sizeT tailB
  by_cases h1 : r.kind = 1
  · simp [h1, putN_length]
  by_cases h2 : r.kind = 2
  · rw [if_pos h2] at hp
    have := hp.1
    simp [h1, h2, putN_length]
    omega
  by_cases h3 : r.kind = 3
  · simp [h1, h2, h3, putN_length]
    omega
  by_cases h7 : r.kind = 7
  · simp [h1, h2, h3, h7, putN_length, flatB_length rowB_length, flatB_length recB_length]
    omega
  · simp [h1, h2, h3, h7, putN_length]
set_option maxRecDepth 20000 in
set_option maxHeartbeats 3200000 in
theorem size_any (V : RV) (r : Rcd) (w : World) (h : SeeR w V r) (hR : r.Right) : Calls Try.prog 15 #[r.agg V] w fun e w' => e = .returned (.int .i64 ((bytesR r).length : Int)) ∧ Kept [] w w' := by
  rw [bytesR_length hR]
  obtain ⟨pb, cb, pa, ca, pr, cr, pd, cd, rfl⟩ := h.shapes
  have hma : r.after.length ≤ maxLen := by obtain ⟨_, _, e, h1, h2, _⟩ := h.after; cases e; exact Nat.le_trans h1 h2
  have hlim : (r.kind = 7 → r.rows.length ≤ 8 ∧ r.dirty.length ≤ 16) ∧ r.after.length ≤ 140737488355328 ∨ True := .inr trivial
  have h8 : r.kind = 7 → r.rows.length ≤ 8 ∧ r.dirty.length ≤ 16 := fun e => by have := hR.2.2.2.1; rw [if_pos e] at this; exact this.1
  have ha8 : r.kind = 2 ∨ r.kind = 3 → r.after.length ≤ 128 := fun e => by have := hR.2.2.2.2.2.1; rw [if_pos e] at this; exact this.2.1.2
  obtain ⟨kind, birth, prev, id, page, frm, before, after, next, rows, dirty⟩ := r
  clear h hR hma hlim
  unfold Rcd.agg sizeT
  dsimp only at h8 ha8 ⊢
  obtain ⟨na, hna⟩ : ∃ na, na = after.length := ⟨_, rfl⟩
  obtain ⟨nr, hnr⟩ : ∃ nr, nr = rows.length := ⟨_, rfl⟩
  obtain ⟨nd, hnd⟩ : ∃ nd, nd = dirty.length := ⟨_, rfl⟩
  rw [← hna] at ha8
  rw [← hnr, ← hnd] at h8
  simp only [← hna, ← hnr, ← hnd]
  clear hna hnr hnd
  by_cases h1 : kind = 1
  · subst h1
    clear h8 ha8
    go_enter Try.func15, Try.ntmps15
    go_wp2
    go_ret
    exact ⟨rfl, (Kept.refl [] w).alloc _⟩
  have e1 : (kind == 1) = false := by simp [h1]
  by_cases h2 : kind = 2
  · subst h2
    have hb := ha8 (.inl rfl)
    have w1 : IntKind.i64.wrap (2 * (na : Int)) = 2 * (na : Int) := wrap_i64_of (by omega) (by omega)
    have w2 : IntKind.i64.wrap (22 + 2 * (na : Int)) = 22 + 2 * (na : Int) := wrap_i64_of (by omega) (by omega)
    clear h8 ha8 hb
    go_enter Try.func15, Try.ntmps15
    go_wp2
    go_ret
    exact ⟨by simp, (Kept.refl [] w).alloc _⟩
  have e2 : (kind == 2) = false := by simp [h2]
  by_cases h3 : kind = 3
  · subst h3
    have hb := ha8 (.inr rfl)
    have w2 : IntKind.i64.wrap (30 + (na : Int)) = 30 + (na : Int) := wrap_i64_of (by omega) (by omega)
    clear h8 ha8 hb
    go_enter Try.func15, Try.ntmps15
    go_wp2
    go_ret
    exact ⟨by simp, (Kept.refl [] w).alloc _⟩
  have e3 : (kind == 3) = false := by simp [h3]
  by_cases h7 : kind = 7
  · subst h7
    have hb := h8 rfl
    have w1 : IntKind.i64.wrap (26 * (nr : Int)) = 26 * (nr : Int) := wrap_i64_of (by omega) (by omega)
    have w2 : IntKind.i64.wrap (19 + 26 * (nr : Int)) = 19 + 26 * (nr : Int) := wrap_i64_of (by omega) (by omega)
    have w3 : IntKind.i64.wrap (9 * (nd : Int)) = 9 * (nd : Int) := wrap_i64_of (by omega) (by omega)
    have w4 : IntKind.i64.wrap (19 + 26 * (nr : Int) + 9 * (nd : Int)) = 19 + 26 * (nr : Int) + 9 * (nd : Int) := wrap_i64_of (by omega) (by omega)
    clear h8 ha8 hb
    go_enter Try.func15, Try.ntmps15
    go_wp2
    go_ret
    exact ⟨by simp, (Kept.refl [] w).alloc _⟩
  have e7 : (kind == 7) = false := by simp [h7]
  rw [if_neg h1, if_neg h2, if_neg h3, if_neg h7]
  clear h8 ha8
  go_enter Try.func15, Try.ntmps15
  go_wp2
  go_ret
  exact ⟨rfl, (Kept.refl [] w).alloc _⟩
end Go.Proofs.Ytebcmcmboomgfaa

/-
  OWN WORK (by mkpr4.py). record: Bytes, Size.
-/
namespace Go.Proofs.Ytebcmcmboomgfaa
open Go.RowKit
set_option linter.unusedVariables false
set_option linter.unusedSimpArgs false

theorem right_nums {r : Rcd} (h : r.Right) : (0 ≤ r.kind ∧ r.kind < 256) ∧ (0 ≤ r.birth ∧ r.birth ≤ 1152921504606846976) ∧ 0 ≤ r.prev ∧ r.prev ≤ 1152921504606846976 := by
  obtain ⟨⟨k1, k2⟩, hb, -⟩ := h
  refine ⟨by omega, ?_⟩
  split at hb
  · omega
  · obtain ⟨⟨a, a2⟩, b, b2⟩ := hb; omega
theorem bytesR_flat (r : Rcd) : bytesR r = flat [putN 1 r.kind.toNat, putN 8 r.birth.toNat, putN 8 r.prev.toNat, tailB r] := by rw [flat4]; rfl
theorem bytesR_small {r : Rcd} (h : r.Right) : (bytesR r).length ≤ 371 := by
  rw [bytesR_length h]
  unfold sizeT
  obtain ⟨-, -, -, hl, -, hr, -⟩ := h
  split
  · omega
  split
  · rename_i h2; simp [h2] at hr; have := hr.2.1.2; omega
  split
  · rename_i h3; simp [h3] at hr; have := hr.2.1.2; omega
  split
  · rename_i h7; simp [h7] at hl; have := hl.1; omega
  · omega
set_option maxRecDepth 20000 in
set_option maxHeartbeats 6400000 in
theorem qBytes_right (V : RV) (kind birth prev id page frm : Int) (before after : List UInt8) (next : Int) (rows : List RowR) (dirty : List RecR) (w : World) (h : SeeR w V (⟨kind, birth, prev, id, page, frm, before, after, next, rows, dirty⟩ : Rcd)) (hR : (⟨kind, birth, prev, id, page, frm, before, after, next, rows, dirty⟩ : Rcd).Right) : Calls Try.prog 10 #[(⟨kind, birth, prev, id, page, frm, before, after, next, rows, dirty⟩ : Rcd).agg V] w fun e w' => ∃ u, e = .returned (.tuple #[u, .int .i64 0]) ∧ Acc w w' u (bytesR (⟨kind, birth, prev, id, page, frm, before, after, next, rows, dirty⟩ : Rcd)) := by
  obtain ⟨pb, cb, pa, ca, pr, cr, pd, cd, rfl⟩ := h.shapes
  have hrt := fun wz (kz : Kept [] w wz) => qRight _ (⟨kind, birth, prev, id, page, frm, before, after, next, rows, dirty⟩ : Rcd) wz (h.kept kz)
  simp only [bl_t hR] at hrt
  have hkd := fun wz (kz : Kept [] w wz) => qKind _ (⟨kind, birth, prev, id, page, frm, before, after, next, rows, dirty⟩ : Rcd) wz (h.kept kz) hR
  have hn := right_nums hR
  simp only at hn
  have h1 := fun w => qOne kind w hn.1.1 hn.1.2
  have h2 := fun w => qEight birth w hn.2.1.1 hn.2.1.2
  have h3 := fun w => qEight prev w hn.2.2.1 hn.2.2.2
  have HLN := @hideH _ (show (flat [putN 1 kind.toNat, putN 8 birth.toNat, putN 8 prev.toNat, tailB (⟨kind, birth, prev, id, page, frm, before, after, next, rows, dirty⟩ : Rcd)]).length ≤ 100000 by have q := bytesR_small hR; rw [bytesR_flat] at q; simp only at q; omega)
  rw [bytesR_flat (⟨kind, birth, prev, id, page, frm, before, after, next, rows, dirty⟩ : Rcd)]
  clear hn hR h
  unfold Rcd.agg at hrt hkd ⊢
  dsimp only at hrt hkd ⊢
  generalize tailB (⟨kind, birth, prev, id, page, frm, before, after, next, rows, dirty⟩ : Rcd) = TB at hkd HLN ⊢
  obtain ⟨wa, hwa⟩ : ∃ wa, wa = w.alloc (.cells #[.int .i64 kind, .int .i64 birth, .int .i64 prev, .int .i64 id, .int .i64 page, .int .i64 frm, .slice pb before.length cb, .slice pa after.length ca, .int .i64 next, .slice pr rows.length cr, .slice pd dirty.length cd] 26) := ⟨_, rfl⟩
  have ba : Blk wa w.heap.size 26 [.int .i64 kind, .int .i64 birth, .int .i64 prev, .int .i64 id, .int .i64 page, .int .i64 frm, .slice pb before.length cb, .slice pa after.length ca, .int .i64 next, .slice pr rows.length cr, .slice pd dirty.length cd] := by rw [hwa]; exact Blk.new w _ _
  have KA := @hideH _ (show Kept [] w wa by rw [hwa]; exact (Kept.refl [] w).alloc _)
  have c0 := ba.cell (j := 0) rfl
  have c1 := ba.cell (j := 1) rfl
  have c2 := ba.cell (j := 2) rfl
  have c3 := ba.cell (j := 3) rfl
  have c4 := ba.cell (j := 4) rfl
  have c5 := ba.cell (j := 5) rfl
  have c6 := ba.cell (j := 6) rfl
  have c7 := ba.cell (j := 7) rfl
  have c8 := ba.cell (j := 8) rfl
  have c9 := ba.cell (j := 9) rfl
  have c10 := ba.cell (j := 10) rfl
  have HBA := @hideH _ ba
  clear ba
  go_enter Try.func10, Try.ntmps10
  go_upto_region 1 with fail
  rw [← hwa]
  clear hwa
  go_wp2_with fail
  refine (hrt _ KA.out).mono ?_
  rintro e w0 ⟨rfl, k0⟩
  clear hrt
  replace c0 := k0.cell c0 (by simp)
  replace c1 := k0.cell c1 (by simp)
  replace c2 := k0.cell c2 (by simp)
  replace c3 := k0.cell c3 (by simp)
  replace c4 := k0.cell c4 (by simp)
  replace c5 := k0.cell c5 (by simp)
  replace c6 := k0.cell c6 (by simp)
  replace c7 := k0.cell c7 (by simp)
  replace c8 := k0.cell c8 (by simp)
  replace c9 := k0.cell c9 (by simp)
  replace c10 := k0.cell c10 (by simp)
  have KB := @hideH _ (KA.out.then k0)
  clear k0 KA
  have tk : True := trivial
  have kx : Kept [] w0 w0.drew := (Kept.refl [] w0).drew
  go_upto_region 3 with fail
  go_region_held3 (fun w' => w'.cell? ⟨w.heap.size, 0, none⟩ = some (.int .i64 kind) ∧ w'.cell? ⟨w.heap.size, 1, none⟩ = some (.int .i64 birth) ∧ w'.cell? ⟨w.heap.size, 2, none⟩ = some (.int .i64 prev) ∧ w'.cell? ⟨w.heap.size, 3, none⟩ = some (.int .i64 id) ∧ w'.cell? ⟨w.heap.size, 4, none⟩ = some (.int .i64 page) ∧ w'.cell? ⟨w.heap.size, 5, none⟩ = some (.int .i64 frm) ∧ w'.cell? ⟨w.heap.size, 6, none⟩ = some (.slice pb before.length cb) ∧ w'.cell? ⟨w.heap.size, 7, none⟩ = some (.slice pa after.length ca) ∧ w'.cell? ⟨w.heap.size, 8, none⟩ = some (.int .i64 next) ∧ w'.cell? ⟨w.heap.size, 9, none⟩ = some (.slice pr rows.length cr) ∧ w'.cell? ⟨w.heap.size, 10, none⟩ = some (.slice pd dirty.length cd))
    (first | (with_reducible exact ⟨kx.cell c0 (by simp), kx.cell c1 (by simp), kx.cell c2 (by simp), kx.cell c3 (by simp), kx.cell c4 (by simp), kx.cell c5 (by simp), kx.cell c6 (by simp), kx.cell c7 (by simp), kx.cell c8 (by simp), kx.cell c9 (by simp), kx.cell c10 (by simp)⟩) | (with_reducible exact ⟨(kx.alloc _).cell c0 (by simp), (kx.alloc _).cell c1 (by simp), (kx.alloc _).cell c2 (by simp), (kx.alloc _).cell c3 (by simp), (kx.alloc _).cell c4 (by simp), (kx.alloc _).cell c5 (by simp), (kx.alloc _).cell c6 (by simp), (kx.alloc _).cell c7 (by simp), (kx.alloc _).cell c8 (by simp), (kx.alloc _).cell c9 (by simp), (kx.alloc _).cell c10 (by simp)⟩) | fail)
    (first
      | (go_at_call 29; refine (h1 _).mono ?_; rintro e w1 ⟨u1, rfl, a1⟩; obtain ⟨p1, q1, rfl⟩ := own_shape2 a1.1; replace kx := kx.then a1.2)
      | (go_at_call 30; clear tk; refine (h2 _).mono ?_; rintro e w2 ⟨u2, rfl, a2⟩; obtain ⟨p2, q2, rfl⟩ := own_shape2 a2.1; replace kx := kx.then a2.2)
      | (go_at_call 30; refine (h3 _).mono ?_; rintro e w3 ⟨u3, rfl, a3⟩; obtain ⟨p3, q3, rfl⟩ := own_shape2 a3.1; replace kx := kx.then a3.2)
      | (go_at_call 31; refine (hkd _ (KB.out.then kx)).mono ?_; rintro e w4 ⟨u4, rfl, a4⟩; obtain ⟨p4, q4, rfl⟩ := own_shape2 a4.1; replace kx := kx.then a4.2)
      | (go_at_call 28; refine (qJoin _ [putN 1 kind.toNat, putN 8 birth.toNat, putN 8 prev.toNat, TB] _ (Bss.lit4 w4 _ _ _ _ _ _ _ _ _ (((a1.then a2.2).then a3.2).then a4.2).bs ((a2.then a3.2).then a4.2).bs (a3.then a4.2).bs a4.bs _ rfl) HLN.out).mono ?_; rintro e wj ⟨uj, rfl, aj⟩; have ky := kx; replace kx := (kx.alloc _).then aj.2)
      | fail)
  have REL := @hideH _ (aj.low ((KB.out.then ky).alloc _))
  clear aj ky kx a1 a2 a3 a4 h1 h2 h3 hkd
  go_wp2
  go_ret2
  exact ⟨_, rfl, REL.out⟩
set_option maxHeartbeats 1600000 in
theorem qBytes_wrong (V : RV) (kind birth prev id page frm : Int) (before after : List UInt8) (next : Int) (rows : List RowR) (dirty : List RecR) (w : World) (h : SeeR w V (⟨kind, birth, prev, id, page, frm, before, after, next, rows, dirty⟩ : Rcd)) (hR : ¬ (⟨kind, birth, prev, id, page, frm, before, after, next, rows, dirty⟩ : Rcd).Right) : Calls Try.prog 10 #[(⟨kind, birth, prev, id, page, frm, before, after, next, rows, dirty⟩ : Rcd).agg V] w fun e w' => e = .returned (.tuple #[.slice none 0 0, .int .i64 90]) ∧ Kept [] w w' := by
  obtain ⟨pb, cb, pa, ca, pr, cr, pd, cd, rfl⟩ := h.shapes
  have hrt := fun wz (kz : Kept [] w wz) => qRight _ (⟨kind, birth, prev, id, page, frm, before, after, next, rows, dirty⟩ : Rcd) wz (h.kept kz)
  simp only [bl_f hR] at hrt
  clear hR h
  unfold Rcd.agg at hrt ⊢
  dsimp only at hrt ⊢
  obtain ⟨wa, hwa⟩ : ∃ wa, wa = w.alloc (.cells #[.int .i64 kind, .int .i64 birth, .int .i64 prev, .int .i64 id, .int .i64 page, .int .i64 frm, .slice pb before.length cb, .slice pa after.length ca, .int .i64 next, .slice pr rows.length cr, .slice pd dirty.length cd] 26) := ⟨_, rfl⟩
  have ba : Blk wa w.heap.size 26 [.int .i64 kind, .int .i64 birth, .int .i64 prev, .int .i64 id, .int .i64 page, .int .i64 frm, .slice pb before.length cb, .slice pa after.length ca, .int .i64 next, .slice pr rows.length cr, .slice pd dirty.length cd] := by rw [hwa]; exact Blk.new w _ _
  have KA := @hideH _ (show Kept [] w wa by rw [hwa]; exact (Kept.refl [] w).alloc _)
  have c0 := ba.cell (j := 0) rfl
  have c1 := ba.cell (j := 1) rfl
  have c2 := ba.cell (j := 2) rfl
  have c3 := ba.cell (j := 3) rfl
  have c4 := ba.cell (j := 4) rfl
  have c5 := ba.cell (j := 5) rfl
  have c6 := ba.cell (j := 6) rfl
  have c7 := ba.cell (j := 7) rfl
  have c8 := ba.cell (j := 8) rfl
  have c9 := ba.cell (j := 9) rfl
  have c10 := ba.cell (j := 10) rfl
  have HBA := @hideH _ ba
  clear ba
  go_enter Try.func10, Try.ntmps10
  go_upto_region 1 with fail
  rw [← hwa]
  clear hwa
  go_wp2_with fail
  refine (hrt _ KA.out).mono ?_
  rintro e w0 ⟨rfl, k0⟩
  clear hrt
  have KB := @hideH _ (KA.out.then k0)
  clear k0
  go_wp2
  go_ret2
  exact ⟨rfl, KB.out⟩
theorem qBytes (V : RV) (r : Rcd) (w : World) (h : SeeR w V r) : Calls Try.prog 10 #[r.agg V] w fun e w' => ∃ u, e = .returned (.tuple #[u, .int .i64 (errF r)]) ∧ Acc w w' u (bytesF r) := by
  obtain ⟨kind, birth, prev, id, page, frm, before, after, next, rows, dirty⟩ := r
  by_cases hR : (⟨kind, birth, prev, id, page, frm, before, after, next, rows, dirty⟩ : Rcd).Right
  · rw [errF_t hR, bytesF_t hR]
    exact qBytes_right V kind birth prev id page frm before after next rows dirty w h hR
  · rw [errF_f hR, bytesF_f hR]
    refine (qBytes_wrong V kind birth prev id page frm before after next rows dirty w h hR).mono ?_
    rintro e w' ⟨rfl, k⟩
    exact ⟨_, rfl, Acc.nil k⟩
set_option maxHeartbeats 800000 in
theorem qSize (V : RV) (r : Rcd) (w : World) (h : SeeR w V r) : Calls Try.prog 14 #[r.agg V] w fun e w' => e = .returned (.int .i64 ((bytesF r).length : Int)) ∧ Kept [] w w' := by
  obtain ⟨pb, cb, pa, ca, pr, cr, pd, cd, rfl⟩ := h.shapes
  have hb := fun wz (kz : Kept [] w wz) => qBytes _ r wz (h.kept kz)
  clear h
  unfold Rcd.agg at hb ⊢
  dsimp only at hb ⊢
  go_enter Try.func14, Try.ntmps14
  go_wp2_with fail
  refine (hb _ ((Kept.refl [] w).alloc _)).mono ?_
  rintro e w1 ⟨u, rfl, a⟩
  obtain ⟨p, q, rfl⟩ := own_shape2 a.1
  have KE := @hideH _ (((Kept.refl [] w).alloc _).then a.2)
  clear a hb
  go_wp2
  go_ret
  exact ⟨rfl, KE.out⟩
end Go.Proofs.Ytebcmcmboomgfaa

/-
  OWN WORK. record: the deferred function literal of Parse.
-/
namespace Go.Proofs.Ytebcmcmboomgfaa
open Go.RowKit
set_option linter.unusedVariables false
set_option linter.unusedSimpArgs false

theorem catch_idle (p q : Addr) (w : World) :
    CallsD Try.prog 32 #[.pointer (some p), .pointer (some q)] .returning w fun e u' w' => e = .returned (.tuple #[]) ∧ u' = .returning ∧ w' = w := by
  refine callsD_of_wpS Try.func32 rfl fun c₀ cs hu => ?_
  apply wpS_seq
  apply wpS_region
  simp [wpOpsS, go_sem, recoverD, hu, Try.ntmps32, Exit.thenS]
  refine wpS_cond (t := false) (by simp [Act.eval, Array.replicate]) ?_
  simp only [Bool.false_eq_true, if_false]
  refine wpS_of_wp (wp_skip ?_)
  cases c₀
  simp_all [bodyPostS, results, Try.results32]
theorem catch_panic (A E : Nat) (z0 z1 z2 z3 z4 z5 z6 z7 z8 z9 z10 ze : Value) (u : TypeId) (pv : Value) (w : World) (hA : Blk w A 26 [z0, z1, z2, z3, z4, z5, z6, z7, z8, z9, z10]) (hE : Blk w E 28 [ze]) (hne : A ≠ E) :
    CallsD Try.prog 32 #[.pointer (some ⟨A, 0, none⟩), .pointer (some ⟨E, 0, none⟩)] (.panicking [{ v := .iface u pv, recovered := false }]) w fun e u' w' =>
      e = .returned (.tuple #[]) ∧ u' = .panicking [{ v := .iface u pv, recovered := true }] ∧ Blk w' A 26 ((bareR 0 0 0).cl nilV) ∧ Blk w' E 28 [.int .i64 90] ∧ Kept [A, E] w w' := by
  refine callsD_of_wpS Try.func32 rfl fun c₀ cs hu => ?_
  apply wpS_seq
  apply wpS_region
  simp [wpOpsS, go_sem, recoverD, hu, Try.ntmps32, Exit.thenS]
  refine wpS_cond (t := true) (by simp [Act.eval, Array.replicate]) ?_
  simp only [if_true]
  refine wpS_of_wp ?_
  have a0 := hA.cell (j := 0) rfl
  have a1 := hA.cell (j := 1) rfl
  have a2 := hA.cell (j := 2) rfl
  have a3 := hA.cell (j := 3) rfl
  have a4 := hA.cell (j := 4) rfl
  have a5 := hA.cell (j := 5) rfl
  have a6 := hA.cell (j := 6) rfl
  have a7 := hA.cell (j := 7) rfl
  have a8 := hA.cell (j := 8) rfl
  have a9 := hA.cell (j := 9) rfl
  have a10 := hA.cell (j := 10) rfl
  have f0 := hA.free 0
  have f1 := hA.free 1
  have f2 := hA.free 2
  have f3 := hA.free 3
  have f4 := hA.free 4
  have f5 := hA.free 5
  have f6 := hA.free 6
  have f7 := hA.free 7
  have f8 := hA.free 8
  have f9 := hA.free 9
  have f10 := hA.free 10
  have e0 := hE.cell (j := 0) rfl
  have g0 := hE.free 0
  have hEA : E ≠ A := fun q => hne q.symm
  obtain ⟨B1, k1⟩ := hA.fill11 (.int .i64 0) (.int .i64 0) (.int .i64 0) (.int .i64 0) (.int .i64 0) (.int .i64 0) (.slice none 0 0) (.slice none 0 0) (.int .i64 0) (.slice none 0 0) (.slice none 0 0)
  obtain ⟨B2, k2⟩ := (hE.kept k1 (by simpa using hEA)).set 0 (.int .i64 90)
  have B3 := B1.kept k2 (by simpa using hne)
  have FIN := @hideH _ (And.intro B3 (And.intro B2 ((k1.mono (T := [A, E]) (fun x hx => by simp at hx ⊢; exact .inl hx)).trans k2 (fun x hx => .inl (by simp at hx ⊢; exact .inr hx)))))
  clear B1 B2 B3 k1 k2
  go_wp2
  exact ⟨rfl, _, rfl, .tuple #[], by simp [results, Try.results32], rfl, rfl, FIN.out⟩
end Go.Proofs.Ytebcmcmboomgfaa

/-
  OWN WORK (by mkpr9.py). record: Parse.
-/
namespace Go.Proofs.Ytebcmcmboomgfaa
open Go.RowKit
set_option linter.unusedVariables false
set_option linter.unusedSimpArgs false

theorem pr_yes {l : List UInt8} {x : Rcd} (h : pAll l = some (x, [])) (hR : x.Right) : parseR l = some x := by
  unfold parseR
  rw [h]
  simp [hR]
theorem pr_wrong {l : List UInt8} {x : Rcd} (h : pAll l = some (x, [])) (hR : ¬ x.Right) : parseR l = none := by
  unfold parseR
  rw [h]
  simp [hR]

set_option maxRecDepth 20000 in
set_option maxHeartbeats 6400000 in
theorem qParse (v : Value) (l : List UInt8) (w : World) (hv : Bs w v l) (hl : l.length ≤ 140737488355328) : Calls Try.prog 12 #[v] w fun e w' => (∃ x V, parseR l = some x ∧ e = .returned (.tuple #[x.agg V, .int .i64 0]) ∧ OwnR w.heap.size w' V x ∧ Kept [] w w') ∨ (parseR l = none ∧ e = .returned (.tuple #[(bareR 0 0 0).agg nilV, .int .i64 90]) ∧ Kept [] w w') := by
  have hmf : ∀ (fn : Fn) (first cap : Array Value) (w : World), (Instr.makeFunc fn first cap).run Try.prog w = .ok (.func fn first cap) w := fun _ _ _ _ => rfl
  have HLN := @hideH _ hl
  clear hl
  obtain ⟨w1, hw1⟩ : ∃ w1, w1 = (w.alloc (.cells #[.int .i64 0, .int .i64 0, .int .i64 0, .int .i64 0, .int .i64 0, .int .i64 0, .slice none 0 0, .slice none 0 0, .int .i64 0, .slice none 0 0, .slice none 0 0] 26)).alloc (.cells #[.int .i64 0] 28) := ⟨_, rfl⟩
  have K1 : Kept [] w w1 := by rw [hw1]; exact ((Kept.refl [] w).alloc _).alloc _
  have BA : Blk w1 w.heap.size 26 [.int .i64 0, .int .i64 0, .int .i64 0, .int .i64 0, .int .i64 0, .int .i64 0, .slice none 0 0, .slice none 0 0, .int .i64 0, .slice none 0 0, .slice none 0 0] := by rw [hw1]; exact (Blk.new w _ _).kept ((Kept.refl [] _).alloc _) (by simp)
  have BE : Blk w1 (w.heap.size + 1) 28 [.int .i64 0] := by rw [hw1]; have q := Blk.new (w.alloc (.cells #[.int .i64 0, .int .i64 0, .int .i64 0, .int .i64 0, .int .i64 0, .int .i64 0, .slice none 0 0, .slice none 0 0, .int .i64 0, .slice none 0 0, .slice none 0 0] 26)) 28 [.int .i64 0]; rw [World.size_alloc] at q; exact q
  have hN := newReader_low v l w1 (hv.kept K1) HLN.out
  obtain ⟨pv, cv, rfl, -⟩ := id hv
  clear hv
  go_enter_defers Try.func12, Try.ntmps12
  go_upto_region 2 with fail
  rw [← hw1]
  clear hw1
  go_wp2_with fail
  refine hN.mono ?_
  clear hN
  rintro e w2 ⟨g, rfl, hg, hr, k2⟩
  have hT := qTake g l w2 hr HLN.out
  unfold src at hT
  have BA2 := BA.kept k2 (by simp)
  have BE2 := BE.kept k2 (by simp)
  have hg2 : w.heap.size + 2 ≤ g := by have := BE.lt; omega
  go_wp2_with fail
  refine hT.mono ?_
  clear hT
  rintro e w3 (⟨x, V, hp, rfl, OW, k3⟩ | ⟨hno, ⟨xz, rfl⟩, k3⟩)
  rotate_left
  · have BA3 := BA2.kept k3 (by simp; omega)
    have BE3 := BE2.kept k3 (by simp; omega)
    have KE : Kept [] w w3 := (K1.then k2).trans k3 (fun y hy => .inr (by simp at hy; omega))
    refine leaves_cons (f := 32) (args := #[.pointer (some ⟨w.heap.size, 0, none⟩), .pointer (some ⟨w.heap.size + 1, 0, none⟩)]) (by simp) (by simp [go_sem]) ?_
    refine (catch_panic w.heap.size (w.heap.size + 1) _ _ _ _ _ _ _ _ _ _ _ _ _ _ w3 BA3 BE3 (by omega)).mono ?_
    rintro e u' w4 ⟨rfl, rfl, BA4, BE4, k4⟩
    have KF : Kept [] w w4 := KE.trans k4 (fun y hy => .inr (by simp at hy; omega))
    have q0 := BA4.cell (j := 0) rfl
    have q1 := BA4.cell (j := 1) rfl
    have q2 := BA4.cell (j := 2) rfl
    have q3 := BA4.cell (j := 3) rfl
    have q4 := BA4.cell (j := 4) rfl
    have q5 := BA4.cell (j := 5) rfl
    have q6 := BA4.cell (j := 6) rfl
    have q7 := BA4.cell (j := 7) rfl
    have q8 := BA4.cell (j := 8) rfl
    have q9 := BA4.cell (j := 9) rfl
    have q10 := BA4.cell (j := 10) rfl
    have qe := BE4.cell (j := 0) rfl
    have FIN := @hideH _ (And.intro hno KF)
    clear BA BE BA2 BE2 BA3 BE3 BA4 BE4 k2 k3 k4 K1 KE KF hno
    simp [Leaves, settle, results, Try.results12, go_sem, q0, q1, q2, q3, q4, q5, q6, q7, q8, q9, q10, qe]
    exact ⟨FIN.out.1, rfl, FIN.out.2⟩
  have BA3 := BA2.kept k3 (by simp; omega)
  have BE3 := BE2.kept k3 (by simp; omega)
  have K3 : Kept [] w w3 := (K1.then k2).trans k3 (fun y hy => .inr (by simp at hy; omega))
  have HSZ := @hideH _ (show w.heap.size + 2 ≤ w2.heap.size by have := BE2.lt; omega)
  have HSH := @hideH _ OW.see.shapes
  have HP := @hideH _ hp
  clear BA BE BA2 BE2 k2 k3 K1 hp hr
  obtain ⟨pb, cb, pa, ca, pr, cr, pd, cd, hV⟩ := HSH.out
  subst hV
  clear HSH
  obtain ⟨kind, birth, prev, id, page, frm, before, after, next, rows, dirty⟩ := x
  unfold Rcd.agg
  dsimp only
  obtain ⟨BA4, k4⟩ := BA3.fill11 (.int .i64 kind) (.int .i64 birth) (.int .i64 prev) (.int .i64 id) (.int .i64 page) (.int .i64 frm) (.slice pb before.length cb) (.slice pa after.length ca) (.int .i64 next) (.slice pr rows.length cr) (.slice pd dirty.length cd)
  have a0 := BA3.cell (j := 0) rfl
  have a1 := BA3.cell (j := 1) rfl
  have a2 := BA3.cell (j := 2) rfl
  have a3 := BA3.cell (j := 3) rfl
  have a4 := BA3.cell (j := 4) rfl
  have a5 := BA3.cell (j := 5) rfl
  have a6 := BA3.cell (j := 6) rfl
  have a7 := BA3.cell (j := 7) rfl
  have a8 := BA3.cell (j := 8) rfl
  have a9 := BA3.cell (j := 9) rfl
  have a10 := BA3.cell (j := 10) rfl
  have f0 := BA3.free 0
  have f1 := BA3.free 1
  have f2 := BA3.free 2
  have f3 := BA3.free 3
  have f4 := BA3.free 4
  have f5 := BA3.free 5
  have f6 := BA3.free 6
  have f7 := BA3.free 7
  have f8 := BA3.free 8
  have f9 := BA3.free 9
  have f10 := BA3.free 10
  obtain ⟨w4, hw4⟩ : ∃ w4, w4 = (((((((((((w3.setCell ⟨w.heap.size, 0, none⟩ (.int .i64 kind)).setCell ⟨w.heap.size, 1, none⟩ (.int .i64 birth)).setCell ⟨w.heap.size, 2, none⟩ (.int .i64 prev)).setCell ⟨w.heap.size, 3, none⟩ (.int .i64 id)).setCell ⟨w.heap.size, 4, none⟩ (.int .i64 page)).setCell ⟨w.heap.size, 5, none⟩ (.int .i64 frm)).setCell ⟨w.heap.size, 6, none⟩ (.slice pb before.length cb)).setCell ⟨w.heap.size, 7, none⟩ (.slice pa after.length ca)).setCell ⟨w.heap.size, 8, none⟩ (.int .i64 next)).setCell ⟨w.heap.size, 9, none⟩ (.slice pr rows.length cr)).setCell ⟨w.heap.size, 10, none⟩ (.slice pd dirty.length cd)) := ⟨_, rfl⟩
  rw [← hw4] at BA4 k4
  have OW4 := OW.kept k4 (fun y hy hm => by simp at hm; have e1 := (OW.ge hy).1; have e2 := HSZ.out; omega)
  have BE4 := BE3.kept k4 (by simp)
  have K4 : Kept [] w w4 := K3.trans k4 (fun y hy => .inr (by simp at hy; omega))
  clear BA3 BE3 k4 OW K3
  go_upto_region 3 with fail
  rw [← hw4]
  clear hw4 a0 f0 a1 f1 a2 f2 a3 f3 a4 f4 a5 f5 a6 f6 a7 f7 a8 f8 a9 f9 a10 f10
  have c0 := BA4.cell (j := 0) rfl
  have c1 := BA4.cell (j := 1) rfl
  have c2 := BA4.cell (j := 2) rfl
  have c3 := BA4.cell (j := 3) rfl
  have c4 := BA4.cell (j := 4) rfl
  have c5 := BA4.cell (j := 5) rfl
  have c6 := BA4.cell (j := 6) rfl
  have c7 := BA4.cell (j := 7) rfl
  have c8 := BA4.cell (j := 8) rfl
  have c9 := BA4.cell (j := 9) rfl
  have c10 := BA4.cell (j := 10) rfl
  have hRt := qRight _ _ w4 OW4.see
  unfold Rcd.agg at hRt
  dsimp only at hRt
  by_cases hR : (⟨kind, birth, prev, id, page, frm, before, after, next, rows, dirty⟩ : Rcd).Right
  · simp only [bl_t hR] at hRt
    have HPR := @hideH _ (pr_yes HP.out hR)
    clear hR
    go_wp2_with fail
    refine hRt.mono ?_
    clear hRt
    rintro e w5 ⟨rfl, k5⟩
    have BA5 := BA4.kept k5 (by simp)
    have BE5 := BE4.kept k5 (by simp)
    have OW5 := OW4.kept k5 (by simp)
    have K5 := K4.then k5
    replace c0 := k5.cell c0 (by simp)
    replace c1 := k5.cell c1 (by simp)
    replace c2 := k5.cell c2 (by simp)
    replace c3 := k5.cell c3 (by simp)
    replace c4 := k5.cell c4 (by simp)
    replace c5 := k5.cell c5 (by simp)
    replace c6 := k5.cell c6 (by simp)
    replace c7 := k5.cell c7 (by simp)
    replace c8 := k5.cell c8 (by simp)
    replace c9 := k5.cell c9 (by simp)
    replace c10 := k5.cell c10 (by simp)
    have f0 := BA5.free 0
    have f1 := BA5.free 1
    have f2 := BA5.free 2
    have f3 := BA5.free 3
    have f4 := BA5.free 4
    have f5 := BA5.free 5
    have f6 := BA5.free 6
    have f7 := BA5.free 7
    have f8 := BA5.free 8
    have f9 := BA5.free 9
    have f10 := BA5.free 10
    have ce := BE5.cell (j := 0) rfl
    have fe := BE5.free 0
    obtain ⟨BA6, k6⟩ := BA5.fill11 (.int .i64 kind) (.int .i64 birth) (.int .i64 prev) (.int .i64 id) (.int .i64 page) (.int .i64 frm) (.slice pb before.length cb) (.slice pa after.length ca) (.int .i64 next) (.slice pr rows.length cr) (.slice pd dirty.length cd)
    obtain ⟨BE7, k7⟩ := (BE5.kept k6 (by simp)).set 0 (.int .i64 0)
    have BA7 := BA6.kept k7 (by simp)
    have K7 := (K5.trans k6 (fun y hy => .inr (by simp at hy; omega))).trans k7 (fun y hy => .inr (by simp at hy; omega))
    have OW7 := (OW5.kept k6 (fun y hy hm => by simp at hm; have e1 := (OW5.ge hy).1; have e2 := HSZ.out; omega)).kept k7 (fun y hy hm => by simp at hm; have e1 := (OW5.ge hy).1; have e2 := HSZ.out; omega)
    obtain ⟨w7, hw7⟩ : ∃ w7, w7 = ((((((((((((w5.setCell ⟨w.heap.size, 0, none⟩ (.int .i64 kind)).setCell ⟨w.heap.size, 1, none⟩ (.int .i64 birth)).setCell ⟨w.heap.size, 2, none⟩ (.int .i64 prev)).setCell ⟨w.heap.size, 3, none⟩ (.int .i64 id)).setCell ⟨w.heap.size, 4, none⟩ (.int .i64 page)).setCell ⟨w.heap.size, 5, none⟩ (.int .i64 frm)).setCell ⟨w.heap.size, 6, none⟩ (.slice pb before.length cb)).setCell ⟨w.heap.size, 7, none⟩ (.slice pa after.length ca)).setCell ⟨w.heap.size, 8, none⟩ (.int .i64 next)).setCell ⟨w.heap.size, 9, none⟩ (.slice pr rows.length cr)).setCell ⟨w.heap.size, 10, none⟩ (.slice pd dirty.length cd)).setCell ⟨w.heap.size + 1, 0, none⟩ (.int .i64 0)) := ⟨_, rfl⟩
    rw [← hw7] at BA7 BE7 K7 OW7
    have FIN := @hideH _ (And.intro HPR.out (And.intro (OW7.mono (show w.heap.size ≤ w2.heap.size by have := HSZ.out; omega)) K7))
    clear BA4 BE4 OW4 K4 BA5 BE5 OW5 K5 BA6 k5 k6 k7 OW7 K7
    go_wp2
    rw [← hw7]
    clear hw7
    have q0 := BA7.cell (j := 0) rfl
    have q1 := BA7.cell (j := 1) rfl
    have q2 := BA7.cell (j := 2) rfl
    have q3 := BA7.cell (j := 3) rfl
    have q4 := BA7.cell (j := 4) rfl
    have q5 := BA7.cell (j := 5) rfl
    have q6 := BA7.cell (j := 6) rfl
    have q7 := BA7.cell (j := 7) rfl
    have q8 := BA7.cell (j := 8) rfl
    have q9 := BA7.cell (j := 9) rfl
    have q10 := BA7.cell (j := 10) rfl
    have qe := BE7.cell (j := 0) rfl
    refine leaves_cons (f := 32) (args := #[.pointer (some ⟨w.heap.size, 0, none⟩), .pointer (some ⟨w.heap.size + 1, 0, none⟩)]) (by simp) (by simp [go_sem]) ?_
    refine (catch_idle _ _ _).mono ?_
    rintro e u' w8 ⟨rfl, rfl, rfl⟩
    exact ⟨.tuple #[_, .int .i64 0], by simp [results, Try.results12, go_sem, q0, q1, q2, q3, q4, q5, q6, q7, q8, q9, q10, qe]; rfl, .inl ⟨_, _, FIN.out.1, rfl, FIN.out.2⟩⟩
  · simp only [bl_f hR] at hRt
    have HPR := @hideH _ (pr_wrong HP.out hR)
    clear hR
    go_wp2_with fail
    refine hRt.mono ?_
    clear hRt
    rintro e w5 ⟨rfl, k5⟩
    have BA5 := BA4.kept k5 (by simp)
    have BE5 := BE4.kept k5 (by simp)
    have K5 := K4.then k5
    replace c0 := k5.cell c0 (by simp)
    replace c1 := k5.cell c1 (by simp)
    replace c2 := k5.cell c2 (by simp)
    replace c3 := k5.cell c3 (by simp)
    replace c4 := k5.cell c4 (by simp)
    replace c5 := k5.cell c5 (by simp)
    replace c6 := k5.cell c6 (by simp)
    replace c7 := k5.cell c7 (by simp)
    replace c8 := k5.cell c8 (by simp)
    replace c9 := k5.cell c9 (by simp)
    replace c10 := k5.cell c10 (by simp)
    have f0 := BA5.free 0
    have f1 := BA5.free 1
    have f2 := BA5.free 2
    have f3 := BA5.free 3
    have f4 := BA5.free 4
    have f5 := BA5.free 5
    have f6 := BA5.free 6
    have f7 := BA5.free 7
    have f8 := BA5.free 8
    have f9 := BA5.free 9
    have f10 := BA5.free 10
    have ce := BE5.cell (j := 0) rfl
    have fe := BE5.free 0
    obtain ⟨BA6, k6⟩ := BA5.fill11 (.int .i64 0) (.int .i64 0) (.int .i64 0) (.int .i64 0) (.int .i64 0) (.int .i64 0) (.slice none 0 0) (.slice none 0 0) (.int .i64 0) (.slice none 0 0) (.slice none 0 0)
    obtain ⟨BE7, k7⟩ := (BE5.kept k6 (by simp)).set 0 (.int .i64 90)
    have BA7 := BA6.kept k7 (by simp)
    have K7 := (K5.trans k6 (fun y hy => .inr (by simp at hy; omega))).trans k7 (fun y hy => .inr (by simp at hy; omega))
    obtain ⟨w7, hw7⟩ : ∃ w7, w7 = ((((((((((((w5.setCell ⟨w.heap.size, 0, none⟩ (.int .i64 0)).setCell ⟨w.heap.size, 1, none⟩ (.int .i64 0)).setCell ⟨w.heap.size, 2, none⟩ (.int .i64 0)).setCell ⟨w.heap.size, 3, none⟩ (.int .i64 0)).setCell ⟨w.heap.size, 4, none⟩ (.int .i64 0)).setCell ⟨w.heap.size, 5, none⟩ (.int .i64 0)).setCell ⟨w.heap.size, 6, none⟩ (.slice none 0 0)).setCell ⟨w.heap.size, 7, none⟩ (.slice none 0 0)).setCell ⟨w.heap.size, 8, none⟩ (.int .i64 0)).setCell ⟨w.heap.size, 9, none⟩ (.slice none 0 0)).setCell ⟨w.heap.size, 10, none⟩ (.slice none 0 0)).setCell ⟨w.heap.size + 1, 0, none⟩ (.int .i64 90)) := ⟨_, rfl⟩
    rw [← hw7] at BA7 BE7 K7
    have FIN := @hideH _ (And.intro HPR.out K7)
    clear BA4 BE4 OW4 K4 BA5 BE5 K5 BA6 k5 k6 k7 K7
    go_wp2
    rw [← hw7]
    clear hw7
    have q0 := BA7.cell (j := 0) rfl
    have q1 := BA7.cell (j := 1) rfl
    have q2 := BA7.cell (j := 2) rfl
    have q3 := BA7.cell (j := 3) rfl
    have q4 := BA7.cell (j := 4) rfl
    have q5 := BA7.cell (j := 5) rfl
    have q6 := BA7.cell (j := 6) rfl
    have q7 := BA7.cell (j := 7) rfl
    have q8 := BA7.cell (j := 8) rfl
    have q9 := BA7.cell (j := 9) rfl
    have q10 := BA7.cell (j := 10) rfl
    have qe := BE7.cell (j := 0) rfl
    refine leaves_cons (f := 32) (args := #[.pointer (some ⟨w.heap.size, 0, none⟩), .pointer (some ⟨w.heap.size + 1, 0, none⟩)]) (by simp) (by simp [go_sem]) ?_
    refine (catch_idle _ _ _).mono ?_
    rintro e u' w8 ⟨rfl, rfl, rfl⟩
    exact ⟨.tuple #[(bareR 0 0 0).agg nilV, .int .i64 90], by simp [results, Try.results12, go_sem, q0, q1, q2, q3, q4, q5, q6, q7, q8, q9, q10, qe]; rfl, .inr ⟨FIN.out.1, rfl, FIN.out.2⟩⟩
end Go.Proofs.Ytebcmcmboomgfaa

/-
  OWN WORK. The law's alive.
-/
namespace Go.Proofs.Ytebcmcmboomgfaa
open Go.RowKit
set_option linter.unusedVariables false
set_option linter.unusedSimpArgs false

def W17 : List UInt8 := [4, 1, 0, 0, 0, 0, 0, 0, 0, 2, 1, 0, 0, 0, 0, 0, 0]
def R4 : Rcd := ⟨4, 1, 258, 0, 0, 0, [], [], 0, [], []⟩
theorem R4_right : R4.Right := by
  unfold R4 Rcd.Right lsnOk
  simp
theorem R4_bytes : bytesR R4 = W17 := by decide
theorem Bs.ofText (w : World) (e : TypeId) (l : List UInt8) (hl : l.length ≤ maxLen) : Bs (w.drew.alloc (.cells (bytesRow ⟨l.toArray⟩ (grownCap w (ByteArray.mk l.toArray).size 0 e)) e ((bytesRow ⟨l.toArray⟩ (grownCap w (ByteArray.mk l.toArray).size 0 e)).size, (bytesRow ⟨l.toArray⟩ (grownCap w (ByteArray.mk l.toArray).size 0 e)).size + 1))) (.slice (some ⟨w.heap.size, 0, none⟩) l.length (grownCap w (ByteArray.mk l.toArray).size 0 e)) l := by
  have hs : (ByteArray.mk l.toArray).size = l.length := by simp [ByteArray.size]
  rw [hs]
  refine Bs.mk (grownCap_ge w l.length 0 e) (grownCap_le_maxLen w l.length 0 e hl) fun i x hx => ?_
  have hi := (List.getElem?_eq_some_iff.1 hx).1
  have h1 := World.cell?_alloc_mark w.drew (bytesRow ⟨l.toArray⟩ (grownCap w l.length 0 e)) e ((bytesRow ⟨l.toArray⟩ (grownCap w l.length 0 e)).size, (bytesRow ⟨l.toArray⟩ (grownCap w l.length 0 e)).size + 1) i
  have h2 := bytesRow_at ⟨l.toArray⟩ (grownCap w l.length 0 e) i (by simpa using hi)
  rw [h2] at h1
  have hx' : l[i] = x := by simpa [List.getElem?_eq_getElem hi] using hx
  simp [hx'] at h1
  simpa using h1
set_option maxRecDepth 20000 in
set_option maxHeartbeats 3200000 in
theorem alive_any (w : World) : Calls Try.prog 9 #[] w fun e w' => e = .returned (.bool true) ∧ Kept [] w w' := by
  have hl1 := Bs.litF w 5 W17 #[.int .u8 4, .int .u8 1, .int .u8 0, .int .u8 0, .int .u8 0, .int .u8 0, .int .u8 0, .int .u8 0, .int .u8 0, .int .u8 2, .int .u8 1, .int .u8 0, .int .u8 0, .int .u8 0, .int .u8 0, .int .u8 0, .int .u8 0] (0, 0) (by rfl) (by simp [W17, maxLen]) _ rfl
  have t1 := hl1.textR
  obtain ⟨TT, hTT⟩ : ∃ TT : ByteArray, TT = ⟨W17.toArray⟩ := ⟨_, rfl⟩
  rw [← hTT] at t1
  have h17 : W17.length = 17 := rfl
  rw [h17] at t1
  have t2 := fun w => run_bytes_of_string (P := Try.prog) w 9 22 5 TT Try.underlying9 Try.underlying22 Try.underlying5
  have hB := fun w => qBytes nilV R4 w (OwnR.bare 0 w 4 1 258 0 0 0 0).see
  rw [errF_t R4_right, bytesF_t R4_right, R4_bytes] at hB
  have hP := fun w => qParse _ W17 _ (Bs.ofText w 5 W17 (by simp [W17, maxLen])) (by simp [W17])
  rw [← hTT] at hP
  have hSz : TT.size = 17 := by rw [hTT]; rfl
  rw [hSz] at hP
  simp only [hSz] at t2
  rw [h17] at hP
  have HTT := @hideH _ hTT
  have pR : parseR W17 = some R4 := by rw [← R4_bytes]; exact parseR_of R4_right
  clear hTT hl1 hSz
  unfold Rcd.agg R4 nilV at hB
  dsimp only at hB
  go_enter Try.func9, Try.ntmps9
  go_wp2_with fail
  refine (hB _).mono ?_
  clear hB t1
  rintro e w2 ⟨u, rfl, a2⟩
  have K2 : Kept [] w w2 := ((Kept.refl [] w).alloc _).then a2.2
  have hbu := a2.bs
  obtain ⟨pu, cu, rfl⟩ := own_shape2 a2.1
  rw [h17] at hbu ⊢
  clear a2
  go_wp2_with fail
  refine (hP _).mono ?_
  clear hP t2
  rintro e w3 (⟨x, V, hp, rfl, OW, k3⟩ | ⟨hno, -, -⟩)
  rotate_left
  · rw [pR] at hno; cases hno
  obtain rfl : x = R4 := by rw [pR] at hp; cases hp; rfl
  have k23 : Kept [] w2 w3 := (((Kept.refl [] w2).drew).alloc _).then k3
  have hS := OW.see
  obtain ⟨pb, cb, pa, ca, pr, cr, pd, cd, rfl⟩ := hS.shapes
  obtain ⟨w4, hw4⟩ : ∃ w4, w4 = w3.alloc (.cells #[.int .i64 4, .int .i64 1, .int .i64 258, .int .i64 0, .int .i64 0, .int .i64 0, .slice pb 0 cb, .slice pa 0 ca, .int .i64 0, .slice pr 0 cr, .slice pd 0 cd] 26) := ⟨_, rfl⟩
  have k34 : Kept [] w3 w4 := by rw [hw4]; exact (Kept.refl [] w3).alloc _
  have B4 : Blk w4 w3.heap.size 26 [.int .i64 4, .int .i64 1, .int .i64 258, .int .i64 0, .int .i64 0, .int .i64 0, .slice pb 0 cb, .slice pa 0 ca, .int .i64 0, .slice pr 0 cr, .slice pd 0 cd] := by rw [hw4]; exact Blk.new w3 _ _
  have t4 := ((hbu.kept k23).kept k34).textR
  rw [← HTT.out] at t4
  have hZ := qSize _ R4 w4 (hS.kept k34)
  rw [bytesF_t R4_right, R4_bytes, h17] at hZ
  unfold Rcd.agg R4 at hZ
  dsimp only [List.length_nil] at hZ
  have K4 := @hideH _ ((K2.then k23).then k34)
  have c0 := B4.cell (j := 0) rfl
  have c1 := B4.cell (j := 1) rfl
  have c2 := B4.cell (j := 2) rfl
  have c3 := B4.cell (j := 3) rfl
  have c4 := B4.cell (j := 4) rfl
  have c5 := B4.cell (j := 5) rfl
  have c6 := B4.cell (j := 6) rfl
  have c7 := B4.cell (j := 7) rfl
  have c8 := B4.cell (j := 8) rfl
  have c9 := B4.cell (j := 9) rfl
  have c10 := B4.cell (j := 10) rfl
  clear hbu OW k3 k23 hS k34 B4 K2 hp
  unfold Rcd.agg R4
  dsimp only [List.length_nil]
  go_upto_region 4 with fail
  rw [← hw4]
  clear hw4
  go_wp2_with fail
  refine (rNum 0 _).mono ?_
  rintro e w5 ⟨rfl, rfl⟩
  go_wp2_with fail
  refine (rNum 0 _).mono ?_
  rintro e w5 ⟨rfl, rfl⟩
  go_wp2_with fail
  refine hZ.mono ?_
  rintro e w6 ⟨rfl, k6⟩
  have KE := @hideH _ (K4.out.then k6)
  clear hZ k6 c0 c1 c2 c3 c4 c5 c6 c7 c8 c9 c10 t4
  go_wp2
  go_ret
  exact ⟨rfl, KE.out⟩
end Go.Proofs.Ytebcmcmboomgfaa

