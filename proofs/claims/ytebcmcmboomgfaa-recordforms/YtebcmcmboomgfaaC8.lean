import Derived.Recover
import Derived.Laws.IdiomStrings
import Derived.Test.YtebcmcmboomgfaaRows
import Derived.Test.YtebcmcmboomgfaaC7
/-
  OWN WORK (by mkpr4.py). record: bytesOfKind.
-/
namespace Go.Proofs.Ytebcmcmboomgfaa
open Go.RowKit
set_option linter.unusedVariables false
set_option linter.unusedSimpArgs false

set_option maxRecDepth 20000 in
set_option maxHeartbeats 6400000 in
theorem qKind_1 (V : RV) (birth prev id page frm : Int) (before after : List UInt8) (next : Int) (rows : List RowR) (dirty : List RecR) (w : World) (h : SeeR w V (⟨1, birth, prev, id, page, frm, before, after, next, rows, dirty⟩ : Rcd)) (hR : (⟨1, birth, prev, id, page, frm, before, after, next, rows, dirty⟩ : Rcd).Right) : Calls Try.prog 31 #[(⟨1, birth, prev, id, page, frm, before, after, next, rows, dirty⟩ : Rcd).agg V] w fun e w' => ∃ u, e = .returned u ∧ Acc w w' u (tailB (⟨1, birth, prev, id, page, frm, before, after, next, rows, dirty⟩ : Rcd)) := by
  obtain ⟨pb, cb, pa, ca, pr, cr, pd, cd, rfl⟩ := h.shapes
  have hid : 1 ≤ id ∧ id ≤ 64 := by have q := hR.2.2.1; simp at q; exact q
  have h1 := fun w => qOne id w (by omega) (by omega)
  have eT : tailB (⟨1, birth, prev, id, page, frm, before, after, next, rows, dirty⟩ : Rcd) = putN 1 id.toNat := by unfold tailB; simp
  rw [eT]
  clear eT hid hR h
  unfold Rcd.agg
  dsimp only
  obtain ⟨wa, hwa⟩ : ∃ wa, wa = w.alloc (.cells #[.int .i64 1, .int .i64 birth, .int .i64 prev, .int .i64 id, .int .i64 page, .int .i64 frm, .slice pb before.length cb, .slice pa after.length ca, .int .i64 next, .slice pr rows.length cr, .slice pd dirty.length cd] 26) := ⟨_, rfl⟩
  have ba : Blk wa w.heap.size 26 [.int .i64 1, .int .i64 birth, .int .i64 prev, .int .i64 id, .int .i64 page, .int .i64 frm, .slice pb before.length cb, .slice pa after.length ca, .int .i64 next, .slice pr rows.length cr, .slice pd dirty.length cd] := by rw [hwa]; exact Blk.new w _ _
  have KA := @hideH _ (show Kept [] w wa by rw [hwa]; exact (Kept.refl [] w).alloc _)
  have c0 := ba.cell (j := 0) rfl
  have c1 := ba.cell (j := 1) rfl
  have c2 := ba.cell (j := 2) rfl
  have c3 := ba.cell (j := 3) rfl
  have c4 := ba.cell (j := 4) rfl
  have c5 := ba.cell (j := 5) rfl
  have c6 := ba.cell (j := 6) rfl
  have c7 := ba.cell (j := 7) rfl
  have c8 := ba.cell (j := 8) rfl
  have c9 := ba.cell (j := 9) rfl
  have c10 := ba.cell (j := 10) rfl
  have HBA := @hideH _ ba
  clear ba
  go_enter Try.func31, Try.ntmps31
  go_upto_region 1 with fail
  rw [← hwa]
  clear hwa
  go_wp2_with fail
  refine (h1 _).mono ?_
  rintro e w1 ⟨u1, rfl, a1⟩
  have REL := @hideH _ (a1.low KA.out)
  clear a1
  go_wp2
  go_ret
  exact ⟨_, rfl, REL.out⟩
set_option maxRecDepth 20000 in
set_option maxHeartbeats 6400000 in
theorem qKind_2 (V : RV) (birth prev id page frm : Int) (before after : List UInt8) (next : Int) (rows : List RowR) (dirty : List RecR) (w : World) (h : SeeR w V (⟨2, birth, prev, id, page, frm, before, after, next, rows, dirty⟩ : Rcd)) (hR : (⟨2, birth, prev, id, page, frm, before, after, next, rows, dirty⟩ : Rcd).Right) : Calls Try.prog 31 #[(⟨2, birth, prev, id, page, frm, before, after, next, rows, dirty⟩ : Rcd).agg V] w fun e w' => ∃ u, e = .returned u ∧ Acc w w' u (tailB (⟨2, birth, prev, id, page, frm, before, after, next, rows, dirty⟩ : Rcd)) := by
  obtain ⟨pb, cb, pa, ca, pr, cr, pd, cd, rfl⟩ := h.shapes
  have hrg : rangedOk (⟨2, birth, prev, id, page, frm, before, after, next, rows, dirty⟩ : Rcd) := by have q := hR.2.2.2.2.2.1; simp at q; exact q
  have hRB := fun wz (kz : Kept [] w wz) => qRangeB (⟨.slice pb before.length cb, .slice pa after.length ca, .slice pr rows.length cr, .slice pd dirty.length cd⟩ : RV) (⟨2, birth, prev, id, page, frm, before, after, next, rows, dirty⟩ : Rcd) wz (h.kept kz) hrg
  have hpt : partsOk (⟨2, birth, prev, id, page, frm, before, after, next, rows, dirty⟩ : Rcd) := by have q := hR.2.2.2.2.2.2; simp at q; exact q
  have eT : tailB (⟨2, birth, prev, id, page, frm, before, after, next, rows, dirty⟩ : Rcd) = flat [rangeB (⟨2, birth, prev, id, page, frm, before, after, next, rows, dirty⟩ : Rcd), before, after] := by rw [flat3]; unfold tailB rangeB; simp
  have HLN := @hideH _ (show (flat [rangeB (⟨2, birth, prev, id, page, frm, before, after, next, rows, dirty⟩ : Rcd), before, after]).length ≤ 100000 by rw [flat3]; simp only [List.length_append, rangeB_length]; have q1 := hrg.2.1.2; have q2 := hpt.1; simp only at q1 q2; omega)
  rw [eT]
  have HB := @hideH _ h.before
  have HAF := @hideH _ h.after
  clear eT hrg hR h hpt
  unfold Rcd.agg at hRB ⊢
  dsimp only at hRB HB HAF ⊢
  generalize rangeB (⟨2, birth, prev, id, page, frm, before, after, next, rows, dirty⟩ : Rcd) = RB at hRB HLN ⊢
  obtain ⟨wa, hwa⟩ : ∃ wa, wa = w.alloc (.cells #[.int .i64 2, .int .i64 birth, .int .i64 prev, .int .i64 id, .int .i64 page, .int .i64 frm, .slice pb before.length cb, .slice pa after.length ca, .int .i64 next, .slice pr rows.length cr, .slice pd dirty.length cd] 26) := ⟨_, rfl⟩
  have ba : Blk wa w.heap.size 26 [.int .i64 2, .int .i64 birth, .int .i64 prev, .int .i64 id, .int .i64 page, .int .i64 frm, .slice pb before.length cb, .slice pa after.length ca, .int .i64 next, .slice pr rows.length cr, .slice pd dirty.length cd] := by rw [hwa]; exact Blk.new w _ _
  have KA := @hideH _ (show Kept [] w wa by rw [hwa]; exact (Kept.refl [] w).alloc _)
  have c0 := ba.cell (j := 0) rfl
  have c1 := ba.cell (j := 1) rfl
  have c2 := ba.cell (j := 2) rfl
  have c3 := ba.cell (j := 3) rfl
  have c4 := ba.cell (j := 4) rfl
  have c5 := ba.cell (j := 5) rfl
  have c6 := ba.cell (j := 6) rfl
  have c7 := ba.cell (j := 7) rfl
  have c8 := ba.cell (j := 8) rfl
  have c9 := ba.cell (j := 9) rfl
  have c10 := ba.cell (j := 10) rfl
  have HBA := @hideH _ ba
  clear ba
  go_enter Try.func31, Try.ntmps31
  go_upto_region 1 with fail
  rw [← hwa]
  clear hwa
  have kx : Kept [] wa wa.drew := (Kept.refl [] wa).drew
  go_upto_region 5 with fail
  go_region_held3 (fun w' => w'.cell? ⟨w.heap.size, 0, none⟩ = some (.int .i64 2) ∧ w'.cell? ⟨w.heap.size, 1, none⟩ = some (.int .i64 birth) ∧ w'.cell? ⟨w.heap.size, 2, none⟩ = some (.int .i64 prev) ∧ w'.cell? ⟨w.heap.size, 3, none⟩ = some (.int .i64 id) ∧ w'.cell? ⟨w.heap.size, 4, none⟩ = some (.int .i64 page) ∧ w'.cell? ⟨w.heap.size, 5, none⟩ = some (.int .i64 frm) ∧ w'.cell? ⟨w.heap.size, 6, none⟩ = some (.slice pb before.length cb) ∧ w'.cell? ⟨w.heap.size, 7, none⟩ = some (.slice pa after.length ca) ∧ w'.cell? ⟨w.heap.size, 8, none⟩ = some (.int .i64 next) ∧ w'.cell? ⟨w.heap.size, 9, none⟩ = some (.slice pr rows.length cr) ∧ w'.cell? ⟨w.heap.size, 10, none⟩ = some (.slice pd dirty.length cd))
    (first | (with_reducible exact ⟨kx.cell c0 (by simp), kx.cell c1 (by simp), kx.cell c2 (by simp), kx.cell c3 (by simp), kx.cell c4 (by simp), kx.cell c5 (by simp), kx.cell c6 (by simp), kx.cell c7 (by simp), kx.cell c8 (by simp), kx.cell c9 (by simp), kx.cell c10 (by simp)⟩) | (with_reducible exact ⟨(kx.alloc _).cell c0 (by simp), (kx.alloc _).cell c1 (by simp), (kx.alloc _).cell c2 (by simp), (kx.alloc _).cell c3 (by simp), (kx.alloc _).cell c4 (by simp), (kx.alloc _).cell c5 (by simp), (kx.alloc _).cell c6 (by simp), (kx.alloc _).cell c7 (by simp), (kx.alloc _).cell c8 (by simp), (kx.alloc _).cell c9 (by simp), (kx.alloc _).cell c10 (by simp)⟩) | fail)
    (first
      | (go_at_call 51; refine (hRB _ (KA.out.then kx)).mono ?_; rintro e w1 ⟨u1, rfl, a1⟩; obtain ⟨p1, q1, rfl⟩ := own_shape2 a1.1; replace kx := kx.then a1.2)
      | (go_at_call 28; refine (qJoin _ [RB, before, after] _ (Bss.lit3 w1 _ _ _ _ _ _ _ a1.bs (HB.out.kept (KA.out.then kx)) (HAF.out.kept (KA.out.then kx)) _ rfl) HLN.out).mono ?_; rintro e wj ⟨uj, rfl, aj⟩; have ky := kx; replace kx := (kx.alloc _).then aj.2)
      | fail)
  have REL := @hideH _ (aj.low ((KA.out.then ky).alloc _))
  clear aj ky kx a1 hRB
  go_wp2
  go_ret
  exact ⟨_, rfl, REL.out⟩
set_option maxRecDepth 20000 in
set_option maxHeartbeats 6400000 in
theorem qKind_3 (V : RV) (birth prev id page frm : Int) (before after : List UInt8) (next : Int) (rows : List RowR) (dirty : List RecR) (w : World) (h : SeeR w V (⟨3, birth, prev, id, page, frm, before, after, next, rows, dirty⟩ : Rcd)) (hR : (⟨3, birth, prev, id, page, frm, before, after, next, rows, dirty⟩ : Rcd).Right) : Calls Try.prog 31 #[(⟨3, birth, prev, id, page, frm, before, after, next, rows, dirty⟩ : Rcd).agg V] w fun e w' => ∃ u, e = .returned u ∧ Acc w w' u (tailB (⟨3, birth, prev, id, page, frm, before, after, next, rows, dirty⟩ : Rcd)) := by
  obtain ⟨pb, cb, pa, ca, pr, cr, pd, cd, rfl⟩ := h.shapes
  have hrg : rangedOk (⟨3, birth, prev, id, page, frm, before, after, next, rows, dirty⟩ : Rcd) := by have q := hR.2.2.2.2.2.1; simp at q; exact q
  have hRB := fun wz (kz : Kept [] w wz) => qRangeB (⟨.slice pb before.length cb, .slice pa after.length ca, .slice pr rows.length cr, .slice pd dirty.length cd⟩ : RV) (⟨3, birth, prev, id, page, frm, before, after, next, rows, dirty⟩ : Rcd) wz (h.kept kz) hrg
  have hnx : nextOk next := by have q := hR.2.2.2.2.1; simp at q; exact q
  have h8 := fun w => qEight next w hnx.1 hnx.2
  have eT : tailB (⟨3, birth, prev, id, page, frm, before, after, next, rows, dirty⟩ : Rcd) = flat [rangeB (⟨3, birth, prev, id, page, frm, before, after, next, rows, dirty⟩ : Rcd), after, putN 8 next.toNat] := by rw [flat3]; unfold tailB rangeB; simp
  have HLN := @hideH _ (show (flat [rangeB (⟨3, birth, prev, id, page, frm, before, after, next, rows, dirty⟩ : Rcd), after, putN 8 next.toNat]).length ≤ 100000 by rw [flat3]; simp only [List.length_append, rangeB_length, putN_length]; have q1 := hrg.2.1.2; simp only at q1; omega)
  rw [eT]
  have HB := @hideH _ h.before
  have HAF := @hideH _ h.after
  clear eT hrg hR h hnx
  unfold Rcd.agg at hRB ⊢
  dsimp only at hRB HB HAF ⊢
  generalize rangeB (⟨3, birth, prev, id, page, frm, before, after, next, rows, dirty⟩ : Rcd) = RB at hRB HLN ⊢
  obtain ⟨wa, hwa⟩ : ∃ wa, wa = w.alloc (.cells #[.int .i64 3, .int .i64 birth, .int .i64 prev, .int .i64 id, .int .i64 page, .int .i64 frm, .slice pb before.length cb, .slice pa after.length ca, .int .i64 next, .slice pr rows.length cr, .slice pd dirty.length cd] 26) := ⟨_, rfl⟩
  have ba : Blk wa w.heap.size 26 [.int .i64 3, .int .i64 birth, .int .i64 prev, .int .i64 id, .int .i64 page, .int .i64 frm, .slice pb before.length cb, .slice pa after.length ca, .int .i64 next, .slice pr rows.length cr, .slice pd dirty.length cd] := by rw [hwa]; exact Blk.new w _ _
  have KA := @hideH _ (show Kept [] w wa by rw [hwa]; exact (Kept.refl [] w).alloc _)
  have c0 := ba.cell (j := 0) rfl
  have c1 := ba.cell (j := 1) rfl
  have c2 := ba.cell (j := 2) rfl
  have c3 := ba.cell (j := 3) rfl
  have c4 := ba.cell (j := 4) rfl
  have c5 := ba.cell (j := 5) rfl
  have c6 := ba.cell (j := 6) rfl
  have c7 := ba.cell (j := 7) rfl
  have c8 := ba.cell (j := 8) rfl
  have c9 := ba.cell (j := 9) rfl
  have c10 := ba.cell (j := 10) rfl
  have HBA := @hideH _ ba
  clear ba
  go_enter Try.func31, Try.ntmps31
  go_upto_region 1 with fail
  rw [← hwa]
  clear hwa
  have kx : Kept [] wa wa.drew := (Kept.refl [] wa).drew
  go_upto_region 7 with fail
  go_region_held3 (fun w' => w'.cell? ⟨w.heap.size, 0, none⟩ = some (.int .i64 3) ∧ w'.cell? ⟨w.heap.size, 1, none⟩ = some (.int .i64 birth) ∧ w'.cell? ⟨w.heap.size, 2, none⟩ = some (.int .i64 prev) ∧ w'.cell? ⟨w.heap.size, 3, none⟩ = some (.int .i64 id) ∧ w'.cell? ⟨w.heap.size, 4, none⟩ = some (.int .i64 page) ∧ w'.cell? ⟨w.heap.size, 5, none⟩ = some (.int .i64 frm) ∧ w'.cell? ⟨w.heap.size, 6, none⟩ = some (.slice pb before.length cb) ∧ w'.cell? ⟨w.heap.size, 7, none⟩ = some (.slice pa after.length ca) ∧ w'.cell? ⟨w.heap.size, 8, none⟩ = some (.int .i64 next) ∧ w'.cell? ⟨w.heap.size, 9, none⟩ = some (.slice pr rows.length cr) ∧ w'.cell? ⟨w.heap.size, 10, none⟩ = some (.slice pd dirty.length cd))
    (first | (with_reducible exact ⟨kx.cell c0 (by simp), kx.cell c1 (by simp), kx.cell c2 (by simp), kx.cell c3 (by simp), kx.cell c4 (by simp), kx.cell c5 (by simp), kx.cell c6 (by simp), kx.cell c7 (by simp), kx.cell c8 (by simp), kx.cell c9 (by simp), kx.cell c10 (by simp)⟩) | (with_reducible exact ⟨(kx.alloc _).cell c0 (by simp), (kx.alloc _).cell c1 (by simp), (kx.alloc _).cell c2 (by simp), (kx.alloc _).cell c3 (by simp), (kx.alloc _).cell c4 (by simp), (kx.alloc _).cell c5 (by simp), (kx.alloc _).cell c6 (by simp), (kx.alloc _).cell c7 (by simp), (kx.alloc _).cell c8 (by simp), (kx.alloc _).cell c9 (by simp), (kx.alloc _).cell c10 (by simp)⟩) | fail)
    (first
      | (go_at_call 51; refine (hRB _ (KA.out.then kx)).mono ?_; rintro e w1 ⟨u1, rfl, a1⟩; obtain ⟨p1, q1, rfl⟩ := own_shape2 a1.1; replace kx := kx.then a1.2)
      | (go_at_call 30; refine (h8 _).mono ?_; rintro e w2 ⟨u2, rfl, a2⟩; obtain ⟨p2, q2, rfl⟩ := own_shape2 a2.1; replace kx := kx.then a2.2)
      | (go_at_call 28; refine (qJoin _ [RB, after, putN 8 next.toNat] _ (Bss.lit3 w2 _ _ _ _ _ _ _ (a1.then a2.2).bs (HAF.out.kept (KA.out.then kx)) a2.bs _ rfl) HLN.out).mono ?_; rintro e wj ⟨uj, rfl, aj⟩; have ky := kx; replace kx := (kx.alloc _).then aj.2)
      | fail)
  have REL := @hideH _ (aj.low ((KA.out.then ky).alloc _))
  clear aj ky kx a1 a2 h8 hRB
  go_wp2
  go_ret
  exact ⟨_, rfl, REL.out⟩
set_option maxRecDepth 20000 in
set_option maxHeartbeats 6400000 in
theorem qKind_4 (V : RV) (birth prev id page frm : Int) (before after : List UInt8) (next : Int) (rows : List RowR) (dirty : List RecR) (w : World) (h : SeeR w V (⟨4, birth, prev, id, page, frm, before, after, next, rows, dirty⟩ : Rcd)) (hR : (⟨4, birth, prev, id, page, frm, before, after, next, rows, dirty⟩ : Rcd).Right) : Calls Try.prog 31 #[(⟨4, birth, prev, id, page, frm, before, after, next, rows, dirty⟩ : Rcd).agg V] w fun e w' => ∃ u, e = .returned u ∧ Acc w w' u (tailB (⟨4, birth, prev, id, page, frm, before, after, next, rows, dirty⟩ : Rcd)) := by
  obtain ⟨pb, cb, pa, ca, pr, cr, pd, cd, rfl⟩ := h.shapes
  have eT : tailB (⟨4, birth, prev, id, page, frm, before, after, next, rows, dirty⟩ : Rcd) = [] := by unfold tailB; simp
  rw [eT]
  clear eT hR h
  unfold Rcd.agg
  dsimp only
  obtain ⟨wa, hwa⟩ : ∃ wa, wa = w.alloc (.cells #[.int .i64 4, .int .i64 birth, .int .i64 prev, .int .i64 id, .int .i64 page, .int .i64 frm, .slice pb before.length cb, .slice pa after.length ca, .int .i64 next, .slice pr rows.length cr, .slice pd dirty.length cd] 26) := ⟨_, rfl⟩
  have ba : Blk wa w.heap.size 26 [.int .i64 4, .int .i64 birth, .int .i64 prev, .int .i64 id, .int .i64 page, .int .i64 frm, .slice pb before.length cb, .slice pa after.length ca, .int .i64 next, .slice pr rows.length cr, .slice pd dirty.length cd] := by rw [hwa]; exact Blk.new w _ _
  have KA := @hideH _ (show Kept [] w wa by rw [hwa]; exact (Kept.refl [] w).alloc _)
  have c0 := ba.cell (j := 0) rfl
  have c1 := ba.cell (j := 1) rfl
  have c2 := ba.cell (j := 2) rfl
  have c3 := ba.cell (j := 3) rfl
  have c4 := ba.cell (j := 4) rfl
  have c5 := ba.cell (j := 5) rfl
  have c6 := ba.cell (j := 6) rfl
  have c7 := ba.cell (j := 7) rfl
  have c8 := ba.cell (j := 8) rfl
  have c9 := ba.cell (j := 9) rfl
  have c10 := ba.cell (j := 10) rfl
  have HBA := @hideH _ ba
  clear ba
  go_enter Try.func31, Try.ntmps31
  go_upto_region 1 with fail
  rw [← hwa]
  clear hwa
  go_wp2
  go_ret
  exact ⟨_, rfl, Acc.nil KA.out⟩
set_option maxRecDepth 20000 in
set_option maxHeartbeats 6400000 in
theorem qKind_5 (V : RV) (birth prev id page frm : Int) (before after : List UInt8) (next : Int) (rows : List RowR) (dirty : List RecR) (w : World) (h : SeeR w V (⟨5, birth, prev, id, page, frm, before, after, next, rows, dirty⟩ : Rcd)) (hR : (⟨5, birth, prev, id, page, frm, before, after, next, rows, dirty⟩ : Rcd).Right) : Calls Try.prog 31 #[(⟨5, birth, prev, id, page, frm, before, after, next, rows, dirty⟩ : Rcd).agg V] w fun e w' => ∃ u, e = .returned u ∧ Acc w w' u (tailB (⟨5, birth, prev, id, page, frm, before, after, next, rows, dirty⟩ : Rcd)) := by
  obtain ⟨pb, cb, pa, ca, pr, cr, pd, cd, rfl⟩ := h.shapes
  have eT : tailB (⟨5, birth, prev, id, page, frm, before, after, next, rows, dirty⟩ : Rcd) = [] := by unfold tailB; simp
  rw [eT]
  clear eT hR h
  unfold Rcd.agg
  dsimp only
  obtain ⟨wa, hwa⟩ : ∃ wa, wa = w.alloc (.cells #[.int .i64 5, .int .i64 birth, .int .i64 prev, .int .i64 id, .int .i64 page, .int .i64 frm, .slice pb before.length cb, .slice pa after.length ca, .int .i64 next, .slice pr rows.length cr, .slice pd dirty.length cd] 26) := ⟨_, rfl⟩
  have ba : Blk wa w.heap.size 26 [.int .i64 5, .int .i64 birth, .int .i64 prev, .int .i64 id, .int .i64 page, .int .i64 frm, .slice pb before.length cb, .slice pa after.length ca, .int .i64 next, .slice pr rows.length cr, .slice pd dirty.length cd] := by rw [hwa]; exact Blk.new w _ _
  have KA := @hideH _ (show Kept [] w wa by rw [hwa]; exact (Kept.refl [] w).alloc _)
  have c0 := ba.cell (j := 0) rfl
  have c1 := ba.cell (j := 1) rfl
  have c2 := ba.cell (j := 2) rfl
  have c3 := ba.cell (j := 3) rfl
  have c4 := ba.cell (j := 4) rfl
  have c5 := ba.cell (j := 5) rfl
  have c6 := ba.cell (j := 6) rfl
  have c7 := ba.cell (j := 7) rfl
  have c8 := ba.cell (j := 8) rfl
  have c9 := ba.cell (j := 9) rfl
  have c10 := ba.cell (j := 10) rfl
  have HBA := @hideH _ ba
  clear ba
  go_enter Try.func31, Try.ntmps31
  go_upto_region 1 with fail
  rw [← hwa]
  clear hwa
  go_wp2
  go_ret
  exact ⟨_, rfl, Acc.nil KA.out⟩
set_option maxRecDepth 20000 in
set_option maxHeartbeats 6400000 in
theorem qKind_6 (V : RV) (birth prev id page frm : Int) (before after : List UInt8) (next : Int) (rows : List RowR) (dirty : List RecR) (w : World) (h : SeeR w V (⟨6, birth, prev, id, page, frm, before, after, next, rows, dirty⟩ : Rcd)) (hR : (⟨6, birth, prev, id, page, frm, before, after, next, rows, dirty⟩ : Rcd).Right) : Calls Try.prog 31 #[(⟨6, birth, prev, id, page, frm, before, after, next, rows, dirty⟩ : Rcd).agg V] w fun e w' => ∃ u, e = .returned u ∧ Acc w w' u (tailB (⟨6, birth, prev, id, page, frm, before, after, next, rows, dirty⟩ : Rcd)) := by
  obtain ⟨pb, cb, pa, ca, pr, cr, pd, cd, rfl⟩ := h.shapes
  have eT : tailB (⟨6, birth, prev, id, page, frm, before, after, next, rows, dirty⟩ : Rcd) = [] := by unfold tailB; simp
  rw [eT]
  clear eT hR h
  unfold Rcd.agg
  dsimp only
  obtain ⟨wa, hwa⟩ : ∃ wa, wa = w.alloc (.cells #[.int .i64 6, .int .i64 birth, .int .i64 prev, .int .i64 id, .int .i64 page, .int .i64 frm, .slice pb before.length cb, .slice pa after.length ca, .int .i64 next, .slice pr rows.length cr, .slice pd dirty.length cd] 26) := ⟨_, rfl⟩
  have ba : Blk wa w.heap.size 26 [.int .i64 6, .int .i64 birth, .int .i64 prev, .int .i64 id, .int .i64 page, .int .i64 frm, .slice pb before.length cb, .slice pa after.length ca, .int .i64 next, .slice pr rows.length cr, .slice pd dirty.length cd] := by rw [hwa]; exact Blk.new w _ _
  have KA := @hideH _ (show Kept [] w wa by rw [hwa]; exact (Kept.refl [] w).alloc _)
  have c0 := ba.cell (j := 0) rfl
  have c1 := ba.cell (j := 1) rfl
  have c2 := ba.cell (j := 2) rfl
  have c3 := ba.cell (j := 3) rfl
  have c4 := ba.cell (j := 4) rfl
  have c5 := ba.cell (j := 5) rfl
  have c6 := ba.cell (j := 6) rfl
  have c7 := ba.cell (j := 7) rfl
  have c8 := ba.cell (j := 8) rfl
  have c9 := ba.cell (j := 9) rfl
  have c10 := ba.cell (j := 10) rfl
  have HBA := @hideH _ ba
  clear ba
  go_enter Try.func31, Try.ntmps31
  go_upto_region 1 with fail
  rw [← hwa]
  clear hwa
  go_wp2
  go_ret
  exact ⟨_, rfl, Acc.nil KA.out⟩
set_option maxRecDepth 20000 in
set_option maxHeartbeats 6400000 in
theorem qKind_7 (V : RV) (birth prev id page frm : Int) (before after : List UInt8) (next : Int) (rows : List RowR) (dirty : List RecR) (w : World) (h : SeeR w V (⟨7, birth, prev, id, page, frm, before, after, next, rows, dirty⟩ : Rcd)) (hR : (⟨7, birth, prev, id, page, frm, before, after, next, rows, dirty⟩ : Rcd).Right) : Calls Try.prog 31 #[(⟨7, birth, prev, id, page, frm, before, after, next, rows, dirty⟩ : Rcd).agg V] w fun e w' => ∃ u, e = .returned u ∧ Acc w w' u (tailB (⟨7, birth, prev, id, page, frm, before, after, next, rows, dirty⟩ : Rcd)) := by
  obtain ⟨pb, cb, pa, ca, pr, cr, pd, cd, rfl⟩ := h.shapes
  have hls := (listsOk_iff (⟨7, birth, prev, id, page, frm, before, after, next, rows, dirty⟩ : Rcd)).1 (by have q := hR.2.2.2.1; simp at q; exact q)
  have ht := fun wz (kz : Kept [] w wz) => qTableB _ rows wz (h.rows.kept kz) hls.1
  have hd := fun wz (kz : Kept [] w wz) => qDirtyB _ dirty wz (h.dirty.kept kz) hls.2
  have eT : tailB (⟨7, birth, prev, id, page, frm, before, after, next, rows, dirty⟩ : Rcd) = flat [putN 1 rows.length ++ flatB rowB rows, putN 1 dirty.length ++ flatB recB dirty] := by rw [flat2]; unfold tailB; simp
  have HLN := @hideH _ (show (flat [putN 1 rows.length ++ flatB rowB rows, putN 1 dirty.length ++ flatB recB dirty]).length ≤ 100000 by rw [flat2]; simp only [List.length_append, putN_length]; rw [flatB_len rowB 26 _ (fun x _ => rowB_len x), flatB_len recB 9 _ (fun x _ => recB_len x)]; have q1 := hls.1.1; have q2 := hls.2.1; simp only at q1 q2; omega)
  rw [eT]
  clear eT hls hR h
  unfold Rcd.agg
  dsimp only at ht hd ⊢
  generalize putN 1 rows.length ++ flatB rowB rows = TB at ht HLN ⊢
  generalize putN 1 dirty.length ++ flatB recB dirty = DB at hd HLN ⊢
  obtain ⟨wa, hwa⟩ : ∃ wa, wa = w.alloc (.cells #[.int .i64 7, .int .i64 birth, .int .i64 prev, .int .i64 id, .int .i64 page, .int .i64 frm, .slice pb before.length cb, .slice pa after.length ca, .int .i64 next, .slice pr rows.length cr, .slice pd dirty.length cd] 26) := ⟨_, rfl⟩
  have ba : Blk wa w.heap.size 26 [.int .i64 7, .int .i64 birth, .int .i64 prev, .int .i64 id, .int .i64 page, .int .i64 frm, .slice pb before.length cb, .slice pa after.length ca, .int .i64 next, .slice pr rows.length cr, .slice pd dirty.length cd] := by rw [hwa]; exact Blk.new w _ _
  have KA := @hideH _ (show Kept [] w wa by rw [hwa]; exact (Kept.refl [] w).alloc _)
  have c0 := ba.cell (j := 0) rfl
  have c1 := ba.cell (j := 1) rfl
  have c2 := ba.cell (j := 2) rfl
  have c3 := ba.cell (j := 3) rfl
  have c4 := ba.cell (j := 4) rfl
  have c5 := ba.cell (j := 5) rfl
  have c6 := ba.cell (j := 6) rfl
  have c7 := ba.cell (j := 7) rfl
  have c8 := ba.cell (j := 8) rfl
  have c9 := ba.cell (j := 9) rfl
  have c10 := ba.cell (j := 10) rfl
  have HBA := @hideH _ ba
  clear ba
  go_enter Try.func31, Try.ntmps31
  go_upto_region 1 with fail
  rw [← hwa]
  clear hwa
  have kx : Kept [] wa wa.drew := (Kept.refl [] wa).drew
  go_upto_region 9 with fail
  go_region_held3 (fun w' => w'.cell? ⟨w.heap.size, 9, none⟩ = some (.slice pr rows.length cr) ∧ w'.cell? ⟨w.heap.size, 10, none⟩ = some (.slice pd dirty.length cd))
    (first | (with_reducible exact ⟨kx.cell c9 (by simp), kx.cell c10 (by simp)⟩) | (with_reducible exact ⟨(kx.alloc _).cell c9 (by simp), (kx.alloc _).cell c10 (by simp)⟩) | fail)
    (first
      | (go_at_call 52; refine (ht _ (KA.out.then kx)).mono ?_; rintro e w1 ⟨u1, rfl, a1⟩; obtain ⟨p1, q1, rfl⟩ := own_shape2 a1.1; replace kx := kx.then a1.2)
      | (go_at_call 53; refine (hd _ (KA.out.then kx)).mono ?_; rintro e w2 ⟨u2, rfl, a2⟩; obtain ⟨p2, q2, rfl⟩ := own_shape2 a2.1; replace kx := kx.then a2.2)
      | (go_at_call 28; refine (qJoin _ [TB, DB] _ (Bss.lit2 w2 _ _ _ _ _ (a1.then a2.2).bs a2.bs _ rfl) HLN.out).mono ?_; rintro e wj ⟨uj, rfl, aj⟩; have ky := kx; replace kx := (kx.alloc _).then aj.2)
      | fail)
  have REL := @hideH _ (aj.low ((KA.out.then ky).alloc _))
  clear aj ky kx a1 a2 ht hd
  go_wp2
  go_ret
  exact ⟨_, rfl, REL.out⟩
theorem qKind (V : RV) (r : Rcd) (w : World) (h : SeeR w V r) (hR : r.Right) : Calls Try.prog 31 #[r.agg V] w fun e w' => ∃ u, e = .returned u ∧ Acc w w' u (tailB r) := by
  obtain ⟨kind, birth, prev, id, page, frm, before, after, next, rows, dirty⟩ := r
  have : kind = 1 ∨ kind = 2 ∨ kind = 3 ∨ kind = 4 ∨ kind = 5 ∨ kind = 6 ∨ kind = 7 := by have hk := hR.1; simp only at hk; omega
  rcases this with rfl | rfl | rfl | rfl | rfl | rfl | rfl
  · exact qKind_1 V birth prev id page frm before after next rows dirty w h hR
  · exact qKind_2 V birth prev id page frm before after next rows dirty w h hR
  · exact qKind_3 V birth prev id page frm before after next rows dirty w h hR
  · exact qKind_4 V birth prev id page frm before after next rows dirty w h hR
  · exact qKind_5 V birth prev id page frm before after next rows dirty w h hR
  · exact qKind_6 V birth prev id page frm before after next rows dirty w h hR
  · exact qKind_7 V birth prev id page frm before after next rows dirty w h hR
end Go.Proofs.Ytebcmcmboomgfaa

/-
  OWN WORK. The laws of record: size, by the table.
-/
namespace Go.Proofs.Ytebcmcmboomgfaa
open Go.RowKit
set_option linter.unusedVariables false
set_option linter.unusedSimpArgs false

theorem flatB_length {α : Type} {f : α → List UInt8} {n : Nat} (h : ∀ a, (f a).length = n) : ∀ (l : List α), (flatB f l).length = n * l.length
  | [] => by simp [flatB]
  | a :: r => by simp [flatB, h a, flatB_length h r, Nat.mul_add, Nat.add_comm]
theorem rowB_length (x : RowR) : (rowB x).length = 26 := by simp [rowB, putN_length]
theorem recB_length (x : RecR) : (recB x).length = 9 := by simp [recB, putN_length]
/-- the table -/
def sizeT (r : Rcd) : Nat := if r.kind = 1 then 18 else if r.kind = 2 then 22 + 2 * r.after.length else if r.kind = 3 then 30 + r.after.length else if r.kind = 7 then 19 + 26 * r.rows.length + 9 * r.dirty.length else 17
theorem bytesR_length {r : Rcd} (h : r.Right) : (bytesR r).length = sizeT r := by
  obtain ⟨-, -, -, -, -, -, hp⟩ := h
  unfold bytesR sizeT tailB
  by_cases h1 : r.kind = 1
  · simp [h1, putN_length]
  by_cases h2 : r.kind = 2
  · rw [if_pos h2] at hp
    have := hp.1
    simp [h1, h2, putN_length]
    omega
  by_cases h3 : r.kind = 3
  · simp [h1, h2, h3, putN_length]
    omega
  by_cases h7 : r.kind = 7
  · simp [h1, h2, h3, h7, putN_length, flatB_length rowB_length, flatB_length recB_length]
    omega
  · simp [h1, h2, h3, h7, putN_length]
set_option maxRecDepth 20000 in
set_option maxHeartbeats 3200000 in
theorem size_any (V : RV) (r : Rcd) (w : World) (h : SeeR w V r) (hR : r.Right) : Calls Try.prog 15 #[r.agg V] w fun e w' => e = .returned (.int .i64 ((bytesR r).length : Int)) ∧ Kept [] w w' := by
  rw [bytesR_length hR]
  obtain ⟨pb, cb, pa, ca, pr, cr, pd, cd, rfl⟩ := h.shapes
  have hma : r.after.length ≤ maxLen := by obtain ⟨_, _, e, h1, h2, _⟩ := h.after; cases e; exact Nat.le_trans h1 h2
  have hlim : (r.kind = 7 → r.rows.length ≤ 8 ∧ r.dirty.length ≤ 16) ∧ r.after.length ≤ 140737488355328 ∨ True := .inr trivial
  have h8 : r.kind = 7 → r.rows.length ≤ 8 ∧ r.dirty.length ≤ 16 := fun e => by have := hR.2.2.2.1; rw [if_pos e] at this; exact this.1
  have ha8 : r.kind = 2 ∨ r.kind = 3 → r.after.length ≤ 128 := fun e => by have := hR.2.2.2.2.2.1; rw [if_pos e] at this; exact this.2.1.2
  obtain ⟨kind, birth, prev, id, page, frm, before, after, next, rows, dirty⟩ := r
  clear h hR hma hlim
  unfold Rcd.agg sizeT
  dsimp only at h8 ha8 ⊢
  obtain ⟨na, hna⟩ : ∃ na, na = after.length := ⟨_, rfl⟩
  obtain ⟨nr, hnr⟩ : ∃ nr, nr = rows.length := ⟨_, rfl⟩
  obtain ⟨nd, hnd⟩ : ∃ nd, nd = dirty.length := ⟨_, rfl⟩
  rw [← hna] at ha8
  rw [← hnr, ← hnd] at h8
  simp only [← hna, ← hnr, ← hnd]
  clear hna hnr hnd
  by_cases h1 : kind = 1
  · subst h1
    clear h8 ha8
    go_enter Try.func15, Try.ntmps15
    go_wp2
    go_ret
    exact ⟨rfl, (Kept.refl [] w).alloc _⟩
  have e1 : (kind == 1) = false := by simp [h1]
  by_cases h2 : kind = 2
  · subst h2
    have hb := ha8 (.inl rfl)
    have w1 : IntKind.i64.wrap (2 * (na : Int)) = 2 * (na : Int) := wrap_i64_of (by omega) (by omega)
    have w2 : IntKind.i64.wrap (22 + 2 * (na : Int)) = 22 + 2 * (na : Int) := wrap_i64_of (by omega) (by omega)
    clear h8 ha8 hb
    go_enter Try.func15, Try.ntmps15
    go_wp2
    go_ret
    exact ⟨by simp, (Kept.refl [] w).alloc _⟩
  have e2 : (kind == 2) = false := by simp [h2]
  by_cases h3 : kind = 3
  · subst h3
    have hb := ha8 (.inr rfl)
    have w2 : IntKind.i64.wrap (30 + (na : Int)) = 30 + (na : Int) := wrap_i64_of (by omega) (by omega)
    clear h8 ha8 hb
    go_enter Try.func15, Try.ntmps15
    go_wp2
    go_ret
    exact ⟨by simp, (Kept.refl [] w).alloc _⟩
  have e3 : (kind == 3) = false := by simp [h3]
  by_cases h7 : kind = 7
  · subst h7
    have hb := h8 rfl
    have w1 : IntKind.i64.wrap (26 * (nr : Int)) = 26 * (nr : Int) := wrap_i64_of (by omega) (by omega)
    have w2 : IntKind.i64.wrap (19 + 26 * (nr : Int)) = 19 + 26 * (nr : Int) := wrap_i64_of (by omega) (by omega)
    have w3 : IntKind.i64.wrap (9 * (nd : Int)) = 9 * (nd : Int) := wrap_i64_of (by omega) (by omega)
    have w4 : IntKind.i64.wrap (19 + 26 * (nr : Int) + 9 * (nd : Int)) = 19 + 26 * (nr : Int) + 9 * (nd : Int) := wrap_i64_of (by omega) (by omega)
    clear h8 ha8 hb
    go_enter Try.func15, Try.ntmps15
    go_wp2
    go_ret
    exact ⟨by simp, (Kept.refl [] w).alloc _⟩
  have e7 : (kind == 7) = false := by simp [h7]
  rw [if_neg h1, if_neg h2, if_neg h3, if_neg h7]
  clear h8 ha8
  go_enter Try.func15, Try.ntmps15
  go_wp2
  go_ret
  exact ⟨rfl, (Kept.refl [] w).alloc _⟩
end Go.Proofs.Ytebcmcmboomgfaa

/-
  OWN WORK (by mkpr4.py). record: Bytes, Size.
-/
namespace Go.Proofs.Ytebcmcmboomgfaa
open Go.RowKit
set_option linter.unusedVariables false
set_option linter.unusedSimpArgs false

theorem right_nums {r : Rcd} (h : r.Right) : (0 ≤ r.kind ∧ r.kind < 256) ∧ (0 ≤ r.birth ∧ r.birth ≤ 1152921504606846976) ∧ 0 ≤ r.prev ∧ r.prev ≤ 1152921504606846976 := by
  obtain ⟨⟨k1, k2⟩, hb, -⟩ := h
  refine ⟨by omega, ?_⟩
  split at hb
  · omega
  · obtain ⟨⟨a, a2⟩, b, b2⟩ := hb; omega
theorem bytesR_flat (r : Rcd) : bytesR r = flat [putN 1 r.kind.toNat, putN 8 r.birth.toNat, putN 8 r.prev.toNat, tailB r] := by rw [flat4]; rfl
theorem bytesR_small {r : Rcd} (h : r.Right) : (bytesR r).length ≤ 371 := by
  rw [bytesR_length h]
  unfold sizeT
  obtain ⟨-, -, -, hl, -, hr, -⟩ := h
  split
  · omega
  split
  · rename_i h2; simp [h2] at hr; have := hr.2.1.2; omega
  split
  · rename_i h3; simp [h3] at hr; have := hr.2.1.2; omega
  split
  · rename_i h7; simp [h7] at hl; have := hl.1; omega
  · omega
set_option maxRecDepth 20000 in
set_option maxHeartbeats 6400000 in
theorem qBytes_right (V : RV) (kind birth prev id page frm : Int) (before after : List UInt8) (next : Int) (rows : List RowR) (dirty : List RecR) (w : World) (h : SeeR w V (⟨kind, birth, prev, id, page, frm, before, after, next, rows, dirty⟩ : Rcd)) (hR : (⟨kind, birth, prev, id, page, frm, before, after, next, rows, dirty⟩ : Rcd).Right) : Calls Try.prog 10 #[(⟨kind, birth, prev, id, page, frm, before, after, next, rows, dirty⟩ : Rcd).agg V] w fun e w' => ∃ u, e = .returned (.tuple #[u, .int .i64 0]) ∧ Acc w w' u (bytesR (⟨kind, birth, prev, id, page, frm, before, after, next, rows, dirty⟩ : Rcd)) := by
  obtain ⟨pb, cb, pa, ca, pr, cr, pd, cd, rfl⟩ := h.shapes
  have hrt := fun wz (kz : Kept [] w wz) => qRight _ (⟨kind, birth, prev, id, page, frm, before, after, next, rows, dirty⟩ : Rcd) wz (h.kept kz)
  simp only [bl_t hR] at hrt
  have hkd := fun wz (kz : Kept [] w wz) => qKind _ (⟨kind, birth, prev, id, page, frm, before, after, next, rows, dirty⟩ : Rcd) wz (h.kept kz) hR
  have hn := right_nums hR
  simp only at hn
  have h1 := fun w => qOne kind w hn.1.1 hn.1.2
  have h2 := fun w => qEight birth w hn.2.1.1 hn.2.1.2
  have h3 := fun w => qEight prev w hn.2.2.1 hn.2.2.2
  have HLN := @hideH _ (show (flat [putN 1 kind.toNat, putN 8 birth.toNat, putN 8 prev.toNat, tailB (⟨kind, birth, prev, id, page, frm, before, after, next, rows, dirty⟩ : Rcd)]).length ≤ 100000 by have q := bytesR_small hR; rw [bytesR_flat] at q; simp only at q; omega)
  rw [bytesR_flat (⟨kind, birth, prev, id, page, frm, before, after, next, rows, dirty⟩ : Rcd)]
  clear hn hR h
  unfold Rcd.agg at hrt hkd ⊢
  dsimp only at hrt hkd ⊢
  generalize tailB (⟨kind, birth, prev, id, page, frm, before, after, next, rows, dirty⟩ : Rcd) = TB at hkd HLN ⊢
  obtain ⟨wa, hwa⟩ : ∃ wa, wa = w.alloc (.cells #[.int .i64 kind, .int .i64 birth, .int .i64 prev, .int .i64 id, .int .i64 page, .int .i64 frm, .slice pb before.length cb, .slice pa after.length ca, .int .i64 next, .slice pr rows.length cr, .slice pd dirty.length cd] 26) := ⟨_, rfl⟩
  have ba : Blk wa w.heap.size 26 [.int .i64 kind, .int .i64 birth, .int .i64 prev, .int .i64 id, .int .i64 page, .int .i64 frm, .slice pb before.length cb, .slice pa after.length ca, .int .i64 next, .slice pr rows.length cr, .slice pd dirty.length cd] := by rw [hwa]; exact Blk.new w _ _
  have KA := @hideH _ (show Kept [] w wa by rw [hwa]; exact (Kept.refl [] w).alloc _)
  have c0 := ba.cell (j := 0) rfl
  have c1 := ba.cell (j := 1) rfl
  have c2 := ba.cell (j := 2) rfl
  have c3 := ba.cell (j := 3) rfl
  have c4 := ba.cell (j := 4) rfl
  have c5 := ba.cell (j := 5) rfl
  have c6 := ba.cell (j := 6) rfl
  have c7 := ba.cell (j := 7) rfl
  have c8 := ba.cell (j := 8) rfl
  have c9 := ba.cell (j := 9) rfl
  have c10 := ba.cell (j := 10) rfl
  have HBA := @hideH _ ba
  clear ba
  go_enter Try.func10, Try.ntmps10
  go_upto_region 1 with fail
  rw [← hwa]
  clear hwa
  go_wp2_with fail
  refine (hrt _ KA.out).mono ?_
  rintro e w0 ⟨rfl, k0⟩
  clear hrt
  replace c0 := k0.cell c0 (by simp)
  replace c1 := k0.cell c1 (by simp)
  replace c2 := k0.cell c2 (by simp)
  replace c3 := k0.cell c3 (by simp)
  replace c4 := k0.cell c4 (by simp)
  replace c5 := k0.cell c5 (by simp)
  replace c6 := k0.cell c6 (by simp)
  replace c7 := k0.cell c7 (by simp)
  replace c8 := k0.cell c8 (by simp)
  replace c9 := k0.cell c9 (by simp)
  replace c10 := k0.cell c10 (by simp)
  have KB := @hideH _ (KA.out.then k0)
  clear k0 KA
  have tk : True := trivial
  have kx : Kept [] w0 w0.drew := (Kept.refl [] w0).drew
  go_upto_region 3 with fail
  go_region_held3 (fun w' => w'.cell? ⟨w.heap.size, 0, none⟩ = some (.int .i64 kind) ∧ w'.cell? ⟨w.heap.size, 1, none⟩ = some (.int .i64 birth) ∧ w'.cell? ⟨w.heap.size, 2, none⟩ = some (.int .i64 prev) ∧ w'.cell? ⟨w.heap.size, 3, none⟩ = some (.int .i64 id) ∧ w'.cell? ⟨w.heap.size, 4, none⟩ = some (.int .i64 page) ∧ w'.cell? ⟨w.heap.size, 5, none⟩ = some (.int .i64 frm) ∧ w'.cell? ⟨w.heap.size, 6, none⟩ = some (.slice pb before.length cb) ∧ w'.cell? ⟨w.heap.size, 7, none⟩ = some (.slice pa after.length ca) ∧ w'.cell? ⟨w.heap.size, 8, none⟩ = some (.int .i64 next) ∧ w'.cell? ⟨w.heap.size, 9, none⟩ = some (.slice pr rows.length cr) ∧ w'.cell? ⟨w.heap.size, 10, none⟩ = some (.slice pd dirty.length cd))
    (first | (with_reducible exact ⟨kx.cell c0 (by simp), kx.cell c1 (by simp), kx.cell c2 (by simp), kx.cell c3 (by simp), kx.cell c4 (by simp), kx.cell c5 (by simp), kx.cell c6 (by simp), kx.cell c7 (by simp), kx.cell c8 (by simp), kx.cell c9 (by simp), kx.cell c10 (by simp)⟩) | (with_reducible exact ⟨(kx.alloc _).cell c0 (by simp), (kx.alloc _).cell c1 (by simp), (kx.alloc _).cell c2 (by simp), (kx.alloc _).cell c3 (by simp), (kx.alloc _).cell c4 (by simp), (kx.alloc _).cell c5 (by simp), (kx.alloc _).cell c6 (by simp), (kx.alloc _).cell c7 (by simp), (kx.alloc _).cell c8 (by simp), (kx.alloc _).cell c9 (by simp), (kx.alloc _).cell c10 (by simp)⟩) | fail)
    (first
      | (go_at_call 29; refine (h1 _).mono ?_; rintro e w1 ⟨u1, rfl, a1⟩; obtain ⟨p1, q1, rfl⟩ := own_shape2 a1.1; replace kx := kx.then a1.2)
      | (go_at_call 30; clear tk; refine (h2 _).mono ?_; rintro e w2 ⟨u2, rfl, a2⟩; obtain ⟨p2, q2, rfl⟩ := own_shape2 a2.1; replace kx := kx.then a2.2)
      | (go_at_call 30; refine (h3 _).mono ?_; rintro e w3 ⟨u3, rfl, a3⟩; obtain ⟨p3, q3, rfl⟩ := own_shape2 a3.1; replace kx := kx.then a3.2)
      | (go_at_call 31; refine (hkd _ (KB.out.then kx)).mono ?_; rintro e w4 ⟨u4, rfl, a4⟩; obtain ⟨p4, q4, rfl⟩ := own_shape2 a4.1; replace kx := kx.then a4.2)
      | (go_at_call 28; refine (qJoin _ [putN 1 kind.toNat, putN 8 birth.toNat, putN 8 prev.toNat, TB] _ (Bss.lit4 w4 _ _ _ _ _ _ _ _ _ (((a1.then a2.2).then a3.2).then a4.2).bs ((a2.then a3.2).then a4.2).bs (a3.then a4.2).bs a4.bs _ rfl) HLN.out).mono ?_; rintro e wj ⟨uj, rfl, aj⟩; have ky := kx; replace kx := (kx.alloc _).then aj.2)
      | fail)
  have REL := @hideH _ (aj.low ((KB.out.then ky).alloc _))
  clear aj ky kx a1 a2 a3 a4 h1 h2 h3 hkd
  go_wp2
  go_ret2
  exact ⟨_, rfl, REL.out⟩
set_option maxHeartbeats 1600000 in
theorem qBytes_wrong (V : RV) (kind birth prev id page frm : Int) (before after : List UInt8) (next : Int) (rows : List RowR) (dirty : List RecR) (w : World) (h : SeeR w V (⟨kind, birth, prev, id, page, frm, before, after, next, rows, dirty⟩ : Rcd)) (hR : ¬ (⟨kind, birth, prev, id, page, frm, before, after, next, rows, dirty⟩ : Rcd).Right) : Calls Try.prog 10 #[(⟨kind, birth, prev, id, page, frm, before, after, next, rows, dirty⟩ : Rcd).agg V] w fun e w' => e = .returned (.tuple #[.slice none 0 0, .int .i64 90]) ∧ Kept [] w w' := by
  obtain ⟨pb, cb, pa, ca, pr, cr, pd, cd, rfl⟩ := h.shapes
  have hrt := fun wz (kz : Kept [] w wz) => qRight _ (⟨kind, birth, prev, id, page, frm, before, after, next, rows, dirty⟩ : Rcd) wz (h.kept kz)
  simp only [bl_f hR] at hrt
  clear hR h
  unfold Rcd.agg at hrt ⊢
  dsimp only at hrt ⊢
  obtain ⟨wa, hwa⟩ : ∃ wa, wa = w.alloc (.cells #[.int .i64 kind, .int .i64 birth, .int .i64 prev, .int .i64 id, .int .i64 page, .int .i64 frm, .slice pb before.length cb, .slice pa after.length ca, .int .i64 next, .slice pr rows.length cr, .slice pd dirty.length cd] 26) := ⟨_, rfl⟩
  have ba : Blk wa w.heap.size 26 [.int .i64 kind, .int .i64 birth, .int .i64 prev, .int .i64 id, .int .i64 page, .int .i64 frm, .slice pb before.length cb, .slice pa after.length ca, .int .i64 next, .slice pr rows.length cr, .slice pd dirty.length cd] := by rw [hwa]; exact Blk.new w _ _
  have KA := @hideH _ (show Kept [] w wa by rw [hwa]; exact (Kept.refl [] w).alloc _)
  have c0 := ba.cell (j := 0) rfl
  have c1 := ba.cell (j := 1) rfl
  have c2 := ba.cell (j := 2) rfl
  have c3 := ba.cell (j := 3) rfl
  have c4 := ba.cell (j := 4) rfl
  have c5 := ba.cell (j := 5) rfl
  have c6 := ba.cell (j := 6) rfl
  have c7 := ba.cell (j := 7) rfl
  have c8 := ba.cell (j := 8) rfl
  have c9 := ba.cell (j := 9) rfl
  have c10 := ba.cell (j := 10) rfl
  have HBA := @hideH _ ba
  clear ba
  go_enter Try.func10, Try.ntmps10
  go_upto_region 1 with fail
  rw [← hwa]
  clear hwa
  go_wp2_with fail
  refine (hrt _ KA.out).mono ?_
  rintro e w0 ⟨rfl, k0⟩
  clear hrt
  have KB := @hideH _ (KA.out.then k0)
  clear k0
  go_wp2
  go_ret2
  exact ⟨rfl, KB.out⟩
theorem qBytes (V : RV) (r : Rcd) (w : World) (h : SeeR w V r) : Calls Try.prog 10 #[r.agg V] w fun e w' => ∃ u, e = .returned (.tuple #[u, .int .i64 (errF r)]) ∧ Acc w w' u (bytesF r) := by
  obtain ⟨kind, birth, prev, id, page, frm, before, after, next, rows, dirty⟩ := r
  by_cases hR : (⟨kind, birth, prev, id, page, frm, before, after, next, rows, dirty⟩ : Rcd).Right
  · rw [errF_t hR, bytesF_t hR]
    exact qBytes_right V kind birth prev id page frm before after next rows dirty w h hR
  · rw [errF_f hR, bytesF_f hR]
    refine (qBytes_wrong V kind birth prev id page frm before after next rows dirty w h hR).mono ?_
    rintro e w' ⟨rfl, k⟩
    exact ⟨_, rfl, Acc.nil k⟩
set_option maxHeartbeats 800000 in
theorem qSize (V : RV) (r : Rcd) (w : World) (h : SeeR w V r) : Calls Try.prog 14 #[r.agg V] w fun e w' => e = .returned (.int .i64 ((bytesF r).length : Int)) ∧ Kept [] w w' := by
  obtain ⟨pb, cb, pa, ca, pr, cr, pd, cd, rfl⟩ := h.shapes
  have hb := fun wz (kz : Kept [] w wz) => qBytes _ r wz (h.kept kz)
  clear h
  unfold Rcd.agg at hb ⊢
  dsimp only at hb ⊢
  go_enter Try.func14, Try.ntmps14
  go_wp2_with fail
  refine (hb _ ((Kept.refl [] w).alloc _)).mono ?_
  rintro e w1 ⟨u, rfl, a⟩
  obtain ⟨p, q, rfl⟩ := own_shape2 a.1
  have KE := @hideH _ (((Kept.refl [] w).alloc _).then a.2)
  clear a hb
  go_wp2
  go_ret
  exact ⟨rfl, KE.out⟩
end Go.Proofs.Ytebcmcmboomgfaa

/-
  OWN WORK. record: the deferred function literal of Parse.
-/
namespace Go.Proofs.Ytebcmcmboomgfaa
open Go.RowKit
set_option linter.unusedVariables false
set_option linter.unusedSimpArgs false

theorem catch_idle (p q : Addr) (w : World) :
    CallsD Try.prog 32 #[.pointer (some p), .pointer (some q)] .returning w fun e u' w' => e = .returned (.tuple #[]) ∧ u' = .returning ∧ w' = w := by
  refine callsD_of_wpS Try.func32 rfl fun c₀ cs hu => ?_
  apply wpS_seq
  apply wpS_region
  simp [wpOpsS, go_sem, recoverD, hu, Try.ntmps32, Exit.thenS]
  refine wpS_cond (t := false) (by simp [Act.eval, Array.replicate]) ?_
  simp only [Bool.false_eq_true, if_false]
  refine wpS_of_wp (wp_skip ?_)
  cases c₀
  simp_all [bodyPostS, results, Try.results32]
theorem catch_panic (A E : Nat) (z0 z1 z2 z3 z4 z5 z6 z7 z8 z9 z10 ze : Value) (u : TypeId) (pv : Value) (w : World) (hA : Blk w A 26 [z0, z1, z2, z3, z4, z5, z6, z7, z8, z9, z10]) (hE : Blk w E 28 [ze]) (hne : A ≠ E) :
    CallsD Try.prog 32 #[.pointer (some ⟨A, 0, none⟩), .pointer (some ⟨E, 0, none⟩)] (.panicking [{ v := .iface u pv, recovered := false }]) w fun e u' w' =>
      e = .returned (.tuple #[]) ∧ u' = .panicking [{ v := .iface u pv, recovered := true }] ∧ Blk w' A 26 ((bareR 0 0 0).cl nilV) ∧ Blk w' E 28 [.int .i64 90] ∧ Kept [A, E] w w' := by
  refine callsD_of_wpS Try.func32 rfl fun c₀ cs hu => ?_
  apply wpS_seq
  apply wpS_region
  simp [wpOpsS, go_sem, recoverD, hu, Try.ntmps32, Exit.thenS]
  refine wpS_cond (t := true) (by simp [Act.eval, Array.replicate]) ?_
  simp only [if_true]
  refine wpS_of_wp ?_
  have a0 := hA.cell (j := 0) rfl
  have a1 := hA.cell (j := 1) rfl
  have a2 := hA.cell (j := 2) rfl
  have a3 := hA.cell (j := 3) rfl
  have a4 := hA.cell (j := 4) rfl
  have a5 := hA.cell (j := 5) rfl
  have a6 := hA.cell (j := 6) rfl
  have a7 := hA.cell (j := 7) rfl
  have a8 := hA.cell (j := 8) rfl
  have a9 := hA.cell (j := 9) rfl
  have a10 := hA.cell (j := 10) rfl
  have f0 := hA.free 0
  have f1 := hA.free 1
  have f2 := hA.free 2
  have f3 := hA.free 3
  have f4 := hA.free 4
  have f5 := hA.free 5
  have f6 := hA.free 6
  have f7 := hA.free 7
  have f8 := hA.free 8
  have f9 := hA.free 9
  have f10 := hA.free 10
  have e0 := hE.cell (j := 0) rfl
  have g0 := hE.free 0
  have hEA : E ≠ A := fun q => hne q.symm
  obtain ⟨B1, k1⟩ := hA.fill11 (.int .i64 0) (.int .i64 0) (.int .i64 0) (.int .i64 0) (.int .i64 0) (.int .i64 0) (.slice none 0 0) (.slice none 0 0) (.int .i64 0) (.slice none 0 0) (.slice none 0 0)
  obtain ⟨B2, k2⟩ := (hE.kept k1 (by simpa using hEA)).set 0 (.int .i64 90)
  have B3 := B1.kept k2 (by simpa using hne)
  have FIN := @hideH _ (And.intro B3 (And.intro B2 ((k1.mono (T := [A, E]) (fun x hx => by simp at hx ⊢; exact .inl hx)).trans k2 (fun x hx => .inl (by simp at hx ⊢; exact .inr hx)))))
  clear B1 B2 B3 k1 k2
  go_wp2
  exact ⟨rfl, _, rfl, .tuple #[], by simp [results, Try.results32], rfl, rfl, FIN.out⟩
end Go.Proofs.Ytebcmcmboomgfaa

/-
  OWN WORK (by mkpr9.py). record: Parse.
-/
namespace Go.Proofs.Ytebcmcmboomgfaa
open Go.RowKit
set_option linter.unusedVariables false
set_option linter.unusedSimpArgs false

theorem pr_yes {l : List UInt8} {x : Rcd} (h : pAll l = some (x, [])) (hR : x.Right) : parseR l = some x := by
  unfold parseR
  rw [h]
  simp [hR]
theorem pr_wrong {l : List UInt8} {x : Rcd} (h : pAll l = some (x, [])) (hR : ¬ x.Right) : parseR l = none := by
  unfold parseR
  rw [h]
  simp [hR]

set_option maxRecDepth 20000 in
set_option maxHeartbeats 6400000 in
theorem qParse (v : Value) (l : List UInt8) (w : World) (hv : Bs w v l) (hl : l.length ≤ 140737488355328) : Calls Try.prog 12 #[v] w fun e w' => (∃ x V, parseR l = some x ∧ e = .returned (.tuple #[x.agg V, .int .i64 0]) ∧ OwnR w.heap.size w' V x ∧ Kept [] w w') ∨ (parseR l = none ∧ e = .returned (.tuple #[(bareR 0 0 0).agg nilV, .int .i64 90]) ∧ Kept [] w w') := by
  have hmf : ∀ (fn : Fn) (first cap : Array Value) (w : World), (Instr.makeFunc fn first cap).run Try.prog w = .ok (.func fn first cap) w := fun _ _ _ _ => rfl
  have HLN := @hideH _ hl
  clear hl
  obtain ⟨w1, hw1⟩ : ∃ w1, w1 = (w.alloc (.cells #[.int .i64 0, .int .i64 0, .int .i64 0, .int .i64 0, .int .i64 0, .int .i64 0, .slice none 0 0, .slice none 0 0, .int .i64 0, .slice none 0 0, .slice none 0 0] 26)).alloc (.cells #[.int .i64 0] 28) := ⟨_, rfl⟩
  have K1 : Kept [] w w1 := by rw [hw1]; exact ((Kept.refl [] w).alloc _).alloc _
  have BA : Blk w1 w.heap.size 26 [.int .i64 0, .int .i64 0, .int .i64 0, .int .i64 0, .int .i64 0, .int .i64 0, .slice none 0 0, .slice none 0 0, .int .i64 0, .slice none 0 0, .slice none 0 0] := by rw [hw1]; exact (Blk.new w _ _).kept ((Kept.refl [] _).alloc _) (by simp)
  have BE : Blk w1 (w.heap.size + 1) 28 [.int .i64 0] := by rw [hw1]; have q := Blk.new (w.alloc (.cells #[.int .i64 0, .int .i64 0, .int .i64 0, .int .i64 0, .int .i64 0, .int .i64 0, .slice none 0 0, .slice none 0 0, .int .i64 0, .slice none 0 0, .slice none 0 0] 26)) 28 [.int .i64 0]; rw [World.size_alloc] at q; exact q
  have hN := newReader_low v l w1 (hv.kept K1) HLN.out
  obtain ⟨pv, cv, rfl, -⟩ := id hv
  clear hv
  go_enter_defers Try.func12, Try.ntmps12
  go_upto_region 2 with fail
  rw [← hw1]
  clear hw1
  go_wp2_with fail
  refine hN.mono ?_
  clear hN
  rintro e w2 ⟨g, rfl, hg, hr, k2⟩
  have hT := qTake g l w2 hr HLN.out
  unfold src at hT
  have BA2 := BA.kept k2 (by simp)
  have BE2 := BE.kept k2 (by simp)
  have hg2 : w.heap.size + 2 ≤ g := by have := BE.lt; omega
  go_wp2_with fail
  refine hT.mono ?_
  clear hT
  rintro e w3 (⟨x, V, hp, rfl, OW, k3⟩ | ⟨hno, ⟨xz, rfl⟩, k3⟩)
  rotate_left
  · have BA3 := BA2.kept k3 (by simp; omega)
    have BE3 := BE2.kept k3 (by simp; omega)
    have KE : Kept [] w w3 := (K1.then k2).trans k3 (fun y hy => .inr (by simp at hy; omega))
    refine leaves_cons (f := 32) (args := #[.pointer (some ⟨w.heap.size, 0, none⟩), .pointer (some ⟨w.heap.size + 1, 0, none⟩)]) (by simp) (by simp [go_sem]) ?_
    refine (catch_panic w.heap.size (w.heap.size + 1) _ _ _ _ _ _ _ _ _ _ _ _ _ _ w3 BA3 BE3 (by omega)).mono ?_
    rintro e u' w4 ⟨rfl, rfl, BA4, BE4, k4⟩
    have KF : Kept [] w w4 := KE.trans k4 (fun y hy => .inr (by simp at hy; omega))
    have q0 := BA4.cell (j := 0) rfl
    have q1 := BA4.cell (j := 1) rfl
    have q2 := BA4.cell (j := 2) rfl
    have q3 := BA4.cell (j := 3) rfl
    have q4 := BA4.cell (j := 4) rfl
    have q5 := BA4.cell (j := 5) rfl
    have q6 := BA4.cell (j := 6) rfl
    have q7 := BA4.cell (j := 7) rfl
    have q8 := BA4.cell (j := 8) rfl
    have q9 := BA4.cell (j := 9) rfl
    have q10 := BA4.cell (j := 10) rfl
    have qe := BE4.cell (j := 0) rfl
    have FIN := @hideH _ (And.intro hno KF)
    clear BA BE BA2 BE2 BA3 BE3 BA4 BE4 k2 k3 k4 K1 KE KF hno
    simp [Leaves, settle, results, Try.results12, go_sem, q0, q1, q2, q3, q4, q5, q6, q7, q8, q9, q10, qe]
    exact ⟨FIN.out.1, rfl, FIN.out.2⟩
  have BA3 := BA2.kept k3 (by simp; omega)
  have BE3 := BE2.kept k3 (by simp; omega)
  have K3 : Kept [] w w3 := (K1.then k2).trans k3 (fun y hy => .inr (by simp at hy; omega))
  have HSZ := @hideH _ (show w.heap.size + 2 ≤ w2.heap.size by have := BE2.lt; omega)
  have HSH := @hideH _ OW.see.shapes
  have HP := @hideH _ hp
  clear BA BE BA2 BE2 k2 k3 K1 hp hr
  obtain ⟨pb, cb, pa, ca, pr, cr, pd, cd, hV⟩ := HSH.out
  subst hV
  clear HSH
  obtain ⟨kind, birth, prev, id, page, frm, before, after, next, rows, dirty⟩ := x
  unfold Rcd.agg
  dsimp only
  obtain ⟨BA4, k4⟩ := BA3.fill11 (.int .i64 kind) (.int .i64 birth) (.int .i64 prev) (.int .i64 id) (.int .i64 page) (.int .i64 frm) (.slice pb before.length cb) (.slice pa after.length ca) (.int .i64 next) (.slice pr rows.length cr) (.slice pd dirty.length cd)
  have a0 := BA3.cell (j := 0) rfl
  have a1 := BA3.cell (j := 1) rfl
  have a2 := BA3.cell (j := 2) rfl
  have a3 := BA3.cell (j := 3) rfl
  have a4 := BA3.cell (j := 4) rfl
  have a5 := BA3.cell (j := 5) rfl
  have a6 := BA3.cell (j := 6) rfl
  have a7 := BA3.cell (j := 7) rfl
  have a8 := BA3.cell (j := 8) rfl
  have a9 := BA3.cell (j := 9) rfl
  have a10 := BA3.cell (j := 10) rfl
  have f0 := BA3.free 0
  have f1 := BA3.free 1
  have f2 := BA3.free 2
  have f3 := BA3.free 3
  have f4 := BA3.free 4
  have f5 := BA3.free 5
  have f6 := BA3.free 6
  have f7 := BA3.free 7
  have f8 := BA3.free 8
  have f9 := BA3.free 9
  have f10 := BA3.free 10
  obtain ⟨w4, hw4⟩ : ∃ w4, w4 = (((((((((((w3.setCell ⟨w.heap.size, 0, none⟩ (.int .i64 kind)).setCell ⟨w.heap.size, 1, none⟩ (.int .i64 birth)).setCell ⟨w.heap.size, 2, none⟩ (.int .i64 prev)).setCell ⟨w.heap.size, 3, none⟩ (.int .i64 id)).setCell ⟨w.heap.size, 4, none⟩ (.int .i64 page)).setCell ⟨w.heap.size, 5, none⟩ (.int .i64 frm)).setCell ⟨w.heap.size, 6, none⟩ (.slice pb before.length cb)).setCell ⟨w.heap.size, 7, none⟩ (.slice pa after.length ca)).setCell ⟨w.heap.size, 8, none⟩ (.int .i64 next)).setCell ⟨w.heap.size, 9, none⟩ (.slice pr rows.length cr)).setCell ⟨w.heap.size, 10, none⟩ (.slice pd dirty.length cd)) := ⟨_, rfl⟩
  rw [← hw4] at BA4 k4
  have OW4 := OW.kept k4 (fun y hy hm => by simp at hm; have e1 := (OW.ge hy).1; have e2 := HSZ.out; omega)
  have BE4 := BE3.kept k4 (by simp)
  have K4 : Kept [] w w4 := K3.trans k4 (fun y hy => .inr (by simp at hy; omega))
  clear BA3 BE3 k4 OW K3
  go_upto_region 3 with fail
  rw [← hw4]
  clear hw4 a0 f0 a1 f1 a2 f2 a3 f3 a4 f4 a5 f5 a6 f6 a7 f7 a8 f8 a9 f9 a10 f10
  have c0 := BA4.cell (j := 0) rfl
  have c1 := BA4.cell (j := 1) rfl
  have c2 := BA4.cell (j := 2) rfl
  have c3 := BA4.cell (j := 3) rfl
  have c4 := BA4.cell (j := 4) rfl
  have c5 := BA4.cell (j := 5) rfl
  have c6 := BA4.cell (j := 6) rfl
  have c7 := BA4.cell (j := 7) rfl
  have c8 := BA4.cell (j := 8) rfl
  have c9 := BA4.cell (j := 9) rfl
  have c10 := BA4.cell (j := 10) rfl
  have hRt := qRight _ _ w4 OW4.see
  unfold Rcd.agg at hRt
  dsimp only at hRt
  by_cases hR : (⟨kind, birth, prev, id, page, frm, before, after, next, rows, dirty⟩ : Rcd).Right
  · simp only [bl_t hR] at hRt
    have HPR := @hideH _ (pr_yes HP.out hR)
    clear hR
    go_wp2_with fail
    refine hRt.mono ?_
    clear hRt
    rintro e w5 ⟨rfl, k5⟩
    have BA5 := BA4.kept k5 (by simp)
    have BE5 := BE4.kept k5 (by simp)
    have OW5 := OW4.kept k5 (by simp)
    have K5 := K4.then k5
    replace c0 := k5.cell c0 (by simp)
    replace c1 := k5.cell c1 (by simp)
    replace c2 := k5.cell c2 (by simp)
    replace c3 := k5.cell c3 (by simp)
    replace c4 := k5.cell c4 (by simp)
    replace c5 := k5.cell c5 (by simp)
    replace c6 := k5.cell c6 (by simp)
    replace c7 := k5.cell c7 (by simp)
    replace c8 := k5.cell c8 (by simp)
    replace c9 := k5.cell c9 (by simp)
    replace c10 := k5.cell c10 (by simp)
    have f0 := BA5.free 0
    have f1 := BA5.free 1
    have f2 := BA5.free 2
    have f3 := BA5.free 3
    have f4 := BA5.free 4
    have f5 := BA5.free 5
    have f6 := BA5.free 6
    have f7 := BA5.free 7
    have f8 := BA5.free 8
    have f9 := BA5.free 9
    have f10 := BA5.free 10
    have ce := BE5.cell (j := 0) rfl
    have fe := BE5.free 0
    obtain ⟨BA6, k6⟩ := BA5.fill11 (.int .i64 kind) (.int .i64 birth) (.int .i64 prev) (.int .i64 id) (.int .i64 page) (.int .i64 frm) (.slice pb before.length cb) (.slice pa after.length ca) (.int .i64 next) (.slice pr rows.length cr) (.slice pd dirty.length cd)
    obtain ⟨BE7, k7⟩ := (BE5.kept k6 (by simp)).set 0 (.int .i64 0)
    have BA7 := BA6.kept k7 (by simp)
    have K7 := (K5.trans k6 (fun y hy => .inr (by simp at hy; omega))).trans k7 (fun y hy => .inr (by simp at hy; omega))
    have OW7 := (OW5.kept k6 (fun y hy hm => by simp at hm; have e1 := (OW5.ge hy).1; have e2 := HSZ.out; omega)).kept k7 (fun y hy hm => by simp at hm; have e1 := (OW5.ge hy).1; have e2 := HSZ.out; omega)
    obtain ⟨w7, hw7⟩ : ∃ w7, w7 = ((((((((((((w5.setCell ⟨w.heap.size, 0, none⟩ (.int .i64 kind)).setCell ⟨w.heap.size, 1, none⟩ (.int .i64 birth)).setCell ⟨w.heap.size, 2, none⟩ (.int .i64 prev)).setCell ⟨w.heap.size, 3, none⟩ (.int .i64 id)).setCell ⟨w.heap.size, 4, none⟩ (.int .i64 page)).setCell ⟨w.heap.size, 5, none⟩ (.int .i64 frm)).setCell ⟨w.heap.size, 6, none⟩ (.slice pb before.length cb)).setCell ⟨w.heap.size, 7, none⟩ (.slice pa after.length ca)).setCell ⟨w.heap.size, 8, none⟩ (.int .i64 next)).setCell ⟨w.heap.size, 9, none⟩ (.slice pr rows.length cr)).setCell ⟨w.heap.size, 10, none⟩ (.slice pd dirty.length cd)).setCell ⟨w.heap.size + 1, 0, none⟩ (.int .i64 0)) := ⟨_, rfl⟩
    rw [← hw7] at BA7 BE7 K7 OW7
    have FIN := @hideH _ (And.intro HPR.out (And.intro (OW7.mono (show w.heap.size ≤ w2.heap.size by have := HSZ.out; omega)) K7))
    clear BA4 BE4 OW4 K4 BA5 BE5 OW5 K5 BA6 k5 k6 k7 OW7 K7
    go_wp2
    rw [← hw7]
    clear hw7
    have q0 := BA7.cell (j := 0) rfl
    have q1 := BA7.cell (j := 1) rfl
    have q2 := BA7.cell (j := 2) rfl
    have q3 := BA7.cell (j := 3) rfl
    have q4 := BA7.cell (j := 4) rfl
    have q5 := BA7.cell (j := 5) rfl
    have q6 := BA7.cell (j := 6) rfl
    have q7 := BA7.cell (j := 7) rfl
    have q8 := BA7.cell (j := 8) rfl
    have q9 := BA7.cell (j := 9) rfl
    have q10 := BA7.cell (j := 10) rfl
    have qe := BE7.cell (j := 0) rfl
    refine leaves_cons (f := 32) (args := #[.pointer (some ⟨w.heap.size, 0, none⟩), .pointer (some ⟨w.heap.size + 1, 0, none⟩)]) (by simp) (by simp [go_sem]) ?_
    refine (catch_idle _ _ _).mono ?_
    rintro e u' w8 ⟨rfl, rfl, rfl⟩
    exact ⟨.tuple #[_, .int .i64 0], by simp [results, Try.results12, go_sem, q0, q1, q2, q3, q4, q5, q6, q7, q8, q9, q10, qe]; rfl, .inl ⟨_, _, FIN.out.1, rfl, FIN.out.2⟩⟩
  · simp only [bl_f hR] at hRt
    have HPR := @hideH _ (pr_wrong HP.out hR)
    clear hR
    go_wp2_with fail
    refine hRt.mono ?_
    clear hRt
    rintro e w5 ⟨rfl, k5⟩
    have BA5 := BA4.kept k5 (by simp)
    have BE5 := BE4.kept k5 (by simp)
    have K5 := K4.then k5
    replace c0 := k5.cell c0 (by simp)
    replace c1 := k5.cell c1 (by simp)
    replace c2 := k5.cell c2 (by simp)
    replace c3 := k5.cell c3 (by simp)
    replace c4 := k5.cell c4 (by simp)
    replace c5 := k5.cell c5 (by simp)
    replace c6 := k5.cell c6 (by simp)
    replace c7 := k5.cell c7 (by simp)
    replace c8 := k5.cell c8 (by simp)
    replace c9 := k5.cell c9 (by simp)
    replace c10 := k5.cell c10 (by simp)
    have f0 := BA5.free 0
    have f1 := BA5.free 1
    have f2 := BA5.free 2
    have f3 := BA5.free 3
    have f4 := BA5.free 4
    have f5 := BA5.free 5
    have f6 := BA5.free 6
    have f7 := BA5.free 7
    have f8 := BA5.free 8
    have f9 := BA5.free 9
    have f10 := BA5.free 10
    have ce := BE5.cell (j := 0) rfl
    have fe := BE5.free 0
    obtain ⟨BA6, k6⟩ := BA5.fill11 (.int .i64 0) (.int .i64 0) (.int .i64 0) (.int .i64 0) (.int .i64 0) (.int .i64 0) (.slice none 0 0) (.slice none 0 0) (.int .i64 0) (.slice none 0 0) (.slice none 0 0)
    obtain ⟨BE7, k7⟩ := (BE5.kept k6 (by simp)).set 0 (.int .i64 90)
    have BA7 := BA6.kept k7 (by simp)
    have K7 := (K5.trans k6 (fun y hy => .inr (by simp at hy; omega))).trans k7 (fun y hy => .inr (by simp at hy; omega))
    obtain ⟨w7, hw7⟩ : ∃ w7, w7 = ((((((((((((w5.setCell ⟨w.heap.size, 0, none⟩ (.int .i64 0)).setCell ⟨w.heap.size, 1, none⟩ (.int .i64 0)).setCell ⟨w.heap.size, 2, none⟩ (.int .i64 0)).setCell ⟨w.heap.size, 3, none⟩ (.int .i64 0)).setCell ⟨w.heap.size, 4, none⟩ (.int .i64 0)).setCell ⟨w.heap.size, 5, none⟩ (.int .i64 0)).setCell ⟨w.heap.size, 6, none⟩ (.slice none 0 0)).setCell ⟨w.heap.size, 7, none⟩ (.slice none 0 0)).setCell ⟨w.heap.size, 8, none⟩ (.int .i64 0)).setCell ⟨w.heap.size, 9, none⟩ (.slice none 0 0)).setCell ⟨w.heap.size, 10, none⟩ (.slice none 0 0)).setCell ⟨w.heap.size + 1, 0, none⟩ (.int .i64 90)) := ⟨_, rfl⟩
    rw [← hw7] at BA7 BE7 K7
    have FIN := @hideH _ (And.intro HPR.out K7)
    clear BA4 BE4 OW4 K4 BA5 BE5 K5 BA6 k5 k6 k7 K7
    go_wp2
    rw [← hw7]
    clear hw7
    have q0 := BA7.cell (j := 0) rfl
    have q1 := BA7.cell (j := 1) rfl
    have q2 := BA7.cell (j := 2) rfl
    have q3 := BA7.cell (j := 3) rfl
    have q4 := BA7.cell (j := 4) rfl
    have q5 := BA7.cell (j := 5) rfl
    have q6 := BA7.cell (j := 6) rfl
    have q7 := BA7.cell (j := 7) rfl
    have q8 := BA7.cell (j := 8) rfl
    have q9 := BA7.cell (j := 9) rfl
    have q10 := BA7.cell (j := 10) rfl
    have qe := BE7.cell (j := 0) rfl
    refine leaves_cons (f := 32) (args := #[.pointer (some ⟨w.heap.size, 0, none⟩), .pointer (some ⟨w.heap.size + 1, 0, none⟩)]) (by simp) (by simp [go_sem]) ?_
    refine (catch_idle _ _ _).mono ?_
    rintro e u' w8 ⟨rfl, rfl, rfl⟩
    exact ⟨.tuple #[(bareR 0 0 0).agg nilV, .int .i64 90], by simp [results, Try.results12, go_sem, q0, q1, q2, q3, q4, q5, q6, q7, q8, q9, q10, qe]; rfl, .inr ⟨FIN.out.1, rfl, FIN.out.2⟩⟩
end Go.Proofs.Ytebcmcmboomgfaa

/-
  OWN WORK. The law's alive.
-/
namespace Go.Proofs.Ytebcmcmboomgfaa
open Go.RowKit
set_option linter.unusedVariables false
set_option linter.unusedSimpArgs false

def W17 : List UInt8 := [4, 1, 0, 0, 0, 0, 0, 0, 0, 2, 1, 0, 0, 0, 0, 0, 0]
def R4 : Rcd := ⟨4, 1, 258, 0, 0, 0, [], [], 0, [], []⟩
theorem R4_right : R4.Right := by
  unfold R4 Rcd.Right lsnOk
  simp
theorem R4_bytes : bytesR R4 = W17 := by decide
theorem Bs.ofText (w : World) (e : TypeId) (l : List UInt8) (hl : l.length ≤ maxLen) : Bs (w.drew.alloc (.cells (bytesRow ⟨l.toArray⟩ (grownCap w (ByteArray.mk l.toArray).size 0 e)) e ((bytesRow ⟨l.toArray⟩ (grownCap w (ByteArray.mk l.toArray).size 0 e)).size, (bytesRow ⟨l.toArray⟩ (grownCap w (ByteArray.mk l.toArray).size 0 e)).size + 1))) (.slice (some ⟨w.heap.size, 0, none⟩) l.length (grownCap w (ByteArray.mk l.toArray).size 0 e)) l := by
  have hs : (ByteArray.mk l.toArray).size = l.length := by simp [ByteArray.size]
  rw [hs]
  refine Bs.mk (grownCap_ge w l.length 0 e) (grownCap_le_maxLen w l.length 0 e hl) fun i x hx => ?_
  have hi := (List.getElem?_eq_some_iff.1 hx).1
  have h1 := World.cell?_alloc_mark w.drew (bytesRow ⟨l.toArray⟩ (grownCap w l.length 0 e)) e ((bytesRow ⟨l.toArray⟩ (grownCap w l.length 0 e)).size, (bytesRow ⟨l.toArray⟩ (grownCap w l.length 0 e)).size + 1) i
  have h2 := bytesRow_at ⟨l.toArray⟩ (grownCap w l.length 0 e) i (by simpa using hi)
  rw [h2] at h1
  have hx' : l[i] = x := by simpa [List.getElem?_eq_getElem hi] using hx
  simp [hx'] at h1
  simpa using h1
set_option maxRecDepth 20000 in
set_option maxHeartbeats 3200000 in
theorem alive_any (w : World) : Calls Try.prog 9 #[] w fun e w' => e = .returned (.bool true) ∧ Kept [] w w' := by
  have hl1 := Bs.litF w 5 W17 #[.int .u8 4, .int .u8 1, .int .u8 0, .int .u8 0, .int .u8 0, .int .u8 0, .int .u8 0, .int .u8 0, .int .u8 0, .int .u8 2, .int .u8 1, .int .u8 0, .int .u8 0, .int .u8 0, .int .u8 0, .int .u8 0, .int .u8 0] (0, 0) (by rfl) (by simp [W17, maxLen]) _ rfl
  have t1 := hl1.textR
  obtain ⟨TT, hTT⟩ : ∃ TT : ByteArray, TT = ⟨W17.toArray⟩ := ⟨_, rfl⟩
  rw [← hTT] at t1
  have h17 : W17.length = 17 := rfl
  rw [h17] at t1
  have t2 := fun w => run_bytes_of_string (P := Try.prog) w 9 22 5 TT Try.underlying9 Try.underlying22 Try.underlying5
  have hB := fun w => qBytes nilV R4 w (OwnR.bare 0 w 4 1 258 0 0 0 0).see
  rw [errF_t R4_right, bytesF_t R4_right, R4_bytes] at hB
  have hP := fun w => qParse _ W17 _ (Bs.ofText w 5 W17 (by simp [W17, maxLen])) (by simp [W17])
  rw [← hTT] at hP
  have hSz : TT.size = 17 := by rw [hTT]; rfl
  rw [hSz] at hP
  simp only [hSz] at t2
  rw [h17] at hP
  have HTT := @hideH _ hTT
  have pR : parseR W17 = some R4 := by rw [← R4_bytes]; exact parseR_of R4_right
  clear hTT hl1 hSz
  unfold Rcd.agg R4 nilV at hB
  dsimp only at hB
  go_enter Try.func9, Try.ntmps9
  go_wp2_with fail
  refine (hB _).mono ?_
  clear hB t1
  rintro e w2 ⟨u, rfl, a2⟩
  have K2 : Kept [] w w2 := ((Kept.refl [] w).alloc _).then a2.2
  have hbu := a2.bs
  obtain ⟨pu, cu, rfl⟩ := own_shape2 a2.1
  rw [h17] at hbu ⊢
  clear a2
  go_wp2_with fail
  refine (hP _).mono ?_
  clear hP t2
  rintro e w3 (⟨x, V, hp, rfl, OW, k3⟩ | ⟨hno, -, -⟩)
  rotate_left
  · rw [pR] at hno; cases hno
  obtain rfl : x = R4 := by rw [pR] at hp; cases hp; rfl
  have k23 : Kept [] w2 w3 := (((Kept.refl [] w2).drew).alloc _).then k3
  have hS := OW.see
  obtain ⟨pb, cb, pa, ca, pr, cr, pd, cd, rfl⟩ := hS.shapes
  obtain ⟨w4, hw4⟩ : ∃ w4, w4 = w3.alloc (.cells #[.int .i64 4, .int .i64 1, .int .i64 258, .int .i64 0, .int .i64 0, .int .i64 0, .slice pb 0 cb, .slice pa 0 ca, .int .i64 0, .slice pr 0 cr, .slice pd 0 cd] 26) := ⟨_, rfl⟩
  have k34 : Kept [] w3 w4 := by rw [hw4]; exact (Kept.refl [] w3).alloc _
  have B4 : Blk w4 w3.heap.size 26 [.int .i64 4, .int .i64 1, .int .i64 258, .int .i64 0, .int .i64 0, .int .i64 0, .slice pb 0 cb, .slice pa 0 ca, .int .i64 0, .slice pr 0 cr, .slice pd 0 cd] := by rw [hw4]; exact Blk.new w3 _ _
  have t4 := ((hbu.kept k23).kept k34).textR
  rw [← HTT.out] at t4
  have hZ := qSize _ R4 w4 (hS.kept k34)
  rw [bytesF_t R4_right, R4_bytes, h17] at hZ
  unfold Rcd.agg R4 at hZ
  dsimp only [List.length_nil] at hZ
  have K4 := @hideH _ ((K2.then k23).then k34)
  have c0 := B4.cell (j := 0) rfl
  have c1 := B4.cell (j := 1) rfl
  have c2 := B4.cell (j := 2) rfl
  have c3 := B4.cell (j := 3) rfl
  have c4 := B4.cell (j := 4) rfl
  have c5 := B4.cell (j := 5) rfl
  have c6 := B4.cell (j := 6) rfl
  have c7 := B4.cell (j := 7) rfl
  have c8 := B4.cell (j := 8) rfl
  have c9 := B4.cell (j := 9) rfl
  have c10 := B4.cell (j := 10) rfl
  clear hbu OW k3 k23 hS k34 B4 K2 hp
  unfold Rcd.agg R4
  dsimp only [List.length_nil]
  go_upto_region 4 with fail
  rw [← hw4]
  clear hw4
  go_wp2_with fail
  refine (rNum 0 _).mono ?_
  rintro e w5 ⟨rfl, rfl⟩
  go_wp2_with fail
  refine (rNum 0 _).mono ?_
  rintro e w5 ⟨rfl, rfl⟩
  go_wp2_with fail
  refine hZ.mono ?_
  rintro e w6 ⟨rfl, k6⟩
  have KE := @hideH _ (K4.out.then k6)
  clear hZ k6 c0 c1 c2 c3 c4 c5 c6 c7 c8 c9 c10 t4
  go_wp2
  go_ret
  exact ⟨rfl, KE.out⟩
end Go.Proofs.Ytebcmcmboomgfaa

/-
  OWN WORK (by mklw7.py). RecordForms.
-/
namespace Go.Proofs.Ytebcmcmboomgfaa
open Go.RowKit
set_option linter.unusedVariables false
set_option linter.unusedSimpArgs false

theorem Calm.callK {P : Program} {f : FuncId} {args : Array Value} {w2 : World} {v : Value} (c : ∀ w, Kept [] w2 w → Calls P f args w fun e w' => e = .returned v ∧ Kept [] w w') (s : Calm w2) : Calls P f args s.at fun e w'' => e = .returned v ∧ ∃ s' : Calm w2, w'' = s'.at :=
  (c s.at s.kept).mono fun e w'' h => ⟨h.1, ⟨w'', s.kept.then h.2⟩, rfl⟩
theorem rNumK (z : Int) (w : World) : Calls Try.prog 11 #[.int .i64 z] w fun e w' => e = .returned (.int .i64 z) ∧ Kept [] w w' := (rNum z w).mono fun e w' h => ⟨h.1, by rw [h.2]; exact Kept.refl _ _⟩
set_option maxRecDepth 40000 in
set_option maxHeartbeats 12800000 in
theorem recordForms_walk (Va : RV) (xa : Rcd) (w : World) (sa : SeeR w Va xa) (hcap : DeskCap xa) : Calls Try.prog 8 #[xa.agg Va] w fun e w' => e = .returned (.bool true) ∧ Kept [] w w' := by
  haveI HNE : ∀ w2, Nonempty (Calm w2) := calmNe
  have hDk := fun wz (kz : Kept [] w wz) => desked_any _ xa wz (sa.kept kz) hcap
  have HSA := @hideH _ sa
  have HCAP := @hideH _ hcap
  obtain ⟨pba, cba, paa, caa, pra, cra, pda, cda, hVa⟩ := sa.shapes
  subst hVa
  clear sa hcap
  unfold Rcd.agg at hDk ⊢
  dsimp only at hDk ⊢
  obtain ⟨w1, hw1⟩ : ∃ wx, wx = w.alloc (.cells #[.int .i64 xa.kind, .int .i64 xa.birth, .int .i64 xa.prev, .int .i64 xa.id, .int .i64 xa.page, .int .i64 xa.frm, .slice pba xa.before.length cba, .slice paa xa.after.length caa, .int .i64 xa.next, .slice pra xa.rows.length cra, .slice pda xa.dirty.length cda] 26) := ⟨_, rfl⟩
  have k1 : Kept [] w w1 := by rw [hw1]; exact (Kept.refl [] w).alloc _
  have Ba : Blk w1 w.heap.size 26 [.int .i64 xa.kind, .int .i64 xa.birth, .int .i64 xa.prev, .int .i64 xa.id, .int .i64 xa.page, .int .i64 xa.frm, .slice pba xa.before.length cba, .slice paa xa.after.length caa, .int .i64 xa.next, .slice pra xa.rows.length cra, .slice pda xa.dirty.length cda] := by rw [hw1]; exact Blk.new w _ _
  go_enter Try.func8, Try.ntmps8
  go_upto_region 1 with fail
  rw [← hw1]
  clear hw1
  have ca0 := Ba.cell (j := 0) rfl
  have ca1 := Ba.cell (j := 1) rfl
  have ca2 := Ba.cell (j := 2) rfl
  have ca3 := Ba.cell (j := 3) rfl
  have ca4 := Ba.cell (j := 4) rfl
  have ca5 := Ba.cell (j := 5) rfl
  have ca6 := Ba.cell (j := 6) rfl
  have ca7 := Ba.cell (j := 7) rfl
  have ca8 := Ba.cell (j := 8) rfl
  have ca9 := Ba.cell (j := 9) rfl
  have ca10 := Ba.cell (j := 10) rfl
  go_wp2_with fail
  refine (hDk _ k1).mono ?_
  clear hDk
  rintro e w2 ⟨pB, cB, pA, cA, pR, cR, pD, cD, rfl, hO, k2⟩
  unfold deskV
  obtain ⟨w3, hw3⟩ : ∃ wx, wx = w2.alloc (.cells #[.int .i64 xa.kind, .int .i64 xa.birth, .int .i64 xa.prev, .int .i64 xa.id, .int .i64 xa.page, .int .i64 xa.frm, .slice pB xa.before.length cB, .slice pA xa.after.length cA, .int .i64 xa.next, .slice pR xa.rows.length cR, .slice pD xa.dirty.length cD, .slice pB (xa.before.length + 120) cB, .slice pA (xa.after.length + 120) cA, .slice pR (xa.rows.length + 40) cR, .slice pD (xa.dirty.length + 40) cD] 42) := ⟨_, rfl⟩
  have k3 : Kept [] w2 w3 := by rw [hw3]; exact (Kept.refl [] w2).alloc _
  have BE : Blk w3 w2.heap.size 42 [.int .i64 xa.kind, .int .i64 xa.birth, .int .i64 xa.prev, .int .i64 xa.id, .int .i64 xa.page, .int .i64 xa.frm, .slice pB xa.before.length cB, .slice pA xa.after.length cA, .int .i64 xa.next, .slice pR xa.rows.length cR, .slice pD xa.dirty.length cD, .slice pB (xa.before.length + 120) cB, .slice pA (xa.after.length + 120) cA, .slice pR (xa.rows.length + 40) cR, .slice pD (xa.dirty.length + 40) cD] := by rw [hw3]; exact Blk.new w2 _ _
  have hD := hO.read.kept k3
  have K3 := k1.then (k2.then k3)
  have Ba3 := Ba.kept (k2.then k3) (by simp)
  clear hO k1 Ba k2 k3 ca0 ca1 ca2 ca3 ca4 ca5 ca6 ca7 ca8 ca9 ca10
  go_upto_region 2 with fail
  rw [← hw3]
  clear hw3
  have ca0 := Ba3.cell (j := 0) rfl
  have ca1 := Ba3.cell (j := 1) rfl
  have ca2 := Ba3.cell (j := 2) rfl
  have ca3 := Ba3.cell (j := 3) rfl
  have ca4 := Ba3.cell (j := 4) rfl
  have ca5 := Ba3.cell (j := 5) rfl
  have ca6 := Ba3.cell (j := 6) rfl
  have ca7 := Ba3.cell (j := 7) rfl
  have ca8 := Ba3.cell (j := 8) rfl
  have ca9 := Ba3.cell (j := 9) rfl
  have ca10 := Ba3.cell (j := 10) rfl
  have e0 := BE.cell (j := 0) rfl
  have e1 := BE.cell (j := 1) rfl
  have e2 := BE.cell (j := 2) rfl
  have e3 := BE.cell (j := 3) rfl
  have e4 := BE.cell (j := 4) rfl
  have e5 := BE.cell (j := 5) rfl
  have e6 := BE.cell (j := 6) rfl
  have e7 := BE.cell (j := 7) rfl
  have e8 := BE.cell (j := 8) rfl
  have e9 := BE.cell (j := 9) rfl
  have e10 := BE.cell (j := 10) rfl
  have e11 := BE.cell (j := 11) rfl
  have e12 := BE.cell (j := 12) rfl
  have e13 := BE.cell (j := 13) rfl
  have e14 := BE.cell (j := 14) rfl
  have hB := qBytes _ xa w3 hD.see
  unfold Rcd.agg at hB
  dsimp only at hB
  go_wp2_with fail
  refine hB.mono ?_
  clear hB
  rintro e w4 ⟨u4, rfl, a4⟩
  have k4 := a4.2
  have b4 := a4.bs
  obtain ⟨p4, q4, hu4⟩ := own_shape2 a4.1
  subst hu4
  clear a4
  replace ca0 := k4.cell ca0 (by simp)
  replace ca1 := k4.cell ca1 (by simp)
  replace ca2 := k4.cell ca2 (by simp)
  replace ca3 := k4.cell ca3 (by simp)
  replace ca4 := k4.cell ca4 (by simp)
  replace ca5 := k4.cell ca5 (by simp)
  replace ca6 := k4.cell ca6 (by simp)
  replace ca7 := k4.cell ca7 (by simp)
  replace ca8 := k4.cell ca8 (by simp)
  replace ca9 := k4.cell ca9 (by simp)
  replace ca10 := k4.cell ca10 (by simp)
  replace e0 := k4.cell e0 (by simp)
  replace e1 := k4.cell e1 (by simp)
  replace e2 := k4.cell e2 (by simp)
  replace e3 := k4.cell e3 (by simp)
  replace e4 := k4.cell e4 (by simp)
  replace e5 := k4.cell e5 (by simp)
  replace e6 := k4.cell e6 (by simp)
  replace e7 := k4.cell e7 (by simp)
  replace e8 := k4.cell e8 (by simp)
  replace e9 := k4.cell e9 (by simp)
  replace e10 := k4.cell e10 (by simp)
  replace e11 := k4.cell e11 (by simp)
  replace e12 := k4.cell e12 (by simp)
  replace e13 := k4.cell e13 (by simp)
  replace e14 := k4.cell e14 (by simp)
  have hB := rBytes _ xa w4 (HSA.out.kept (K3.then k4))
  unfold Rcd.agg at hB
  dsimp only at hB
  go_wp2_with fail
  refine hB.mono ?_
  clear hB
  rintro e w5 ⟨u5, rfl, a5⟩
  have k5 := a5.2
  have b5 := a5.bs
  obtain ⟨p5, q5, hu5⟩ := own_shape2 a5.1
  subst hu5
  clear a5
  replace ca0 := k5.cell ca0 (by simp)
  replace ca1 := k5.cell ca1 (by simp)
  replace ca2 := k5.cell ca2 (by simp)
  replace ca3 := k5.cell ca3 (by simp)
  replace ca4 := k5.cell ca4 (by simp)
  replace ca5 := k5.cell ca5 (by simp)
  replace ca6 := k5.cell ca6 (by simp)
  replace ca7 := k5.cell ca7 (by simp)
  replace ca8 := k5.cell ca8 (by simp)
  replace ca9 := k5.cell ca9 (by simp)
  replace ca10 := k5.cell ca10 (by simp)
  replace e0 := k5.cell e0 (by simp)
  replace e1 := k5.cell e1 (by simp)
  replace e2 := k5.cell e2 (by simp)
  replace e3 := k5.cell e3 (by simp)
  replace e4 := k5.cell e4 (by simp)
  replace e5 := k5.cell e5 (by simp)
  replace e6 := k5.cell e6 (by simp)
  replace e7 := k5.cell e7 (by simp)
  replace e8 := k5.cell e8 (by simp)
  replace e9 := k5.cell e9 (by simp)
  replace e10 := k5.cell e10 (by simp)
  replace e11 := k5.cell e11 (by simp)
  replace e12 := k5.cell e12 (by simp)
  replace e13 := k5.cell e13 (by simp)
  replace e14 := k5.cell e14 (by simp)
  have K5 := (K3.then k4).then k5
  have k35 := k4.then k5
  have b45 := b4.kept k5
  have hS1 := fun wz (kz : Kept [] w5 wz) => qSize _ xa wz (hD.see.kept (k35.then kz))
  have hS2 := fun wz (kz : Kept [] w5 wz) => rSize _ xa wz (HSA.out.kept (K5.then kz))
  have hSt := fun wz (kz : Kept [] w5 wz) => stays_any _ xa pB cB pA cA pR cR pD cD wz (HSA.out.kept (K5.then kz)) (hD.kept (k35.then kz)) HCAP.out
  unfold Rcd.agg at hS1 hS2 hSt
  unfold deskV at hSt
  dsimp only at hS1 hS2 hSt
  have t4 := fun (s : Calm w5) => (b45.kept s.kept).textR
  have t5 := fun (s : Calm w5) => (b5.kept s.kept).textR
  have HK5 := @hideH _ K5
  clear K5 K3 k4 k5 k35 b4 b45 b5 hD BE Ba3
  go_upto_region 4 with fail
  have s_ca0 := fun (s : Calm w5) => s.kept.cell ca0 (by simp)
  have s_ca1 := fun (s : Calm w5) => s.kept.cell ca1 (by simp)
  have s_ca2 := fun (s : Calm w5) => s.kept.cell ca2 (by simp)
  have s_ca3 := fun (s : Calm w5) => s.kept.cell ca3 (by simp)
  have s_ca4 := fun (s : Calm w5) => s.kept.cell ca4 (by simp)
  have s_ca5 := fun (s : Calm w5) => s.kept.cell ca5 (by simp)
  have s_ca6 := fun (s : Calm w5) => s.kept.cell ca6 (by simp)
  have s_ca7 := fun (s : Calm w5) => s.kept.cell ca7 (by simp)
  have s_ca8 := fun (s : Calm w5) => s.kept.cell ca8 (by simp)
  have s_ca9 := fun (s : Calm w5) => s.kept.cell ca9 (by simp)
  have s_ca10 := fun (s : Calm w5) => s.kept.cell ca10 (by simp)
  have s_e0 := fun (s : Calm w5) => s.kept.cell e0 (by simp)
  have s_e1 := fun (s : Calm w5) => s.kept.cell e1 (by simp)
  have s_e2 := fun (s : Calm w5) => s.kept.cell e2 (by simp)
  have s_e3 := fun (s : Calm w5) => s.kept.cell e3 (by simp)
  have s_e4 := fun (s : Calm w5) => s.kept.cell e4 (by simp)
  have s_e5 := fun (s : Calm w5) => s.kept.cell e5 (by simp)
  have s_e6 := fun (s : Calm w5) => s.kept.cell e6 (by simp)
  have s_e7 := fun (s : Calm w5) => s.kept.cell e7 (by simp)
  have s_e8 := fun (s : Calm w5) => s.kept.cell e8 (by simp)
  have s_e9 := fun (s : Calm w5) => s.kept.cell e9 (by simp)
  have s_e10 := fun (s : Calm w5) => s.kept.cell e10 (by simp)
  have s_e11 := fun (s : Calm w5) => s.kept.cell e11 (by simp)
  have s_e12 := fun (s : Calm w5) => s.kept.cell e12 (by simp)
  have s_e13 := fun (s : Calm w5) => s.kept.cell e13 (by simp)
  have s_e14 := fun (s : Calm w5) => s.kept.cell e14 (by simp)
  clear ca0 ca1 ca2 ca3 ca4 ca5 ca6 ca7 ca8 ca9 ca10 e0 e1 e2 e3 e4 e5 e6 e7 e8 e9 e10 e11 e12 e13 e14
  have KR := @hideH _ (Kept.refl [] w5)
  refine wp_region_calm KR.out (by kernel_rfl) (by kernel_rfl) ?_
  repeat (go_big_quiet_step (first | (go_at_call 9; exact Calm.call alive_any _) | (go_at_call 11; exact Calm.call (rNumK _) _) | (go_at_call 14; exact Calm.callK hS1 _) | (go_at_call 26; exact Calm.callK hS2 _) | (go_at_call 20; exact Calm.callK hSt _)))
  refine wpQuiet_nil ?_
  intro _ hw'
  obtain ⟨sq, hw''⟩ := hw'
  subst hw''
  have ks := sq.kept
  generalize sq.at = wx at ks ⊢
  clear sq
  have KX := @hideH _ (HK5.out.then ks)
  clear KR ks s_ca0 s_ca1 s_ca2 s_ca3 s_ca4 s_ca5 s_ca6 s_ca7 s_ca8 s_ca9 s_ca10 s_e0 s_e1 s_e2 s_e3 s_e4 s_e5 s_e6 s_e7 s_e8 s_e9 s_e10 s_e11 s_e12 s_e13 s_e14 t4 t5 hS1 hS2 hSt
  go_wp2
  go_ret
  exact ⟨by simp, KX.out⟩
end Go.Proofs.Ytebcmcmboomgfaa

/-
  OWN WORK (by mkropen.py). A record that came in, with the weights of its lists.
-/
namespace Go.Proofs.Ytebcmcmboomgfaa
open Go.ChangeShapes Go.WideShapes Go.ChangeAt Go.RowKit Go.Deep
set_option linter.unusedVariables false
set_option linter.unusedSimpArgs false

theorem wAll_mem9 {H : Type} {P : Program} {e : TypeId} : ∀ {ds : List (DataW H)} {d : DataW H}, d ∈ ds → ∀ n ∈ d.weights P e, n ∈ DataW.weightsAll P e ds
  | d0 :: ds, d, hd, n, hn => by
    simp only [DataW.weightsAll, List.mem_append]
    rcases List.mem_cons.1 hd with c | c
    · subst c; exact .inl hn
    · exact .inr (wAll_mem9 c n hn)
theorem all_le9 {l : List Nat} {r n : Nat} (h : l.all (· ≤ r) = true) (hn : n ∈ l) : n ≤ r := by simpa using List.all_eq_true.1 h n hn
theorem all_sub9 {l k : List Nat} {r : Nat} (h : l.all (· ≤ r) = true) (hs : ∀ n ∈ k, n ∈ l) : k.all (· ≤ r) = true := List.all_eq_true.2 fun n hn => List.all_eq_true.1 h n (hs n hn)
theorem lits_wt9 {H : Type} {P : Program} {t e : TypeId} {k : IntKind} {len : Nat} {zs : List Int} {r : Nat} (ht : P.underlying t = some (.slice e)) (h : ((DataW.slice (lits k (zs.take len)) (lits k (zs.drop len)) : DataW H).weights P t).all (· ≤ r) = true) : zs.length * P.bytesOf e ≤ r := by
  have hm : ((lits (H := H) k (zs.take len)).length + (lits (H := H) k (zs.drop len)).length) * P.bytesOf e ∈ (DataW.slice (lits k (zs.take len)) (lits k (zs.drop len)) : DataW H).weights P t := by
    simp only [DataW.weights, ht]
    exact List.mem_cons_self
  have := all_le9 h hm
  have e1 : (lits (H := H) k (zs.take len)).length + (lits (H := H) k (zs.drop len)).length = zs.length := by
    unfold lits
    rw [List.length_map, List.length_map, ← List.length_append, List.take_append_drop]
  rwa [e1] at this
theorem bsV_open9 {H : Type} {enc : TypeId × Value → H} {W : World} {t e : TypeId} {fuel : Nat} {v : Value} {x : DataW H × List MemPlace} (ht : Try.prog.underlying t = some (.slice e)) (he : Try.prog.underlying e = some (.int .u8)) (hc : Try.prog.cellsOf e = 1)
    (hf : DataW.trod enc Try.prog W 0 (fun _ => true) true fuel t [v] = some x) : ∃ l : List UInt8, Bs W v l ∧ ∀ r, (x.1.weights Try.prog t).all (· ≤ r) = true → l.length * Try.prog.bytesOf e ≤ r := by
  rcases open_ints ht he hc hf with ⟨hcs, hx⟩ | ⟨a, len, cap, zs, hcs, _, hl, hm, hz, hx, hcell, hwz⟩
  · simp at hcs
    subst hcs
    exact ⟨[], Bs.nil W, fun r _ => by simp⟩
  · simp at hcs
    subst hcs
    have hz' : zs.length = cap := by simpa using hz
    exact ⟨bytesOfInts (zs.take len), bs_cells hl hm hz' (fun e => by cases e) (fun a' ha i hi => by cases ha; exact hcell i (by omega)) hwz, fun r hr => by
      subst hx
      have := lits_wt9 ht hr
      refine Nat.le_trans (Nat.mul_le_mul_right _ ?_) this
      rw [bytes_length, List.length_take]; omega⟩
theorem list2_of {α : Type} {l : List α} (h : l.length = 2) : ∃ a0 a1, l = [a0, a1] := by
  match l, h with
  | [a0, a1], _ => exact ⟨a0, a1, rfl⟩
theorem list5_of {α : Type} {l : List α} (h : l.length = 5) : ∃ a0 a1 a2 a3 a4, l = [a0, a1, a2, a3, a4] := by
  match l, h with
  | [a0, a1, a2, a3, a4], _ => exact ⟨a0, a1, a2, a3, a4, rfl⟩
theorem list11_of {α : Type} {l : List α} (h : l.length = 11) : ∃ a0 a1 a2 a3 a4 a5 a6 a7 a8 a9 a10, l = [a0, a1, a2, a3, a4, a5, a6, a7, a8, a9, a10] := by
  match l, h with
  | [a0, a1, a2, a3, a4, a5, a6, a7, a8, a9, a10], _ => exact ⟨a0, a1, a2, a3, a4, a5, a6, a7, a8, a9, a10, rfl⟩
theorem choose_lt9 {α : Type} [Inhabited α] {n : Nat} {Q : Nat → α → Prop} (h : ∀ i, i < n → ∃ q, Q i q) : ∃ q : Nat → α, ∀ i, i < n → Q i (q i) := by
  refine ⟨fun i => if hi : i < n then Classical.choose (h i hi) else default, fun i hi => ?_⟩
  simp only [hi, dif_pos]
  exact Classical.choose_spec (h i hi)

theorem rcells_all {l : List RowR} {Q : Nat → Value → Prop} (h : ∀ (i : Nat) x, l[i]? = some x → Q (i * 5) (.int .i64 x.birth) ∧ Q (i * 5 + 1) (.int .i64 x.id) ∧ Q (i * 5 + 2) (.int .i64 x.state) ∧ Q (i * 5 + 3) (.int .i64 x.last) ∧ Q (i * 5 + 4) (.int .i64 x.next)) : ∀ (j : Nat) u, (rcells l)[j]? = some u → Q j u := by
  intro j u hj
  have hlt := (List.getElem?_eq_some_iff.1 hj).1
  rw [rcells_length] at hlt
  have hi : j / 5 < l.length := by omega
  have hx : l[j / 5]? = some l[j / 5] := List.getElem?_eq_getElem hi
  have hat := rcells_at hx
  have hh := h _ _ hx
  have hm : j % 5 < 5 := Nat.mod_lt _ (by omega)
  have hj2 : j = j / 5 * 5 + j % 5 := by omega
  rw [hj2] at hj ⊢
  generalize j % 5 = k at hm hj ⊢
  have : k = 0 ∨ k = 1 ∨ k = 2 ∨ k = 3 ∨ k = 4 := by omega
  rcases this with rfl | rfl | rfl | rfl | rfl
  · rw [Nat.add_zero, hat.1] at hj
    cases hj
    exact hh.1
  · rw [hat.2.1] at hj
    cases hj
    exact hh.2.1
  · rw [hat.2.2.1] at hj
    cases hj
    exact hh.2.2.1
  · rw [hat.2.2.2.1] at hj
    cases hj
    exact hh.2.2.2.1
  · rw [hat.2.2.2.2] at hj
    cases hj
    exact hh.2.2.2.2
set_option maxHeartbeats 800000 in
theorem rowsV_open {H : Type} {enc : TypeId × Value → H} {W : World} {t e : TypeId} {f0 f1 f2 f3 f4 : Field} {fuel : Nat} {v : Value} {x : DataW H × List MemPlace} (ht : Try.prog.underlying t = some (.slice e)) (he : Try.prog.underlying e = some (.struct #[f0, f1, f2, f3, f4]))
    (ce : Try.prog.cellsOf e = 5) (o0 : f0.offset = 0) (o1 : f1.offset = 1) (o2 : f2.offset = 2) (o3 : f3.offset = 3) (o4 : f4.offset = 4) (c0 : Try.prog.cellsOf f0.type = 1) (c1 : Try.prog.cellsOf f1.type = 1) (c2 : Try.prog.cellsOf f2.type = 1) (c3 : Try.prog.cellsOf f3.type = 1) (c4 : Try.prog.cellsOf f4.type = 1) (t0 : Try.prog.underlying f0.type = some (.int .i64)) (t1 : Try.prog.underlying f1.type = some (.int .i64)) (t2 : Try.prog.underlying f2.type = some (.int .i64)) (t3 : Try.prog.underlying f3.type = some (.int .i64)) (t4 : Try.prog.underlying f4.type = some (.int .i64))
    (hf : DataW.trod enc Try.prog W 0 (fun _ => true) true fuel t [v] = some x) : ∃ l : List RowR, Cs W 5 v l.length (rcells l) ∧ ∀ r, (x.1.weights Try.prog t).all (· ≤ r) = true → l.length * Try.prog.bytesOf e ≤ r := by
  rcases open_slice ht hf with ⟨hcs, hx⟩ | ⟨a, len, cap, m, n, D, Pl, hcs, hb, hl, hm, hmm, hx, hel⟩
  · simp at hcs
    subst hcs
    exact ⟨[], ⟨rfl, by simp [rcells], none, 0, rfl, Nat.le_refl _, by simp [maxLen], fun _ => rfl, fun a e => (by cases e)⟩, fun r _ => by simp⟩
  · simp at hcs
    subst hcs
    have hmm' : m = cap := by simpa using hmm
    have each : ∀ i, i < m → ∃ q : RowR, W.cell? (a.add (i * 5)) = some (.int .i64 q.birth) ∧ W.cell? (a.add (i * 5 + 1)) = some (.int .i64 q.id) ∧ W.cell? (a.add (i * 5 + 2)) = some (.int .i64 q.state) ∧ W.cell? (a.add (i * 5 + 3)) = some (.int .i64 q.last) ∧ W.cell? (a.add (i * 5 + 4)) = some (.int .i64 q.next) := by
      intro i hi
      obtain ⟨cs', g1, g2⟩ := hel i hi
      rw [ce] at g1
      obtain ⟨_, hlen, hcell⟩ := World.cells?_some g1
      obtain ⟨xs, k, hk, hxy, _, hxl, hff⟩ := DataW.trod_struct he g2
      obtain ⟨v0, v1, v2, v3, v4, rfl⟩ := list5_of hlen
      have q0 := hff 0 f0 rfl
      have q1 := hff 1 f1 rfl
      have q2 := hff 2 f2 rfl
      have q3 := hff 3 f3 rfl
      have q4 := hff 4 f4 rfl
      have hxl' : xs.length = 5 := hxl
      obtain ⟨y0, y1, y2, y3, y4, rfl⟩ := list5_of hxl'
      simp [o0, c0, o1, c1, o2, c2, o3, c3, o4, c4] at q0 q1 q2 q3 q4
      obtain ⟨z0, e0, -, -⟩ := DataW.trod_int t0 q0
      obtain ⟨z1, e1, -, -⟩ := DataW.trod_int t1 q1
      obtain ⟨z2, e2, -, -⟩ := DataW.trod_int t2 q2
      obtain ⟨z3, e3, -, -⟩ := DataW.trod_int t3 q3
      obtain ⟨z4, e4, -, -⟩ := DataW.trod_int t4 q4
      simp at e0 e1 e2 e3 e4
      subst e0 e1 e2 e3 e4
      have x0 := hcell 0 (by omega)
      have x1 := hcell 1 (by omega)
      have x2 := hcell 2 (by omega)
      have x3 := hcell 3 (by omega)
      have x4 := hcell 4 (by omega)
      refine ⟨⟨z0, z1, z2, z3, z4⟩, ?_, ?_, ?_, ?_, ?_⟩
      · rw [Go.Proofs.Ytebcmcmboomgfaa.add_add] at x0; simpa using x0
      · rw [Go.Proofs.Ytebcmcmboomgfaa.add_add] at x1; simpa using x1
      · rw [Go.Proofs.Ytebcmcmboomgfaa.add_add] at x2; simpa using x2
      · rw [Go.Proofs.Ytebcmcmboomgfaa.add_add] at x3; simpa using x3
      · rw [Go.Proofs.Ytebcmcmboomgfaa.add_add] at x4; simpa using x4
    haveI : Inhabited RowR := ⟨⟨0, 0, 0, 0, 0⟩⟩
    obtain ⟨q, hq⟩ := choose_lt9 each
    refine ⟨(List.range len).map q, ⟨by rw [rcells_length], rcells_one _, some a, cap, by simp, by simpa using hl, hm, fun e => (by cases e), fun a' ea => ?_⟩, fun r hr => ?_⟩
    · cases ea
      refine rcells_all (Q := fun j u => W.cell? (a.add j) = some u) fun i x hx2 => ?_
      simp only [List.getElem?_map] at hx2
      obtain ⟨j, hj, rfl⟩ := Option.map_eq_some_iff.1 hx2
      obtain ⟨hj2, rfl⟩ := List.getElem?_eq_some_iff.1 hj
      have hi : i < len := by simpa using hj2
      simp only [List.getElem_range]
      exact hq i (by omega)
    · subst hx
      simp only [List.length_map, List.length_range]
      have hmem : ((List.map D (List.range len)).length + (List.map (fun j => D (len + j)) (List.range (m - len))).length) * Try.prog.bytesOf e ∈ (DataW.slice (List.map D (List.range len)) (List.map (fun j => D (len + j)) (List.range (m - len))) : DataW H).weights Try.prog t := by
        simp only [DataW.weights, ht]
        exact List.mem_cons_self
      have h9 := all_le9 hr hmem
      simp only [List.length_map, List.length_range] at h9
      exact Nat.le_trans (Nat.mul_le_mul_right _ (by omega)) h9
theorem dcells_all {l : List RecR} {Q : Nat → Value → Prop} (h : ∀ (i : Nat) x, l[i]? = some x → Q (i * 2) (.int .i64 x.page) ∧ Q (i * 2 + 1) (.int .i64 x.lsn)) : ∀ (j : Nat) u, (dcells l)[j]? = some u → Q j u := by
  intro j u hj
  have hlt := (List.getElem?_eq_some_iff.1 hj).1
  rw [dcells_length] at hlt
  have hi : j / 2 < l.length := by omega
  have hx : l[j / 2]? = some l[j / 2] := List.getElem?_eq_getElem hi
  have hat := dcells_at hx
  have hh := h _ _ hx
  have hm : j % 2 < 2 := Nat.mod_lt _ (by omega)
  have hj2 : j = j / 2 * 2 + j % 2 := by omega
  rw [hj2] at hj ⊢
  generalize j % 2 = k at hm hj ⊢
  have : k = 0 ∨ k = 1 := by omega
  rcases this with rfl | rfl
  · rw [Nat.add_zero, hat.1] at hj
    cases hj
    exact hh.1
  · rw [hat.2] at hj
    cases hj
    exact hh.2
set_option maxHeartbeats 800000 in
theorem recsV_open {H : Type} {enc : TypeId × Value → H} {W : World} {t e : TypeId} {f0 f1 : Field} {fuel : Nat} {v : Value} {x : DataW H × List MemPlace} (ht : Try.prog.underlying t = some (.slice e)) (he : Try.prog.underlying e = some (.struct #[f0, f1]))
    (ce : Try.prog.cellsOf e = 2) (o0 : f0.offset = 0) (o1 : f1.offset = 1) (c0 : Try.prog.cellsOf f0.type = 1) (c1 : Try.prog.cellsOf f1.type = 1) (t0 : Try.prog.underlying f0.type = some (.int .i64)) (t1 : Try.prog.underlying f1.type = some (.int .i64))
    (hf : DataW.trod enc Try.prog W 0 (fun _ => true) true fuel t [v] = some x) : ∃ l : List RecR, Cs W 2 v l.length (dcells l) ∧ ∀ r, (x.1.weights Try.prog t).all (· ≤ r) = true → l.length * Try.prog.bytesOf e ≤ r := by
  rcases open_slice ht hf with ⟨hcs, hx⟩ | ⟨a, len, cap, m, n, D, Pl, hcs, hb, hl, hm, hmm, hx, hel⟩
  · simp at hcs
    subst hcs
    exact ⟨[], ⟨rfl, by simp [dcells], none, 0, rfl, Nat.le_refl _, by simp [maxLen], fun _ => rfl, fun a e => (by cases e)⟩, fun r _ => by simp⟩
  · simp at hcs
    subst hcs
    have hmm' : m = cap := by simpa using hmm
    have each : ∀ i, i < m → ∃ q : RecR, W.cell? (a.add (i * 2)) = some (.int .i64 q.page) ∧ W.cell? (a.add (i * 2 + 1)) = some (.int .i64 q.lsn) := by
      intro i hi
      obtain ⟨cs', g1, g2⟩ := hel i hi
      rw [ce] at g1
      obtain ⟨_, hlen, hcell⟩ := World.cells?_some g1
      obtain ⟨xs, k, hk, hxy, _, hxl, hff⟩ := DataW.trod_struct he g2
      obtain ⟨v0, v1, rfl⟩ := list2_of hlen
      have q0 := hff 0 f0 rfl
      have q1 := hff 1 f1 rfl
      have hxl' : xs.length = 2 := hxl
      obtain ⟨y0, y1, rfl⟩ := list2_of hxl'
      simp [o0, c0, o1, c1] at q0 q1
      obtain ⟨z0, e0, -, -⟩ := DataW.trod_int t0 q0
      obtain ⟨z1, e1, -, -⟩ := DataW.trod_int t1 q1
      simp at e0 e1
      subst e0 e1
      have x0 := hcell 0 (by omega)
      have x1 := hcell 1 (by omega)
      refine ⟨⟨z0, z1⟩, ?_, ?_⟩
      · rw [Go.Proofs.Ytebcmcmboomgfaa.add_add] at x0; simpa using x0
      · rw [Go.Proofs.Ytebcmcmboomgfaa.add_add] at x1; simpa using x1
    haveI : Inhabited RecR := ⟨⟨0, 0⟩⟩
    obtain ⟨q, hq⟩ := choose_lt9 each
    refine ⟨(List.range len).map q, ⟨by rw [dcells_length], dcells_one _, some a, cap, by simp, by simpa using hl, hm, fun e => (by cases e), fun a' ea => ?_⟩, fun r hr => ?_⟩
    · cases ea
      refine dcells_all (Q := fun j u => W.cell? (a.add j) = some u) fun i x hx2 => ?_
      simp only [List.getElem?_map] at hx2
      obtain ⟨j, hj, rfl⟩ := Option.map_eq_some_iff.1 hx2
      obtain ⟨hj2, rfl⟩ := List.getElem?_eq_some_iff.1 hj
      have hi : i < len := by simpa using hj2
      simp only [List.getElem_range]
      exact hq i (by omega)
    · subst hx
      simp only [List.length_map, List.length_range]
      have hmem : ((List.map D (List.range len)).length + (List.map (fun j => D (len + j)) (List.range (m - len))).length) * Try.prog.bytesOf e ∈ (DataW.slice (List.map D (List.range len)) (List.map (fun j => D (len + j)) (List.range (m - len))) : DataW H).weights Try.prog t := by
        simp only [DataW.weights, ht]
        exact List.mem_cons_self
      have h9 := all_le9 hr hmem
      simp only [List.length_map, List.length_range] at h9
      exact Nat.le_trans (Nat.mul_le_mul_right _ (by omega)) h9
set_option maxRecDepth 4000 in
set_option maxHeartbeats 1600000 in
theorem rcd_open {H : Type} {enc : TypeId × Value → H} {W : World} {t q er ed : TypeId} {f0 f1 f2 f3 f4 f5 f6 f7 f8 f9 f10 g0 g1 g2 g3 g4 k0 k1 : Field} {cs : Array Value} {d : DataW H} {p : List MemPlace} (ht : Try.prog.underlying t = some (.struct #[f0, f1, f2, f3, f4, f5, f6, f7, f8, f9, f10])) (hsz : cs.size = 11)
    (o0 : f0.offset = 0) (o1 : f1.offset = 1) (o2 : f2.offset = 2) (o3 : f3.offset = 3) (o4 : f4.offset = 4) (o5 : f5.offset = 5) (o6 : f6.offset = 6) (o7 : f7.offset = 7) (o8 : f8.offset = 8) (o9 : f9.offset = 9) (o10 : f10.offset = 10) (c0 : Try.prog.cellsOf f0.type = 1) (c1 : Try.prog.cellsOf f1.type = 1) (c2 : Try.prog.cellsOf f2.type = 1) (c3 : Try.prog.cellsOf f3.type = 1) (c4 : Try.prog.cellsOf f4.type = 1) (c5 : Try.prog.cellsOf f5.type = 1) (c6 : Try.prog.cellsOf f6.type = 1) (c7 : Try.prog.cellsOf f7.type = 1) (c8 : Try.prog.cellsOf f8.type = 1) (c9 : Try.prog.cellsOf f9.type = 1) (c10 : Try.prog.cellsOf f10.type = 1)
    (t0 : Try.prog.underlying f0.type = some (.int .i64)) (t1 : Try.prog.underlying f1.type = some (.int .i64)) (t2 : Try.prog.underlying f2.type = some (.int .i64)) (t3 : Try.prog.underlying f3.type = some (.int .i64)) (t4 : Try.prog.underlying f4.type = some (.int .i64)) (t5 : Try.prog.underlying f5.type = some (.int .i64)) (t8 : Try.prog.underlying f8.type = some (.int .i64)) (t6 : Try.prog.underlying f6.type = some (.slice q)) (t7 : Try.prog.underlying f7.type = some (.slice q)) (tq : Try.prog.underlying q = some (.int .u8)) (cq : Try.prog.cellsOf q = 1)
    (t9 : Try.prog.underlying f9.type = some (.slice er)) (te : Try.prog.underlying er = some (.struct #[g0, g1, g2, g3, g4])) (ce : Try.prog.cellsOf er = 5) (ro0 : g0.offset = 0) (ro1 : g1.offset = 1) (ro2 : g2.offset = 2) (ro3 : g3.offset = 3) (ro4 : g4.offset = 4) (rc0 : Try.prog.cellsOf g0.type = 1) (rc1 : Try.prog.cellsOf g1.type = 1) (rc2 : Try.prog.cellsOf g2.type = 1) (rc3 : Try.prog.cellsOf g3.type = 1) (rc4 : Try.prog.cellsOf g4.type = 1) (rt0 : Try.prog.underlying g0.type = some (.int .i64)) (rt1 : Try.prog.underlying g1.type = some (.int .i64)) (rt2 : Try.prog.underlying g2.type = some (.int .i64)) (rt3 : Try.prog.underlying g3.type = some (.int .i64)) (rt4 : Try.prog.underlying g4.type = some (.int .i64))
    (t10 : Try.prog.underlying f10.type = some (.slice ed)) (td : Try.prog.underlying ed = some (.struct #[k0, k1])) (cd : Try.prog.cellsOf ed = 2) (ko0 : k0.offset = 0) (ko1 : k1.offset = 1) (kc0 : Try.prog.cellsOf k0.type = 1) (kc1 : Try.prog.cellsOf k1.type = 1) (kt0 : Try.prog.underlying k0.type = some (.int .i64)) (kt1 : Try.prog.underlying k1.type = some (.int .i64))
    (h : DataW.Trod enc Try.prog W 0 (fun _ => true) true t (.agg cs) d p) : ∃ (V : RV) (x : Rcd), Value.agg cs = x.agg V ∧ SeeR W V x ∧ ∀ r, (d.weights Try.prog t).all (· ≤ r) = true → x.before.length * Try.prog.bytesOf q ≤ r ∧ x.after.length * Try.prog.bytesOf q ≤ r ∧ x.rows.length * Try.prog.bytesOf er ≤ r ∧ x.dirty.length * Try.prog.bytesOf ed ≤ r := by
  obtain ⟨fuel, hf⟩ := h
  obtain ⟨xs, k, hk, hxy, _, hxl, hff⟩ := DataW.trod_struct ht hf
  have hxl' : xs.length = 11 := hxl
  obtain ⟨y0, y1, y2, y3, y4, y5, y6, y7, y8, y9, y10, rfl⟩ := list11_of hxl'
  obtain ⟨v0, v1, v2, v3, v4, v5, v6, v7, v8, v9, v10, hv⟩ := list11_of (show cs.toList.length = 11 by simpa using hsz)
  have q0 := hff 0 f0 rfl
  have q1 := hff 1 f1 rfl
  have q2 := hff 2 f2 rfl
  have q3 := hff 3 f3 rfl
  have q4 := hff 4 f4 rfl
  have q5 := hff 5 f5 rfl
  have q6 := hff 6 f6 rfl
  have q7 := hff 7 f7 rfl
  have q8 := hff 8 f8 rfl
  have q9 := hff 9 f9 rfl
  have q10 := hff 10 f10 rfl
  simp [Value.cells, hv, o0, c0, o1, c1, o2, c2, o3, c3, o4, c4, o5, c5, o6, c6, o7, c7, o8, c8, o9, c9, o10, c10] at q0 q1 q2 q3 q4 q5 q6 q7 q8 q9 q10
  obtain ⟨z0, e0, -, -⟩ := DataW.trod_int t0 q0
  obtain ⟨z1, e1, -, -⟩ := DataW.trod_int t1 q1
  obtain ⟨z2, e2, -, -⟩ := DataW.trod_int t2 q2
  obtain ⟨z3, e3, -, -⟩ := DataW.trod_int t3 q3
  obtain ⟨z4, e4, -, -⟩ := DataW.trod_int t4 q4
  obtain ⟨z5, e5, -, -⟩ := DataW.trod_int t5 q5
  obtain ⟨z8, e8, -, -⟩ := DataW.trod_int t8 q8
  simp at e0 e1 e2 e3 e4 e5 e8
  subst e0 e1 e2 e3 e4 e5 e8
  obtain ⟨lb, bb, wb⟩ := bsV_open9 t6 tq cq q6
  obtain ⟨la, ba, wa⟩ := bsV_open9 t7 tq cq q7
  obtain ⟨lr, br, wr⟩ := rowsV_open t9 te ce ro0 ro1 ro2 ro3 ro4 rc0 rc1 rc2 rc3 rc4 rt0 rt1 rt2 rt3 rt4 q9
  obtain ⟨ld, bd, wd⟩ := recsV_open t10 td cd ko0 ko1 kc0 kc1 kt0 kt1 q10
  have hcs : cs = #[.int .i64 z0, .int .i64 z1, .int .i64 z2, .int .i64 z3, .int .i64 z4, .int .i64 z5, v6, v7, .int .i64 z8, v9, v10] := by rw [← Array.toArray_toList (xs := cs), hv]
  subst hcs
  have hd : d = .agg [y0.1, y1.1, y2.1, y3.1, y4.1, y5.1, y6.1, y7.1, y8.1, y9.1, y10.1] := by simpa using congrArg Prod.fst hxy
  refine ⟨⟨v6, v7, v9, v10⟩, ⟨z0, z1, z2, z3, z4, z5, lb, la, z8, lr, ld⟩, rfl, ⟨bb, ba, br, bd⟩, fun r hr => ?_⟩
  rw [hd] at hr
  simp only [DataW.weights, ht] at hr
  exact ⟨wb r (all_sub9 hr fun n hn => DataW.weights_mem_each (j := 6) rfl rfl n hn), wa r (all_sub9 hr fun n hn => DataW.weights_mem_each (j := 7) rfl rfl n hn), wr r (all_sub9 hr fun n hn => DataW.weights_mem_each (j := 9) rfl rfl n hn), wd r (all_sub9 hr fun n hn => DataW.weights_mem_each (j := 10) rfl rfl n hn)⟩
end Go.Proofs.Ytebcmcmboomgfaa

/-
  OWN WORK. THE STATEMENT, out of the walk.
-/
namespace Go.Proofs.Ytebcmcmboomgfaa.recordForms
open Go.ChangeShapes Go.WideShapes Go.ChangeAt Go.RowKit
set_option linter.unusedVariables false
set_option maxRecDepth 100000 in
theorem contract (H : Type) (enc : TypeId × Value → H) (W : World) (base : Nat) (args : Array Value) (ds gs : List (DataW H)) (before : List MemPlace)
    (hval : ∀ (j : Nat) t v, Try.f8.params[j]? = some t → args[j]? = some v → Value.okWide Try.prog W .any base t v)
    (hW : DataW.Whole enc Try.prog Try.f8.params.toList Rows.recordFormsSpec.vars false W args.toList ds gs before) (hsz : (DataW.weightsEach Try.prog (Try.f8.params.toList ++ Rows.recordFormsSpec.plain.varTypes Try.prog) (ds ++ gs)).all (· ≤ reachBytes) = true) :
    Calls Try.prog 8 args W fun e W' => ∃ v, e = .returned v ∧ Rows.recordFormsSpec.post enc Try.prog Try.f8 false true false false W args v W' := by
  have hW' := hW
  obtain ⟨p, q, hA0, hV, rfl, hfz, hnd⟩ := hW
  have hA : DataW.TrodAll enc Try.prog W 0 (fun _ => true) true Try.f8.params.toList args.toList ds p := hA0
  rw [Try.params8] at hA hval hsz
  obtain ⟨v0, vs0, d0, ds0, p0, q0, hargs, rfl, rfl, h0, r0⟩ := trodAll_cons hA
  obtain ⟨rfl, rfl, rfl⟩ := trodAll_nil r0
  obtain rfl : args = #[v0] := by cases args; simp_all
  obtain ⟨rfl, rfl⟩ := trodVars_none hV
  have hv0 : Value.okWide Try.prog W .any base 26 v0 := hval 0 26 v0 (by rfl) (by rfl)
  obtain ⟨cs0, rfl, sz0⟩ := okWide_struct (P := Try.prog) (t := 26) Try.underlying26 hv0
  clear hv0
  have lt0 : ∀ x ∈ p0, x.block < W.heap.size := by obtain ⟨m, hm⟩ := h0; exact DataW.trod_lt m _ _ _ hm
  obtain ⟨V0, x0, hag0, see0, wt0⟩ := rcd_open Try.underlying26 (sz0.trans (by kernel_rfl)) rfl rfl rfl rfl rfl rfl rfl rfl rfl rfl rfl (by kernel_rfl) (by kernel_rfl) (by kernel_rfl) (by kernel_rfl) (by kernel_rfl) (by kernel_rfl) (by kernel_rfl) (by kernel_rfl) (by kernel_rfl) (by kernel_rfl) (by kernel_rfl) (by kernel_rfl) (by kernel_rfl) (by kernel_rfl) (by kernel_rfl) (by kernel_rfl) (by kernel_rfl) (by kernel_rfl) Try.underlying22 Try.underlying22 Try.underlying5 (by kernel_rfl) Try.underlying23 Try.underlying66 (by kernel_rfl) rfl rfl rfl rfl rfl (by kernel_rfl) (by kernel_rfl) (by kernel_rfl) (by kernel_rfl) (by kernel_rfl) (by kernel_rfl) (by kernel_rfl) (by kernel_rfl) (by kernel_rfl) (by kernel_rfl) Try.underlying24 Try.underlying68 (by kernel_rfl) rfl rfl (by kernel_rfl) (by kernel_rfl) (by kernel_rfl) (by kernel_rfl) h0
  rw [hag0] at h0 hW' ⊢
  clear hA0
  have hw0 := wt0 reachBytes (List.all_eq_true.2 fun n hn => List.all_eq_true.1 hsz n (DataW.weights_mem_each (j := 0) rfl rfl n hn))
  rw [show Try.prog.bytesOf 5 = 1 by kernel_rfl, show Try.prog.bytesOf 66 = 40 by kernel_rfl, show Try.prog.bytesOf 68 = 16 by kernel_rfl] at hw0
  simp only [reachBytes] at hw0
  refine (recordForms_walk V0 x0 W see0 (by unfold DeskCap; omega)).mono fun e W' ⟨he, kp⟩ => ?_
  subst he
  have bel := kp.below
  exact ⟨_, rfl, _, _, _, [], _, [], hW', trodAll_mk1 (shut_bool Try.underlying4 _), (trodAll_cons_mk (Below.trod laidOut (by kernel_rfl) (of_decide_eq_true (by kernel_rfl)) h0 bel lt0) trodAll_mk0), rfl, bel.frame _, fun h => by cases h⟩

set_option maxRecDepth 100000 in
theorem lifted (os : Os) (started : os.Started) (H : Type) (enc : TypeId × Value → H) :
    ReturnsInHanded {} Try.checked os 8 .any (Rows.recordFormsSpec.pre6 enc Try.prog Try.f8 Rows.recordFormsRow.domain false) (Rows.recordFormsSpec.post enc Try.prog Try.f8 false true false false) := by
  refine returnsInHanded_of_change_sized (C := Try.checked) own started (by kernel_rfl) Try.func8
    (ChangeSpec.witness6 (enc := enc) (C := Try.checked) false ⟨#[], #[.agg #[.int .i64 0, .int .i64 0, .int .i64 0, .int .i64 0, .int .i64 0, .int .i64 0, .slice none 0 0, .slice none 0 0, .int .i64 0, .slice none 0 0, .slice none 0 0]], []⟩ 8 (by kernel_rfl) (by kernel_rfl) (by kernel_rfl) (by kernel_rfl)) ?_
  intro W base args ds gs before hval hW _ hsz _
  exact contract H enc W base args ds gs before hval hW hsz

theorem proved : Rows.RecordFormsSaid :=
  OpenClaim.holds_of_wide 8 Try.f8 rfl rfl rfl rfl rfl rfl rfl ⟨rfl, rfl, rfl, rfl, rfl⟩ rfl rfl rfl rfl rfl (by kernel_rfl) Try.func8 (by kernel_rfl)
    (of_decide_eq_true (by kernel_rfl)) (by unfold Func.isWrapper; first | (rw [if_pos (by decide +kernel)]; kernel_rfl) | (rw [if_neg (by decide +kernel)]; exact ⟨rfl, rfl⟩))
    (fun os started H enc _ => lifted os started H enc)
#print axioms proved
end Go.Proofs.Ytebcmcmboomgfaa.recordForms

