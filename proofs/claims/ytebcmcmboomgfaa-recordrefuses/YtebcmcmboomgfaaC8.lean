import Derived.Test.YtebcmcmboomgfaaC7
/-
  OWN WORK (by mklw9.py). The law: spoilt.
-/
namespace Go.Proofs.Ytebcmcmboomgfaa
open Go.RowKit
set_option linter.unusedVariables false
set_option linter.unusedSimpArgs false

set_option maxRecDepth 60000 in
set_option maxHeartbeats 40000000 in
theorem spoilt_2 (Va : RV) (xa : Rcd) (w : World) (sa : SeeR w Va xa) (hR : xa.Right) (h2 : xa.kind = 2) : Calls Try.prog 16 #[xa.agg Va] w (SpoDone w) := by
  have H2 := @hideH _ h2
  clear h2
  have HR := @hideH _ hR
  have HLN := @hideH _ (copyCap_right hR).2
  have hCp := fun wz (kz : Kept [] w wz) => copied_any _ xa wz (sa.kept kz) (copyCap_right hR).1
  obtain ⟨pba, cba, paa, caa, pra, cra, pda, cda, hVa⟩ := sa.shapes
  subst hVa
  clear sa hR
  unfold Rcd.agg at hCp ⊢
  dsimp only at hCp ⊢
  obtain ⟨inf, hin1, hin2, hin3, hin4⟩ := info_parts3 (show (Try.prog.info? 66).map (fun i => (i.zero, i.size, i.bytes)) = some (some (.agg #[.int .i64 0, .int .i64 0, .int .i64 0, .int .i64 0, .int .i64 0]), 5, 40) by kernel_rfl)
  have HI := @hideH _ (And.intro hin1 (And.intro hin2 (And.intro hin3 hin4)))
  obtain ⟨inf2, hjn1, hjn2, hjn3, hjn4⟩ := info_parts3 (show (Try.prog.info? 68).map (fun i => (i.zero, i.size, i.bytes)) = some (some (.agg #[.int .i64 0, .int .i64 0]), 2, 16) by kernel_rfl)
  have HI2 := @hideH _ (And.intro hjn1 (And.intro hjn2 (And.intro hjn3 hjn4)))
  obtain ⟨inf0, hkn1, hkn2, hkn3, hkn4⟩ := info_parts3 (show (Try.prog.info? 26).map (fun i => (i.zero, i.size, i.bytes)) = some (some (.agg #[.int .i64 0, .int .i64 0, .int .i64 0, .int .i64 0, .int .i64 0, .int .i64 0, .slice none 0 0, .slice none 0 0, .int .i64 0, .slice none 0 0, .slice none 0 0]), 11, 152) by kernel_rfl)
  have HI0 := @hideH _ (And.intro hkn1 (And.intro hkn2 (And.intro hkn3 hkn4)))
  clear hin1 hin2 hin3 hin4 hjn1 hjn2 hjn3 hjn4 hkn1 hkn2 hkn3 hkn4
  obtain ⟨w1, hw1⟩ : ∃ wx, wx = w.alloc (.cells #[.int .i64 xa.kind, .int .i64 xa.birth, .int .i64 xa.prev, .int .i64 xa.id, .int .i64 xa.page, .int .i64 xa.frm, .slice pba xa.before.length cba, .slice paa xa.after.length caa, .int .i64 xa.next, .slice pra xa.rows.length cra, .slice pda xa.dirty.length cda] 26) := ⟨_, rfl⟩
  have k1 : Kept [] w w1 := by rw [hw1]; exact (Kept.refl [] w).alloc _
  have Ba : Blk w1 w.heap.size 26 [.int .i64 xa.kind, .int .i64 xa.birth, .int .i64 xa.prev, .int .i64 xa.id, .int .i64 xa.page, .int .i64 xa.frm, .slice pba xa.before.length cba, .slice paa xa.after.length caa, .int .i64 xa.next, .slice pra xa.rows.length cra, .slice pda xa.dirty.length cda] := by rw [hw1]; exact Blk.new w _ _
  replace hCp := fun wz (kz : Kept [] w1 wz) => hCp wz (k1.then kz)
  have HK1 := @hideH _ k1
  have HBX := @hideH _ Ba
  have wkA : IntKind.i64.wrap (xa.kind - 8) = xa.kind - 8 := wrap_i64_of (by have := HR.out.1; omega) (by have := HR.out.1; omega)
  have wkB : IntKind.i64.wrap (xa.kind + 7) = xa.kind + 7 := wrap_i64_of (by have := HR.out.1; omega) (by have := HR.out.1; omega)
  go_enter Try.func16, Try.ntmps16
  go_upto_region 2 with fail
  rw [← hw1]
  clear hw1 k1
  have cx0 := Ba.cell (j := 0) rfl
  have cx1 := Ba.cell (j := 1) rfl
  have cx2 := Ba.cell (j := 2) rfl
  have cx3 := Ba.cell (j := 3) rfl
  have cx4 := Ba.cell (j := 4) rfl
  have cx5 := Ba.cell (j := 5) rfl
  have cx6 := Ba.cell (j := 6) rfl
  have cx7 := Ba.cell (j := 7) rfl
  have cx8 := Ba.cell (j := 8) rfl
  have cx9 := Ba.cell (j := 9) rfl
  have cx10 := Ba.cell (j := 10) rfl
  go_wp2_with fail
  refine (hCp _ (Kept.refl [] w1)).mono ?_
  rintro e q0 ⟨V0, rfl, hO0, kq0⟩
  obtain ⟨pb0, cb0, pa0, ca0, pr0, cr0, pd0, cd0, hV0⟩ := hO0.see.shapes
  subst hV0
  dsimp only
  obtain ⟨w0, hw0⟩ : ∃ wx, wx = q0.alloc (.cells #[.int .i64 (xa.kind), .int .i64 (xa.birth), .int .i64 (xa.prev), .int .i64 (xa.id), .int .i64 (xa.page), .int .i64 (xa.frm), .slice pb0 xa.before.length cb0, .slice pa0 xa.after.length ca0, .int .i64 (xa.next), .slice pr0 xa.rows.length cr0, .slice pd0 xa.dirty.length cd0] 26) := ⟨_, rfl⟩
  have ka : Kept [] q0 w0 := by rw [hw0]; exact (Kept.refl [] q0).alloc _
  have bX : Blk w0 q0.heap.size 26 (xa.cl (⟨.slice pb0 xa.before.length cb0, .slice pa0 xa.after.length ca0, .slice pr0 xa.rows.length cr0, .slice pd0 xa.dirty.length cd0⟩ : RV)) := by rw [hw0]; exact Blk.new q0 _ _
  have P0 : Spo w1 w0 q0.heap.size xa (⟨.slice pb0 xa.before.length cb0, .slice pa0 xa.after.length ca0, .slice pr0 xa.rows.length cr0, .slice pd0 xa.dirty.length cd0⟩ : RV) (.slice none 0 0) 0 [] := ⟨bX, hO0.see.kept ka, rfl, Row.nil _ _ _, (by simp), (by simp), (fun y hy => ⟨by have := (hO0.ge hy).2; omega, (fun e => by cases e), by have := (hO0.ge hy).2; have := ka.size; omega⟩), (fun e => by cases e), kq0.then ka, kq0.size⟩
  obtain ⟨X, hX⟩ : ∃ X, X = q0.heap.size := ⟨_, rfl⟩
  go_upto_region 3 with fail
  rw [← hw0]
  rw [← hX] at P0 ⊢
  clear hw0 hX ka bX hO0 kq0 Ba cx0 cx1 cx2 cx3 cx4 cx5 cx6 cx7 cx8 cx9 cx10
  have z0 : w0.cell? ⟨X, 0, none⟩ = some (.int .i64 (xa.kind)) := P0.blk.cell (j := 0) rfl
  have t0 := P0.blk.free 0
  have c0 := P0.kept.cell (HBX.out.cell (j := 0) rfl) (by simp)
  have P101 := P0.set 0 (xa.kind - 8) (⟨(xa.kind - 8), (xa.birth), (xa.prev), (xa.id), (xa.page), (xa.frm), xa.before, xa.after, (xa.next), xa.rows, xa.dirty⟩ : Rcd) rfl ⟨rfl, rfl, rfl, rfl⟩
  obtain ⟨w101, hw101⟩ : ∃ wx, wx = w0.setCell ⟨X, 0, none⟩ (.int .i64 (xa.kind - 8)) := ⟨_, rfl⟩
  rw [← hw101] at P101
  go_upto_region 4 with fail
  rw [← hw101]
  clear hw101 z0 t0 P0 c0
  have z0 : w101.cell? ⟨X, 0, none⟩ = some (.int .i64 (xa.kind - 8)) := P101.blk.cell (j := 0) rfl
  have z1 : w101.cell? ⟨X, 1, none⟩ = some (.int .i64 (xa.birth)) := P101.blk.cell (j := 1) rfl
  have z2 : w101.cell? ⟨X, 2, none⟩ = some (.int .i64 (xa.prev)) := P101.blk.cell (j := 2) rfl
  have z3 : w101.cell? ⟨X, 3, none⟩ = some (.int .i64 (xa.id)) := P101.blk.cell (j := 3) rfl
  have z4 : w101.cell? ⟨X, 4, none⟩ = some (.int .i64 (xa.page)) := P101.blk.cell (j := 4) rfl
  have z5 : w101.cell? ⟨X, 5, none⟩ = some (.int .i64 (xa.frm)) := P101.blk.cell (j := 5) rfl
  have z6 : w101.cell? ⟨X, 6, none⟩ = some (.slice pb0 xa.before.length cb0) := P101.blk.cell (j := 6) rfl
  have z7 : w101.cell? ⟨X, 7, none⟩ = some (.slice pa0 xa.after.length ca0) := P101.blk.cell (j := 7) rfl
  have z8 : w101.cell? ⟨X, 8, none⟩ = some (.int .i64 (xa.next)) := P101.blk.cell (j := 8) rfl
  have z9 : w101.cell? ⟨X, 9, none⟩ = some (.slice pr0 xa.rows.length cr0) := P101.blk.cell (j := 9) rfl
  have z10 : w101.cell? ⟨X, 10, none⟩ = some (.slice pd0 xa.dirty.length cd0) := P101.blk.cell (j := 10) rfl
  have hsrc := src_rcd (P := Try.prog) w101 38 26 Try.underlying38 [.int .i64 (xa.kind - 8), .int .i64 (xa.birth), .int .i64 (xa.prev), .int .i64 (xa.id), .int .i64 (xa.page), .int .i64 (xa.frm), .slice pb0 xa.before.length cb0, .slice pa0 xa.after.length ca0, .int .i64 (xa.next), .slice pr0 xa.rows.length cr0, .slice pd0 xa.dirty.length cd0] rfl (cl_one P101.see)
  go_upto_region 5 with (at_builtin; refine wpList_append_row rfl (.tmp 11) (.tmp 13) 38 rfl w1.heap.size 26 inf0 (.agg #[.int .i64 0, .int .i64 0, .int .i64 0, .int .i64 0, .int .i64 0, .int .i64 0, .slice none 0 0, .slice none 0 0, .int .i64 0, .slice none 0 0, .slice none 0 0]) 11 152 Try.underlying38 HI0.out.1 HI0.out.2.1 HI0.out.2.2.1 HI0.out.2.2.2 rfl _ 0 (pcells []) (by rfl) (P101.row.kept ((Kept.refl [] w101).alloc _) (by simp)) _ 1 [.int .i64 (xa.kind - 8), .int .i64 (xa.birth), .int .i64 (xa.prev), .int .i64 (xa.id), .int .i64 (xa.page), .int .i64 (xa.frm), .slice pb0 xa.before.length cb0, .slice pa0 xa.after.length ca0, .int .i64 (xa.next), .slice pr0 xa.rows.length cr0, .slice pd0 xa.dirty.length cd0] (by rfl) hsrc (by omega) (by unfold maxLen; omega) (by omega) (by have := P101.kept.size; rw [World.size_alloc]; omega) ?_; intro v102 w102 r102 k102 at102; obtain ⟨pv102, cv102, ys102, hv102, P102⟩ := P101.push (bad_kA HR.out) (show 0 + 1 = 1 from rfl) ((Kept.refl [] w101).alloc _) r102 k102 at102; subst hv102)
  clear hsrc r102 k102 at102 P101 z0 z1 z2 z3 z4 z5 z6 z7 z8 z9 z10
  have z0 : w102.cell? ⟨X, 0, none⟩ = some (.int .i64 (xa.kind - 8)) := P102.blk.cell (j := 0) rfl
  have t0 := P102.blk.free 0
  have c0 := P102.kept.cell (HBX.out.cell (j := 0) rfl) (by simp)
  have P103 := P102.set 0 (xa.kind + 7) (⟨(xa.kind + 7), (xa.birth), (xa.prev), (xa.id), (xa.page), (xa.frm), xa.before, xa.after, (xa.next), xa.rows, xa.dirty⟩ : Rcd) rfl ⟨rfl, rfl, rfl, rfl⟩
  obtain ⟨w103, hw103⟩ : ∃ wx, wx = w102.setCell ⟨X, 0, none⟩ (.int .i64 (xa.kind + 7)) := ⟨_, rfl⟩
  rw [← hw103] at P103
  go_upto_region 6 with fail
  rw [← hw103]
  clear hw103 z0 t0 P102 c0
  have z0 : w103.cell? ⟨X, 0, none⟩ = some (.int .i64 (xa.kind + 7)) := P103.blk.cell (j := 0) rfl
  have z1 : w103.cell? ⟨X, 1, none⟩ = some (.int .i64 (xa.birth)) := P103.blk.cell (j := 1) rfl
  have z2 : w103.cell? ⟨X, 2, none⟩ = some (.int .i64 (xa.prev)) := P103.blk.cell (j := 2) rfl
  have z3 : w103.cell? ⟨X, 3, none⟩ = some (.int .i64 (xa.id)) := P103.blk.cell (j := 3) rfl
  have z4 : w103.cell? ⟨X, 4, none⟩ = some (.int .i64 (xa.page)) := P103.blk.cell (j := 4) rfl
  have z5 : w103.cell? ⟨X, 5, none⟩ = some (.int .i64 (xa.frm)) := P103.blk.cell (j := 5) rfl
  have z6 : w103.cell? ⟨X, 6, none⟩ = some (.slice pb0 xa.before.length cb0) := P103.blk.cell (j := 6) rfl
  have z7 : w103.cell? ⟨X, 7, none⟩ = some (.slice pa0 xa.after.length ca0) := P103.blk.cell (j := 7) rfl
  have z8 : w103.cell? ⟨X, 8, none⟩ = some (.int .i64 (xa.next)) := P103.blk.cell (j := 8) rfl
  have z9 : w103.cell? ⟨X, 9, none⟩ = some (.slice pr0 xa.rows.length cr0) := P103.blk.cell (j := 9) rfl
  have z10 : w103.cell? ⟨X, 10, none⟩ = some (.slice pd0 xa.dirty.length cd0) := P103.blk.cell (j := 10) rfl
  have hsrc := src_rcd (P := Try.prog) w103 38 26 Try.underlying38 [.int .i64 (xa.kind + 7), .int .i64 (xa.birth), .int .i64 (xa.prev), .int .i64 (xa.id), .int .i64 (xa.page), .int .i64 (xa.frm), .slice pb0 xa.before.length cb0, .slice pa0 xa.after.length ca0, .int .i64 (xa.next), .slice pr0 xa.rows.length cr0, .slice pd0 xa.dirty.length cd0] rfl (cl_one P103.see)
  go_upto_region 7 with (at_builtin; refine wpList_append_row rfl (.tmp 19) (.tmp 21) 38 rfl w1.heap.size 26 inf0 (.agg #[.int .i64 0, .int .i64 0, .int .i64 0, .int .i64 0, .int .i64 0, .int .i64 0, .slice none 0 0, .slice none 0 0, .int .i64 0, .slice none 0 0, .slice none 0 0]) 11 152 Try.underlying38 HI0.out.1 HI0.out.2.1 HI0.out.2.2.1 HI0.out.2.2.2 rfl _ 1 (pcells ys102) (by rfl) (P103.row.kept ((Kept.refl [] w103).alloc _) (by simp)) _ 1 [.int .i64 (xa.kind + 7), .int .i64 (xa.birth), .int .i64 (xa.prev), .int .i64 (xa.id), .int .i64 (xa.page), .int .i64 (xa.frm), .slice pb0 xa.before.length cb0, .slice pa0 xa.after.length ca0, .int .i64 (xa.next), .slice pr0 xa.rows.length cr0, .slice pd0 xa.dirty.length cd0] (by rfl) hsrc (by omega) (by unfold maxLen; omega) (by omega) (by have := P103.kept.size; rw [World.size_alloc]; omega) ?_; intro v104 w104 r104 k104 at104; obtain ⟨pv104, cv104, ys104, hv104, P104⟩ := P103.push (bad_kB HR.out) (show 1 + 1 = 2 from rfl) ((Kept.refl [] w103).alloc _) r104 k104 at104; subst hv104)
  clear hsrc r104 k104 at104 P103 z0 z1 z2 z3 z4 z5 z6 z7 z8 z9 z10
  have c0 := P104.kept.cell (HBX.out.cell (j := 0) rfl) (by simp)
  have c1 := P104.kept.cell (HBX.out.cell (j := 1) rfl) (by simp)
  have c2 := P104.kept.cell (HBX.out.cell (j := 2) rfl) (by simp)
  have c3 := P104.kept.cell (HBX.out.cell (j := 3) rfl) (by simp)
  have c4 := P104.kept.cell (HBX.out.cell (j := 4) rfl) (by simp)
  have c5 := P104.kept.cell (HBX.out.cell (j := 5) rfl) (by simp)
  have c6 := P104.kept.cell (HBX.out.cell (j := 6) rfl) (by simp)
  have c7 := P104.kept.cell (HBX.out.cell (j := 7) rfl) (by simp)
  have c8 := P104.kept.cell (HBX.out.cell (j := 8) rfl) (by simp)
  have c9 := P104.kept.cell (HBX.out.cell (j := 9) rfl) (by simp)
  have c10 := P104.kept.cell (HBX.out.cell (j := 10) rfl) (by simp)
  go_wp2_with fail
  refine (hCp _ P104.kept).mono ?_
  rintro e q105 ⟨V105, rfl, hO105, kq105⟩
  obtain ⟨pb105, cb105, pa105, ca105, pr105, cr105, pd105, cd105, hV105⟩ := hO105.see.shapes
  subst hV105
  dsimp only
  have bq := P104.blk.kept kq105 (by simp)
  have z0 : q105.cell? ⟨X, 0, none⟩ = some (.int .i64 (xa.kind + 7)) := bq.cell (j := 0) rfl
  have z1 : q105.cell? ⟨X, 1, none⟩ = some (.int .i64 (xa.birth)) := bq.cell (j := 1) rfl
  have z2 : q105.cell? ⟨X, 2, none⟩ = some (.int .i64 (xa.prev)) := bq.cell (j := 2) rfl
  have z3 : q105.cell? ⟨X, 3, none⟩ = some (.int .i64 (xa.id)) := bq.cell (j := 3) rfl
  have z4 : q105.cell? ⟨X, 4, none⟩ = some (.int .i64 (xa.page)) := bq.cell (j := 4) rfl
  have z5 : q105.cell? ⟨X, 5, none⟩ = some (.int .i64 (xa.frm)) := bq.cell (j := 5) rfl
  have z6 : q105.cell? ⟨X, 6, none⟩ = some (.slice pb0 xa.before.length cb0) := bq.cell (j := 6) rfl
  have z7 : q105.cell? ⟨X, 7, none⟩ = some (.slice pa0 xa.after.length ca0) := bq.cell (j := 7) rfl
  have z8 : q105.cell? ⟨X, 8, none⟩ = some (.int .i64 (xa.next)) := bq.cell (j := 8) rfl
  have z9 : q105.cell? ⟨X, 9, none⟩ = some (.slice pr0 xa.rows.length cr0) := bq.cell (j := 9) rfl
  have z10 : q105.cell? ⟨X, 10, none⟩ = some (.slice pd0 xa.dirty.length cd0) := bq.cell (j := 10) rfl
  have t0 := bq.free 0
  have t1 := bq.free 1
  have t2 := bq.free 2
  have t3 := bq.free 3
  have t4 := bq.free 4
  have t5 := bq.free 5
  have t6 := bq.free 6
  have t7 := bq.free 7
  have t8 := bq.free 8
  have t9 := bq.free 9
  have t10 := bq.free 10
  obtain ⟨bF, kF⟩ := Blk.fill11 (show Blk q105 X 26 [.int .i64 (xa.kind + 7), .int .i64 (xa.birth), .int .i64 (xa.prev), .int .i64 (xa.id), .int .i64 (xa.page), .int .i64 (xa.frm), .slice pb0 xa.before.length cb0, .slice pa0 xa.after.length ca0, .int .i64 (xa.next), .slice pr0 xa.rows.length cr0, .slice pd0 xa.dirty.length cd0] from bq) (.int .i64 (xa.kind)) (.int .i64 (xa.birth)) (.int .i64 (xa.prev)) (.int .i64 (xa.id)) (.int .i64 (xa.page)) (.int .i64 (xa.frm)) (.slice pb105 xa.before.length cb105) (.slice pa105 xa.after.length ca105) (.int .i64 (xa.next)) (.slice pr105 xa.rows.length cr105) (.slice pd105 xa.dirty.length cd105)
  obtain ⟨w105, hw105⟩ : ∃ wx, wx = (((((((((((q105.setCell ⟨X, 0, none⟩ (.int .i64 (xa.kind))).setCell ⟨X, 1, none⟩ (.int .i64 (xa.birth))).setCell ⟨X, 2, none⟩ (.int .i64 (xa.prev))).setCell ⟨X, 3, none⟩ (.int .i64 (xa.id))).setCell ⟨X, 4, none⟩ (.int .i64 (xa.page))).setCell ⟨X, 5, none⟩ (.int .i64 (xa.frm))).setCell ⟨X, 6, none⟩ (.slice pb105 xa.before.length cb105)).setCell ⟨X, 7, none⟩ (.slice pa105 xa.after.length ca105)).setCell ⟨X, 8, none⟩ (.int .i64 (xa.next))).setCell ⟨X, 9, none⟩ (.slice pr105 xa.rows.length cr105)).setCell ⟨X, 10, none⟩ (.slice pd105 xa.dirty.length cd105)) := ⟨_, rfl⟩
  rw [← hw105] at bF kF
  have HB105 : w104.heap.size ≤ w105.heap.size := Nat.le_trans kq105.size kF.size
  obtain ⟨P105, OW105, FR105⟩ := P104.copy (r := xa) (V := (⟨.slice pb105 xa.before.length cb105, .slice pa105 xa.after.length ca105, .slice pr105 xa.rows.length cr105, .slice pd105 xa.dirty.length cd105⟩ : RV)) kq105 hO105 bF kF
  go_upto_region 8 with fail
  rw [← hw105]
  clear hw105 bq bF kF hO105 kq105 P104 z0 t0 c0 z1 t1 c1 z2 t2 c2 z3 t3 c3 z4 t4 c4 z5 t5 c5 z6 t6 c6 z7 t7 c7 z8 t8 c8 z9 t9 c9 z10 t10 c10
  have z1 : w105.cell? ⟨X, 1, none⟩ = some (.int .i64 (xa.birth)) := P105.blk.cell (j := 1) rfl
  have t1 := P105.blk.free 1
  have P106 := P105.set 1 (-1) (⟨(xa.kind), (-1), (xa.prev), (xa.id), (xa.page), (xa.frm), xa.before, xa.after, (xa.next), xa.rows, xa.dirty⟩ : Rcd) rfl ⟨rfl, rfl, rfl, rfl⟩
  obtain ⟨w106, hw106⟩ : ∃ wx, wx = w105.setCell ⟨X, 1, none⟩ (.int .i64 (-1)) := ⟨_, rfl⟩
  rw [← hw106] at P106
  go_upto_region 9 with fail
  rw [← hw106]
  clear hw106 z1 t1 P105 
  have z0 : w106.cell? ⟨X, 0, none⟩ = some (.int .i64 (xa.kind)) := P106.blk.cell (j := 0) rfl
  have z1 : w106.cell? ⟨X, 1, none⟩ = some (.int .i64 (-1)) := P106.blk.cell (j := 1) rfl
  have z2 : w106.cell? ⟨X, 2, none⟩ = some (.int .i64 (xa.prev)) := P106.blk.cell (j := 2) rfl
  have z3 : w106.cell? ⟨X, 3, none⟩ = some (.int .i64 (xa.id)) := P106.blk.cell (j := 3) rfl
  have z4 : w106.cell? ⟨X, 4, none⟩ = some (.int .i64 (xa.page)) := P106.blk.cell (j := 4) rfl
  have z5 : w106.cell? ⟨X, 5, none⟩ = some (.int .i64 (xa.frm)) := P106.blk.cell (j := 5) rfl
  have z6 : w106.cell? ⟨X, 6, none⟩ = some (.slice pb105 xa.before.length cb105) := P106.blk.cell (j := 6) rfl
  have z7 : w106.cell? ⟨X, 7, none⟩ = some (.slice pa105 xa.after.length ca105) := P106.blk.cell (j := 7) rfl
  have z8 : w106.cell? ⟨X, 8, none⟩ = some (.int .i64 (xa.next)) := P106.blk.cell (j := 8) rfl
  have z9 : w106.cell? ⟨X, 9, none⟩ = some (.slice pr105 xa.rows.length cr105) := P106.blk.cell (j := 9) rfl
  have z10 : w106.cell? ⟨X, 10, none⟩ = some (.slice pd105 xa.dirty.length cd105) := P106.blk.cell (j := 10) rfl
  have hsrc := src_rcd (P := Try.prog) w106 38 26 Try.underlying38 [.int .i64 (xa.kind), .int .i64 (-1), .int .i64 (xa.prev), .int .i64 (xa.id), .int .i64 (xa.page), .int .i64 (xa.frm), .slice pb105 xa.before.length cb105, .slice pa105 xa.after.length ca105, .int .i64 (xa.next), .slice pr105 xa.rows.length cr105, .slice pd105 xa.dirty.length cd105] rfl (cl_one P106.see)
  go_upto_region 10 with (at_builtin; refine wpList_append_row rfl (.tmp 26) (.tmp 28) 38 rfl w1.heap.size 26 inf0 (.agg #[.int .i64 0, .int .i64 0, .int .i64 0, .int .i64 0, .int .i64 0, .int .i64 0, .slice none 0 0, .slice none 0 0, .int .i64 0, .slice none 0 0, .slice none 0 0]) 11 152 Try.underlying38 HI0.out.1 HI0.out.2.1 HI0.out.2.2.1 HI0.out.2.2.2 rfl _ 2 (pcells ys104) (by rfl) (P106.row.kept ((Kept.refl [] w106).alloc _) (by simp)) _ 1 [.int .i64 (xa.kind), .int .i64 (-1), .int .i64 (xa.prev), .int .i64 (xa.id), .int .i64 (xa.page), .int .i64 (xa.frm), .slice pb105 xa.before.length cb105, .slice pa105 xa.after.length ca105, .int .i64 (xa.next), .slice pr105 xa.rows.length cr105, .slice pd105 xa.dirty.length cd105] (by rfl) hsrc (by omega) (by unfold maxLen; omega) (by omega) (by have := P106.kept.size; rw [World.size_alloc]; omega) ?_; intro v107 w107 r107 k107 at107; obtain ⟨pv107, cv107, ys107, hv107, P107⟩ := P106.push (bad_bA HR.out) (show 2 + 1 = 3 from rfl) ((Kept.refl [] w106).alloc _) r107 k107 at107; subst hv107)
  clear hsrc r107 k107 at107 P106 z0 z1 z2 z3 z4 z5 z6 z7 z8 z9 z10
  have z1 : w107.cell? ⟨X, 1, none⟩ = some (.int .i64 (-1)) := P107.blk.cell (j := 1) rfl
  have t1 := P107.blk.free 1
  have P108 := P107.set 1 (1152921504606846977) (⟨(xa.kind), (1152921504606846977), (xa.prev), (xa.id), (xa.page), (xa.frm), xa.before, xa.after, (xa.next), xa.rows, xa.dirty⟩ : Rcd) rfl ⟨rfl, rfl, rfl, rfl⟩
  obtain ⟨w108, hw108⟩ : ∃ wx, wx = w107.setCell ⟨X, 1, none⟩ (.int .i64 (1152921504606846977)) := ⟨_, rfl⟩
  rw [← hw108] at P108
  go_upto_region 11 with fail
  rw [← hw108]
  clear hw108 z1 t1 P107 
  have z0 : w108.cell? ⟨X, 0, none⟩ = some (.int .i64 (xa.kind)) := P108.blk.cell (j := 0) rfl
  have z1 : w108.cell? ⟨X, 1, none⟩ = some (.int .i64 (1152921504606846977)) := P108.blk.cell (j := 1) rfl
  have z2 : w108.cell? ⟨X, 2, none⟩ = some (.int .i64 (xa.prev)) := P108.blk.cell (j := 2) rfl
  have z3 : w108.cell? ⟨X, 3, none⟩ = some (.int .i64 (xa.id)) := P108.blk.cell (j := 3) rfl
  have z4 : w108.cell? ⟨X, 4, none⟩ = some (.int .i64 (xa.page)) := P108.blk.cell (j := 4) rfl
  have z5 : w108.cell? ⟨X, 5, none⟩ = some (.int .i64 (xa.frm)) := P108.blk.cell (j := 5) rfl
  have z6 : w108.cell? ⟨X, 6, none⟩ = some (.slice pb105 xa.before.length cb105) := P108.blk.cell (j := 6) rfl
  have z7 : w108.cell? ⟨X, 7, none⟩ = some (.slice pa105 xa.after.length ca105) := P108.blk.cell (j := 7) rfl
  have z8 : w108.cell? ⟨X, 8, none⟩ = some (.int .i64 (xa.next)) := P108.blk.cell (j := 8) rfl
  have z9 : w108.cell? ⟨X, 9, none⟩ = some (.slice pr105 xa.rows.length cr105) := P108.blk.cell (j := 9) rfl
  have z10 : w108.cell? ⟨X, 10, none⟩ = some (.slice pd105 xa.dirty.length cd105) := P108.blk.cell (j := 10) rfl
  have hsrc := src_rcd (P := Try.prog) w108 38 26 Try.underlying38 [.int .i64 (xa.kind), .int .i64 (1152921504606846977), .int .i64 (xa.prev), .int .i64 (xa.id), .int .i64 (xa.page), .int .i64 (xa.frm), .slice pb105 xa.before.length cb105, .slice pa105 xa.after.length ca105, .int .i64 (xa.next), .slice pr105 xa.rows.length cr105, .slice pd105 xa.dirty.length cd105] rfl (cl_one P108.see)
  go_upto_region 12 with (at_builtin; refine wpList_append_row rfl (.tmp 31) (.tmp 33) 38 rfl w1.heap.size 26 inf0 (.agg #[.int .i64 0, .int .i64 0, .int .i64 0, .int .i64 0, .int .i64 0, .int .i64 0, .slice none 0 0, .slice none 0 0, .int .i64 0, .slice none 0 0, .slice none 0 0]) 11 152 Try.underlying38 HI0.out.1 HI0.out.2.1 HI0.out.2.2.1 HI0.out.2.2.2 rfl _ 3 (pcells ys107) (by rfl) (P108.row.kept ((Kept.refl [] w108).alloc _) (by simp)) _ 1 [.int .i64 (xa.kind), .int .i64 (1152921504606846977), .int .i64 (xa.prev), .int .i64 (xa.id), .int .i64 (xa.page), .int .i64 (xa.frm), .slice pb105 xa.before.length cb105, .slice pa105 xa.after.length ca105, .int .i64 (xa.next), .slice pr105 xa.rows.length cr105, .slice pd105 xa.dirty.length cd105] (by rfl) hsrc (by omega) (by unfold maxLen; omega) (by omega) (by have := P108.kept.size; rw [World.size_alloc]; omega) ?_; intro v109 w109 r109 k109 at109; obtain ⟨pv109, cv109, ys109, hv109, P109⟩ := P108.push (bad_bB HR.out) (show 3 + 1 = 4 from rfl) ((Kept.refl [] w108).alloc _) r109 k109 at109; subst hv109)
  clear hsrc r109 k109 at109 P108 z0 z1 z2 z3 z4 z5 z6 z7 z8 z9 z10
  have c0 := P109.kept.cell (HBX.out.cell (j := 0) rfl) (by simp)
  have c1 := P109.kept.cell (HBX.out.cell (j := 1) rfl) (by simp)
  have c2 := P109.kept.cell (HBX.out.cell (j := 2) rfl) (by simp)
  have c3 := P109.kept.cell (HBX.out.cell (j := 3) rfl) (by simp)
  have c4 := P109.kept.cell (HBX.out.cell (j := 4) rfl) (by simp)
  have c5 := P109.kept.cell (HBX.out.cell (j := 5) rfl) (by simp)
  have c6 := P109.kept.cell (HBX.out.cell (j := 6) rfl) (by simp)
  have c7 := P109.kept.cell (HBX.out.cell (j := 7) rfl) (by simp)
  have c8 := P109.kept.cell (HBX.out.cell (j := 8) rfl) (by simp)
  have c9 := P109.kept.cell (HBX.out.cell (j := 9) rfl) (by simp)
  have c10 := P109.kept.cell (HBX.out.cell (j := 10) rfl) (by simp)
  go_wp2_with fail
  refine (hCp _ P109.kept).mono ?_
  rintro e q110 ⟨V110, rfl, hO110, kq110⟩
  obtain ⟨pb110, cb110, pa110, ca110, pr110, cr110, pd110, cd110, hV110⟩ := hO110.see.shapes
  subst hV110
  dsimp only
  have bq := P109.blk.kept kq110 (by simp)
  have z0 : q110.cell? ⟨X, 0, none⟩ = some (.int .i64 (xa.kind)) := bq.cell (j := 0) rfl
  have z1 : q110.cell? ⟨X, 1, none⟩ = some (.int .i64 (1152921504606846977)) := bq.cell (j := 1) rfl
  have z2 : q110.cell? ⟨X, 2, none⟩ = some (.int .i64 (xa.prev)) := bq.cell (j := 2) rfl
  have z3 : q110.cell? ⟨X, 3, none⟩ = some (.int .i64 (xa.id)) := bq.cell (j := 3) rfl
  have z4 : q110.cell? ⟨X, 4, none⟩ = some (.int .i64 (xa.page)) := bq.cell (j := 4) rfl
  have z5 : q110.cell? ⟨X, 5, none⟩ = some (.int .i64 (xa.frm)) := bq.cell (j := 5) rfl
  have z6 : q110.cell? ⟨X, 6, none⟩ = some (.slice pb105 xa.before.length cb105) := bq.cell (j := 6) rfl
  have z7 : q110.cell? ⟨X, 7, none⟩ = some (.slice pa105 xa.after.length ca105) := bq.cell (j := 7) rfl
  have z8 : q110.cell? ⟨X, 8, none⟩ = some (.int .i64 (xa.next)) := bq.cell (j := 8) rfl
  have z9 : q110.cell? ⟨X, 9, none⟩ = some (.slice pr105 xa.rows.length cr105) := bq.cell (j := 9) rfl
  have z10 : q110.cell? ⟨X, 10, none⟩ = some (.slice pd105 xa.dirty.length cd105) := bq.cell (j := 10) rfl
  have t0 := bq.free 0
  have t1 := bq.free 1
  have t2 := bq.free 2
  have t3 := bq.free 3
  have t4 := bq.free 4
  have t5 := bq.free 5
  have t6 := bq.free 6
  have t7 := bq.free 7
  have t8 := bq.free 8
  have t9 := bq.free 9
  have t10 := bq.free 10
  obtain ⟨bF, kF⟩ := Blk.fill11 (show Blk q110 X 26 [.int .i64 (xa.kind), .int .i64 (1152921504606846977), .int .i64 (xa.prev), .int .i64 (xa.id), .int .i64 (xa.page), .int .i64 (xa.frm), .slice pb105 xa.before.length cb105, .slice pa105 xa.after.length ca105, .int .i64 (xa.next), .slice pr105 xa.rows.length cr105, .slice pd105 xa.dirty.length cd105] from bq) (.int .i64 (xa.kind)) (.int .i64 (xa.birth)) (.int .i64 (xa.prev)) (.int .i64 (xa.id)) (.int .i64 (xa.page)) (.int .i64 (xa.frm)) (.slice pb110 xa.before.length cb110) (.slice pa110 xa.after.length ca110) (.int .i64 (xa.next)) (.slice pr110 xa.rows.length cr110) (.slice pd110 xa.dirty.length cd110)
  obtain ⟨w110, hw110⟩ : ∃ wx, wx = (((((((((((q110.setCell ⟨X, 0, none⟩ (.int .i64 (xa.kind))).setCell ⟨X, 1, none⟩ (.int .i64 (xa.birth))).setCell ⟨X, 2, none⟩ (.int .i64 (xa.prev))).setCell ⟨X, 3, none⟩ (.int .i64 (xa.id))).setCell ⟨X, 4, none⟩ (.int .i64 (xa.page))).setCell ⟨X, 5, none⟩ (.int .i64 (xa.frm))).setCell ⟨X, 6, none⟩ (.slice pb110 xa.before.length cb110)).setCell ⟨X, 7, none⟩ (.slice pa110 xa.after.length ca110)).setCell ⟨X, 8, none⟩ (.int .i64 (xa.next))).setCell ⟨X, 9, none⟩ (.slice pr110 xa.rows.length cr110)).setCell ⟨X, 10, none⟩ (.slice pd110 xa.dirty.length cd110)) := ⟨_, rfl⟩
  rw [← hw110] at bF kF
  have HB110 : w109.heap.size ≤ w110.heap.size := Nat.le_trans kq110.size kF.size
  obtain ⟨P110, OW110, FR110⟩ := P109.copy (r := xa) (V := (⟨.slice pb110 xa.before.length cb110, .slice pa110 xa.after.length ca110, .slice pr110 xa.rows.length cr110, .slice pd110 xa.dirty.length cd110⟩ : RV)) kq110 hO110 bF kF
  go_upto_region 13 with fail
  rw [← hw110]
  clear hw110 bq bF kF hO110 kq110 P109 z0 t0 c0 z1 t1 c1 z2 t2 c2 z3 t3 c3 z4 t4 c4 z5 t5 c5 z6 t6 c6 z7 t7 c7 z8 t8 c8 z9 t9 c9 z10 t10 c10
  clear OW105 FR105 HB105
  have z2 : w110.cell? ⟨X, 2, none⟩ = some (.int .i64 (xa.prev)) := P110.blk.cell (j := 2) rfl
  have t2 := P110.blk.free 2
  have P111 := P110.set 2 (-1) (⟨(xa.kind), (xa.birth), (-1), (xa.id), (xa.page), (xa.frm), xa.before, xa.after, (xa.next), xa.rows, xa.dirty⟩ : Rcd) rfl ⟨rfl, rfl, rfl, rfl⟩
  obtain ⟨w111, hw111⟩ : ∃ wx, wx = w110.setCell ⟨X, 2, none⟩ (.int .i64 (-1)) := ⟨_, rfl⟩
  rw [← hw111] at P111
  go_upto_region 14 with fail
  rw [← hw111]
  clear hw111 z2 t2 P110 
  have z0 : w111.cell? ⟨X, 0, none⟩ = some (.int .i64 (xa.kind)) := P111.blk.cell (j := 0) rfl
  have z1 : w111.cell? ⟨X, 1, none⟩ = some (.int .i64 (xa.birth)) := P111.blk.cell (j := 1) rfl
  have z2 : w111.cell? ⟨X, 2, none⟩ = some (.int .i64 (-1)) := P111.blk.cell (j := 2) rfl
  have z3 : w111.cell? ⟨X, 3, none⟩ = some (.int .i64 (xa.id)) := P111.blk.cell (j := 3) rfl
  have z4 : w111.cell? ⟨X, 4, none⟩ = some (.int .i64 (xa.page)) := P111.blk.cell (j := 4) rfl
  have z5 : w111.cell? ⟨X, 5, none⟩ = some (.int .i64 (xa.frm)) := P111.blk.cell (j := 5) rfl
  have z6 : w111.cell? ⟨X, 6, none⟩ = some (.slice pb110 xa.before.length cb110) := P111.blk.cell (j := 6) rfl
  have z7 : w111.cell? ⟨X, 7, none⟩ = some (.slice pa110 xa.after.length ca110) := P111.blk.cell (j := 7) rfl
  have z8 : w111.cell? ⟨X, 8, none⟩ = some (.int .i64 (xa.next)) := P111.blk.cell (j := 8) rfl
  have z9 : w111.cell? ⟨X, 9, none⟩ = some (.slice pr110 xa.rows.length cr110) := P111.blk.cell (j := 9) rfl
  have z10 : w111.cell? ⟨X, 10, none⟩ = some (.slice pd110 xa.dirty.length cd110) := P111.blk.cell (j := 10) rfl
  have hsrc := src_rcd (P := Try.prog) w111 38 26 Try.underlying38 [.int .i64 (xa.kind), .int .i64 (xa.birth), .int .i64 (-1), .int .i64 (xa.id), .int .i64 (xa.page), .int .i64 (xa.frm), .slice pb110 xa.before.length cb110, .slice pa110 xa.after.length ca110, .int .i64 (xa.next), .slice pr110 xa.rows.length cr110, .slice pd110 xa.dirty.length cd110] rfl (cl_one P111.see)
  go_upto_region 15 with (at_builtin; refine wpList_append_row rfl (.tmp 38) (.tmp 40) 38 rfl w1.heap.size 26 inf0 (.agg #[.int .i64 0, .int .i64 0, .int .i64 0, .int .i64 0, .int .i64 0, .int .i64 0, .slice none 0 0, .slice none 0 0, .int .i64 0, .slice none 0 0, .slice none 0 0]) 11 152 Try.underlying38 HI0.out.1 HI0.out.2.1 HI0.out.2.2.1 HI0.out.2.2.2 rfl _ 4 (pcells ys109) (by rfl) (P111.row.kept ((Kept.refl [] w111).alloc _) (by simp)) _ 1 [.int .i64 (xa.kind), .int .i64 (xa.birth), .int .i64 (-1), .int .i64 (xa.id), .int .i64 (xa.page), .int .i64 (xa.frm), .slice pb110 xa.before.length cb110, .slice pa110 xa.after.length ca110, .int .i64 (xa.next), .slice pr110 xa.rows.length cr110, .slice pd110 xa.dirty.length cd110] (by rfl) hsrc (by omega) (by unfold maxLen; omega) (by omega) (by have := P111.kept.size; rw [World.size_alloc]; omega) ?_; intro v112 w112 r112 k112 at112; obtain ⟨pv112, cv112, ys112, hv112, P112⟩ := P111.push (bad_pA HR.out) (show 4 + 1 = 5 from rfl) ((Kept.refl [] w111).alloc _) r112 k112 at112; subst hv112)
  clear hsrc r112 k112 at112 P111 z0 z1 z2 z3 z4 z5 z6 z7 z8 z9 z10
  have c0 := P112.kept.cell (HBX.out.cell (j := 0) rfl) (by simp)
  have c1 := P112.kept.cell (HBX.out.cell (j := 1) rfl) (by simp)
  have c2 := P112.kept.cell (HBX.out.cell (j := 2) rfl) (by simp)
  have c3 := P112.kept.cell (HBX.out.cell (j := 3) rfl) (by simp)
  have c4 := P112.kept.cell (HBX.out.cell (j := 4) rfl) (by simp)
  have c5 := P112.kept.cell (HBX.out.cell (j := 5) rfl) (by simp)
  have c6 := P112.kept.cell (HBX.out.cell (j := 6) rfl) (by simp)
  have c7 := P112.kept.cell (HBX.out.cell (j := 7) rfl) (by simp)
  have c8 := P112.kept.cell (HBX.out.cell (j := 8) rfl) (by simp)
  have c9 := P112.kept.cell (HBX.out.cell (j := 9) rfl) (by simp)
  have c10 := P112.kept.cell (HBX.out.cell (j := 10) rfl) (by simp)
  go_wp2_with fail
  refine (hCp _ P112.kept).mono ?_
  rintro e q113 ⟨V113, rfl, hO113, kq113⟩
  obtain ⟨pb113, cb113, pa113, ca113, pr113, cr113, pd113, cd113, hV113⟩ := hO113.see.shapes
  subst hV113
  dsimp only
  have bq := P112.blk.kept kq113 (by simp)
  have z0 : q113.cell? ⟨X, 0, none⟩ = some (.int .i64 (xa.kind)) := bq.cell (j := 0) rfl
  have z1 : q113.cell? ⟨X, 1, none⟩ = some (.int .i64 (xa.birth)) := bq.cell (j := 1) rfl
  have z2 : q113.cell? ⟨X, 2, none⟩ = some (.int .i64 (-1)) := bq.cell (j := 2) rfl
  have z3 : q113.cell? ⟨X, 3, none⟩ = some (.int .i64 (xa.id)) := bq.cell (j := 3) rfl
  have z4 : q113.cell? ⟨X, 4, none⟩ = some (.int .i64 (xa.page)) := bq.cell (j := 4) rfl
  have z5 : q113.cell? ⟨X, 5, none⟩ = some (.int .i64 (xa.frm)) := bq.cell (j := 5) rfl
  have z6 : q113.cell? ⟨X, 6, none⟩ = some (.slice pb110 xa.before.length cb110) := bq.cell (j := 6) rfl
  have z7 : q113.cell? ⟨X, 7, none⟩ = some (.slice pa110 xa.after.length ca110) := bq.cell (j := 7) rfl
  have z8 : q113.cell? ⟨X, 8, none⟩ = some (.int .i64 (xa.next)) := bq.cell (j := 8) rfl
  have z9 : q113.cell? ⟨X, 9, none⟩ = some (.slice pr110 xa.rows.length cr110) := bq.cell (j := 9) rfl
  have z10 : q113.cell? ⟨X, 10, none⟩ = some (.slice pd110 xa.dirty.length cd110) := bq.cell (j := 10) rfl
  have t0 := bq.free 0
  have t1 := bq.free 1
  have t2 := bq.free 2
  have t3 := bq.free 3
  have t4 := bq.free 4
  have t5 := bq.free 5
  have t6 := bq.free 6
  have t7 := bq.free 7
  have t8 := bq.free 8
  have t9 := bq.free 9
  have t10 := bq.free 10
  obtain ⟨bF, kF⟩ := Blk.fill11 (show Blk q113 X 26 [.int .i64 (xa.kind), .int .i64 (xa.birth), .int .i64 (-1), .int .i64 (xa.id), .int .i64 (xa.page), .int .i64 (xa.frm), .slice pb110 xa.before.length cb110, .slice pa110 xa.after.length ca110, .int .i64 (xa.next), .slice pr110 xa.rows.length cr110, .slice pd110 xa.dirty.length cd110] from bq) (.int .i64 (xa.kind)) (.int .i64 (xa.birth)) (.int .i64 (xa.prev)) (.int .i64 (xa.id)) (.int .i64 (xa.page)) (.int .i64 (xa.frm)) (.slice pb113 xa.before.length cb113) (.slice pa113 xa.after.length ca113) (.int .i64 (xa.next)) (.slice pr113 xa.rows.length cr113) (.slice pd113 xa.dirty.length cd113)
  obtain ⟨w113, hw113⟩ : ∃ wx, wx = (((((((((((q113.setCell ⟨X, 0, none⟩ (.int .i64 (xa.kind))).setCell ⟨X, 1, none⟩ (.int .i64 (xa.birth))).setCell ⟨X, 2, none⟩ (.int .i64 (xa.prev))).setCell ⟨X, 3, none⟩ (.int .i64 (xa.id))).setCell ⟨X, 4, none⟩ (.int .i64 (xa.page))).setCell ⟨X, 5, none⟩ (.int .i64 (xa.frm))).setCell ⟨X, 6, none⟩ (.slice pb113 xa.before.length cb113)).setCell ⟨X, 7, none⟩ (.slice pa113 xa.after.length ca113)).setCell ⟨X, 8, none⟩ (.int .i64 (xa.next))).setCell ⟨X, 9, none⟩ (.slice pr113 xa.rows.length cr113)).setCell ⟨X, 10, none⟩ (.slice pd113 xa.dirty.length cd113)) := ⟨_, rfl⟩
  rw [← hw113] at bF kF
  have HB113 : w112.heap.size ≤ w113.heap.size := Nat.le_trans kq113.size kF.size
  obtain ⟨P113, OW113, FR113⟩ := P112.copy (r := xa) (V := (⟨.slice pb113 xa.before.length cb113, .slice pa113 xa.after.length ca113, .slice pr113 xa.rows.length cr113, .slice pd113 xa.dirty.length cd113⟩ : RV)) kq113 hO113 bF kF
  go_upto_region 16 with fail
  rw [← hw113]
  clear hw113 bq bF kF hO113 kq113 P112 z0 t0 c0 z1 t1 c1 z2 t2 c2 z3 t3 c3 z4 t4 c4 z5 t5 c5 z6 t6 c6 z7 t7 c7 z8 t8 c8 z9 t9 c9 z10 t10 c10
  clear OW110 FR110 HB110
  have z8 : w113.cell? ⟨X, 8, none⟩ = some (.int .i64 (xa.next)) := P113.blk.cell (j := 8) rfl
  have t8 := P113.blk.free 8
  have P114 := P113.set 8 (-1) (⟨(xa.kind), (xa.birth), (xa.prev), (xa.id), (xa.page), (xa.frm), xa.before, xa.after, (-1), xa.rows, xa.dirty⟩ : Rcd) rfl ⟨rfl, rfl, rfl, rfl⟩
  obtain ⟨w114, hw114⟩ : ∃ wx, wx = w113.setCell ⟨X, 8, none⟩ (.int .i64 (-1)) := ⟨_, rfl⟩
  rw [← hw114] at P114
  go_upto_region 17 with fail
  rw [← hw114]
  clear hw114 z8 t8 P113 
  have z0 : w114.cell? ⟨X, 0, none⟩ = some (.int .i64 (xa.kind)) := P114.blk.cell (j := 0) rfl
  have z1 : w114.cell? ⟨X, 1, none⟩ = some (.int .i64 (xa.birth)) := P114.blk.cell (j := 1) rfl
  have z2 : w114.cell? ⟨X, 2, none⟩ = some (.int .i64 (xa.prev)) := P114.blk.cell (j := 2) rfl
  have z3 : w114.cell? ⟨X, 3, none⟩ = some (.int .i64 (xa.id)) := P114.blk.cell (j := 3) rfl
  have z4 : w114.cell? ⟨X, 4, none⟩ = some (.int .i64 (xa.page)) := P114.blk.cell (j := 4) rfl
  have z5 : w114.cell? ⟨X, 5, none⟩ = some (.int .i64 (xa.frm)) := P114.blk.cell (j := 5) rfl
  have z6 : w114.cell? ⟨X, 6, none⟩ = some (.slice pb113 xa.before.length cb113) := P114.blk.cell (j := 6) rfl
  have z7 : w114.cell? ⟨X, 7, none⟩ = some (.slice pa113 xa.after.length ca113) := P114.blk.cell (j := 7) rfl
  have z8 : w114.cell? ⟨X, 8, none⟩ = some (.int .i64 (-1)) := P114.blk.cell (j := 8) rfl
  have z9 : w114.cell? ⟨X, 9, none⟩ = some (.slice pr113 xa.rows.length cr113) := P114.blk.cell (j := 9) rfl
  have z10 : w114.cell? ⟨X, 10, none⟩ = some (.slice pd113 xa.dirty.length cd113) := P114.blk.cell (j := 10) rfl
  have hsrc := src_rcd (P := Try.prog) w114 38 26 Try.underlying38 [.int .i64 (xa.kind), .int .i64 (xa.birth), .int .i64 (xa.prev), .int .i64 (xa.id), .int .i64 (xa.page), .int .i64 (xa.frm), .slice pb113 xa.before.length cb113, .slice pa113 xa.after.length ca113, .int .i64 (-1), .slice pr113 xa.rows.length cr113, .slice pd113 xa.dirty.length cd113] rfl (cl_one P114.see)
  go_upto_region 18 with (at_builtin; refine wpList_append_row rfl (.tmp 45) (.tmp 47) 38 rfl w1.heap.size 26 inf0 (.agg #[.int .i64 0, .int .i64 0, .int .i64 0, .int .i64 0, .int .i64 0, .int .i64 0, .slice none 0 0, .slice none 0 0, .int .i64 0, .slice none 0 0, .slice none 0 0]) 11 152 Try.underlying38 HI0.out.1 HI0.out.2.1 HI0.out.2.2.1 HI0.out.2.2.2 rfl _ 5 (pcells ys112) (by rfl) (P114.row.kept ((Kept.refl [] w114).alloc _) (by simp)) _ 1 [.int .i64 (xa.kind), .int .i64 (xa.birth), .int .i64 (xa.prev), .int .i64 (xa.id), .int .i64 (xa.page), .int .i64 (xa.frm), .slice pb113 xa.before.length cb113, .slice pa113 xa.after.length ca113, .int .i64 (-1), .slice pr113 xa.rows.length cr113, .slice pd113 xa.dirty.length cd113] (by rfl) hsrc (by omega) (by unfold maxLen; omega) (by omega) (by have := P114.kept.size; rw [World.size_alloc]; omega) ?_; intro v115 w115 r115 k115 at115; obtain ⟨pv115, cv115, ys115, hv115, P115⟩ := P114.push (bad_nA HR.out) (show 5 + 1 = 6 from rfl) ((Kept.refl [] w114).alloc _) r115 k115 at115; subst hv115)
  clear hsrc r115 k115 at115 P114 z0 z1 z2 z3 z4 z5 z6 z7 z8 z9 z10
  have z8 : w115.cell? ⟨X, 8, none⟩ = some (.int .i64 (-1)) := P115.blk.cell (j := 8) rfl
  have t8 := P115.blk.free 8
  have P116 := P115.set 8 (1152921504606846977) (⟨(xa.kind), (xa.birth), (xa.prev), (xa.id), (xa.page), (xa.frm), xa.before, xa.after, (1152921504606846977), xa.rows, xa.dirty⟩ : Rcd) rfl ⟨rfl, rfl, rfl, rfl⟩
  obtain ⟨w116, hw116⟩ : ∃ wx, wx = w115.setCell ⟨X, 8, none⟩ (.int .i64 (1152921504606846977)) := ⟨_, rfl⟩
  rw [← hw116] at P116
  go_upto_region 19 with fail
  rw [← hw116]
  clear hw116 z8 t8 P115 
  have z0 : w116.cell? ⟨X, 0, none⟩ = some (.int .i64 (xa.kind)) := P116.blk.cell (j := 0) rfl
  have z1 : w116.cell? ⟨X, 1, none⟩ = some (.int .i64 (xa.birth)) := P116.blk.cell (j := 1) rfl
  have z2 : w116.cell? ⟨X, 2, none⟩ = some (.int .i64 (xa.prev)) := P116.blk.cell (j := 2) rfl
  have z3 : w116.cell? ⟨X, 3, none⟩ = some (.int .i64 (xa.id)) := P116.blk.cell (j := 3) rfl
  have z4 : w116.cell? ⟨X, 4, none⟩ = some (.int .i64 (xa.page)) := P116.blk.cell (j := 4) rfl
  have z5 : w116.cell? ⟨X, 5, none⟩ = some (.int .i64 (xa.frm)) := P116.blk.cell (j := 5) rfl
  have z6 : w116.cell? ⟨X, 6, none⟩ = some (.slice pb113 xa.before.length cb113) := P116.blk.cell (j := 6) rfl
  have z7 : w116.cell? ⟨X, 7, none⟩ = some (.slice pa113 xa.after.length ca113) := P116.blk.cell (j := 7) rfl
  have z8 : w116.cell? ⟨X, 8, none⟩ = some (.int .i64 (1152921504606846977)) := P116.blk.cell (j := 8) rfl
  have z9 : w116.cell? ⟨X, 9, none⟩ = some (.slice pr113 xa.rows.length cr113) := P116.blk.cell (j := 9) rfl
  have z10 : w116.cell? ⟨X, 10, none⟩ = some (.slice pd113 xa.dirty.length cd113) := P116.blk.cell (j := 10) rfl
  have hsrc := src_rcd (P := Try.prog) w116 38 26 Try.underlying38 [.int .i64 (xa.kind), .int .i64 (xa.birth), .int .i64 (xa.prev), .int .i64 (xa.id), .int .i64 (xa.page), .int .i64 (xa.frm), .slice pb113 xa.before.length cb113, .slice pa113 xa.after.length ca113, .int .i64 (1152921504606846977), .slice pr113 xa.rows.length cr113, .slice pd113 xa.dirty.length cd113] rfl (cl_one P116.see)
  go_upto_region 20 with (at_builtin; refine wpList_append_row rfl (.tmp 50) (.tmp 52) 38 rfl w1.heap.size 26 inf0 (.agg #[.int .i64 0, .int .i64 0, .int .i64 0, .int .i64 0, .int .i64 0, .int .i64 0, .slice none 0 0, .slice none 0 0, .int .i64 0, .slice none 0 0, .slice none 0 0]) 11 152 Try.underlying38 HI0.out.1 HI0.out.2.1 HI0.out.2.2.1 HI0.out.2.2.2 rfl _ 6 (pcells ys115) (by rfl) (P116.row.kept ((Kept.refl [] w116).alloc _) (by simp)) _ 1 [.int .i64 (xa.kind), .int .i64 (xa.birth), .int .i64 (xa.prev), .int .i64 (xa.id), .int .i64 (xa.page), .int .i64 (xa.frm), .slice pb113 xa.before.length cb113, .slice pa113 xa.after.length ca113, .int .i64 (1152921504606846977), .slice pr113 xa.rows.length cr113, .slice pd113 xa.dirty.length cd113] (by rfl) hsrc (by omega) (by unfold maxLen; omega) (by omega) (by have := P116.kept.size; rw [World.size_alloc]; omega) ?_; intro v117 w117 r117 k117 at117; obtain ⟨pv117, cv117, ys117, hv117, P117⟩ := P116.push (bad_nB HR.out) (show 6 + 1 = 7 from rfl) ((Kept.refl [] w116).alloc _) r117 k117 at117; subst hv117)
  clear hsrc r117 k117 at117 P116 z0 z1 z2 z3 z4 z5 z6 z7 z8 z9 z10
  have c0 := P117.kept.cell (HBX.out.cell (j := 0) rfl) (by simp)
  have c1 := P117.kept.cell (HBX.out.cell (j := 1) rfl) (by simp)
  have c2 := P117.kept.cell (HBX.out.cell (j := 2) rfl) (by simp)
  have c3 := P117.kept.cell (HBX.out.cell (j := 3) rfl) (by simp)
  have c4 := P117.kept.cell (HBX.out.cell (j := 4) rfl) (by simp)
  have c5 := P117.kept.cell (HBX.out.cell (j := 5) rfl) (by simp)
  have c6 := P117.kept.cell (HBX.out.cell (j := 6) rfl) (by simp)
  have c7 := P117.kept.cell (HBX.out.cell (j := 7) rfl) (by simp)
  have c8 := P117.kept.cell (HBX.out.cell (j := 8) rfl) (by simp)
  have c9 := P117.kept.cell (HBX.out.cell (j := 9) rfl) (by simp)
  have c10 := P117.kept.cell (HBX.out.cell (j := 10) rfl) (by simp)
  go_wp2_with fail
  refine (hCp _ P117.kept).mono ?_
  rintro e q118 ⟨V118, rfl, hO118, kq118⟩
  obtain ⟨pb118, cb118, pa118, ca118, pr118, cr118, pd118, cd118, hV118⟩ := hO118.see.shapes
  subst hV118
  dsimp only
  have bq := P117.blk.kept kq118 (by simp)
  have z0 : q118.cell? ⟨X, 0, none⟩ = some (.int .i64 (xa.kind)) := bq.cell (j := 0) rfl
  have z1 : q118.cell? ⟨X, 1, none⟩ = some (.int .i64 (xa.birth)) := bq.cell (j := 1) rfl
  have z2 : q118.cell? ⟨X, 2, none⟩ = some (.int .i64 (xa.prev)) := bq.cell (j := 2) rfl
  have z3 : q118.cell? ⟨X, 3, none⟩ = some (.int .i64 (xa.id)) := bq.cell (j := 3) rfl
  have z4 : q118.cell? ⟨X, 4, none⟩ = some (.int .i64 (xa.page)) := bq.cell (j := 4) rfl
  have z5 : q118.cell? ⟨X, 5, none⟩ = some (.int .i64 (xa.frm)) := bq.cell (j := 5) rfl
  have z6 : q118.cell? ⟨X, 6, none⟩ = some (.slice pb113 xa.before.length cb113) := bq.cell (j := 6) rfl
  have z7 : q118.cell? ⟨X, 7, none⟩ = some (.slice pa113 xa.after.length ca113) := bq.cell (j := 7) rfl
  have z8 : q118.cell? ⟨X, 8, none⟩ = some (.int .i64 (1152921504606846977)) := bq.cell (j := 8) rfl
  have z9 : q118.cell? ⟨X, 9, none⟩ = some (.slice pr113 xa.rows.length cr113) := bq.cell (j := 9) rfl
  have z10 : q118.cell? ⟨X, 10, none⟩ = some (.slice pd113 xa.dirty.length cd113) := bq.cell (j := 10) rfl
  have t0 := bq.free 0
  have t1 := bq.free 1
  have t2 := bq.free 2
  have t3 := bq.free 3
  have t4 := bq.free 4
  have t5 := bq.free 5
  have t6 := bq.free 6
  have t7 := bq.free 7
  have t8 := bq.free 8
  have t9 := bq.free 9
  have t10 := bq.free 10
  obtain ⟨bF, kF⟩ := Blk.fill11 (show Blk q118 X 26 [.int .i64 (xa.kind), .int .i64 (xa.birth), .int .i64 (xa.prev), .int .i64 (xa.id), .int .i64 (xa.page), .int .i64 (xa.frm), .slice pb113 xa.before.length cb113, .slice pa113 xa.after.length ca113, .int .i64 (1152921504606846977), .slice pr113 xa.rows.length cr113, .slice pd113 xa.dirty.length cd113] from bq) (.int .i64 (xa.kind)) (.int .i64 (xa.birth)) (.int .i64 (xa.prev)) (.int .i64 (xa.id)) (.int .i64 (xa.page)) (.int .i64 (xa.frm)) (.slice pb118 xa.before.length cb118) (.slice pa118 xa.after.length ca118) (.int .i64 (xa.next)) (.slice pr118 xa.rows.length cr118) (.slice pd118 xa.dirty.length cd118)
  obtain ⟨w118, hw118⟩ : ∃ wx, wx = (((((((((((q118.setCell ⟨X, 0, none⟩ (.int .i64 (xa.kind))).setCell ⟨X, 1, none⟩ (.int .i64 (xa.birth))).setCell ⟨X, 2, none⟩ (.int .i64 (xa.prev))).setCell ⟨X, 3, none⟩ (.int .i64 (xa.id))).setCell ⟨X, 4, none⟩ (.int .i64 (xa.page))).setCell ⟨X, 5, none⟩ (.int .i64 (xa.frm))).setCell ⟨X, 6, none⟩ (.slice pb118 xa.before.length cb118)).setCell ⟨X, 7, none⟩ (.slice pa118 xa.after.length ca118)).setCell ⟨X, 8, none⟩ (.int .i64 (xa.next))).setCell ⟨X, 9, none⟩ (.slice pr118 xa.rows.length cr118)).setCell ⟨X, 10, none⟩ (.slice pd118 xa.dirty.length cd118)) := ⟨_, rfl⟩
  rw [← hw118] at bF kF
  have HB118 : w117.heap.size ≤ w118.heap.size := Nat.le_trans kq118.size kF.size
  obtain ⟨P118, OW118, FR118⟩ := P117.copy (r := xa) (V := (⟨.slice pb118 xa.before.length cb118, .slice pa118 xa.after.length ca118, .slice pr118 xa.rows.length cr118, .slice pd118 xa.dirty.length cd118⟩ : RV)) kq118 hO118 bF kF
  go_upto_region 21 with fail
  rw [← hw118]
  clear hw118 bq bF kF hO118 kq118 P117 z0 t0 c0 z1 t1 c1 z2 t2 c2 z3 t3 c3 z4 t4 c4 z5 t5 c5 z6 t6 c6 z7 t7 c7 z8 t8 c8 z9 t9 c9 z10 t10 c10
  clear OW113 FR113 HB113
  have z3 : w118.cell? ⟨X, 3, none⟩ = some (.int .i64 (xa.id)) := P118.blk.cell (j := 3) rfl
  have t3 := P118.blk.free 3
  have P119 := P118.set 3 (65) (⟨(xa.kind), (xa.birth), (xa.prev), (65), (xa.page), (xa.frm), xa.before, xa.after, (xa.next), xa.rows, xa.dirty⟩ : Rcd) rfl ⟨rfl, rfl, rfl, rfl⟩
  obtain ⟨w119, hw119⟩ : ∃ wx, wx = w118.setCell ⟨X, 3, none⟩ (.int .i64 (65)) := ⟨_, rfl⟩
  rw [← hw119] at P119
  go_upto_region 22 with fail
  rw [← hw119]
  clear hw119 z3 t3 P118 
  have z0 : w119.cell? ⟨X, 0, none⟩ = some (.int .i64 (xa.kind)) := P119.blk.cell (j := 0) rfl
  have z1 : w119.cell? ⟨X, 1, none⟩ = some (.int .i64 (xa.birth)) := P119.blk.cell (j := 1) rfl
  have z2 : w119.cell? ⟨X, 2, none⟩ = some (.int .i64 (xa.prev)) := P119.blk.cell (j := 2) rfl
  have z3 : w119.cell? ⟨X, 3, none⟩ = some (.int .i64 (65)) := P119.blk.cell (j := 3) rfl
  have z4 : w119.cell? ⟨X, 4, none⟩ = some (.int .i64 (xa.page)) := P119.blk.cell (j := 4) rfl
  have z5 : w119.cell? ⟨X, 5, none⟩ = some (.int .i64 (xa.frm)) := P119.blk.cell (j := 5) rfl
  have z6 : w119.cell? ⟨X, 6, none⟩ = some (.slice pb118 xa.before.length cb118) := P119.blk.cell (j := 6) rfl
  have z7 : w119.cell? ⟨X, 7, none⟩ = some (.slice pa118 xa.after.length ca118) := P119.blk.cell (j := 7) rfl
  have z8 : w119.cell? ⟨X, 8, none⟩ = some (.int .i64 (xa.next)) := P119.blk.cell (j := 8) rfl
  have z9 : w119.cell? ⟨X, 9, none⟩ = some (.slice pr118 xa.rows.length cr118) := P119.blk.cell (j := 9) rfl
  have z10 : w119.cell? ⟨X, 10, none⟩ = some (.slice pd118 xa.dirty.length cd118) := P119.blk.cell (j := 10) rfl
  have hsrc := src_rcd (P := Try.prog) w119 38 26 Try.underlying38 [.int .i64 (xa.kind), .int .i64 (xa.birth), .int .i64 (xa.prev), .int .i64 (65), .int .i64 (xa.page), .int .i64 (xa.frm), .slice pb118 xa.before.length cb118, .slice pa118 xa.after.length ca118, .int .i64 (xa.next), .slice pr118 xa.rows.length cr118, .slice pd118 xa.dirty.length cd118] rfl (cl_one P119.see)
  go_upto_region 23 with (at_builtin; refine wpList_append_row rfl (.tmp 57) (.tmp 59) 38 rfl w1.heap.size 26 inf0 (.agg #[.int .i64 0, .int .i64 0, .int .i64 0, .int .i64 0, .int .i64 0, .int .i64 0, .slice none 0 0, .slice none 0 0, .int .i64 0, .slice none 0 0, .slice none 0 0]) 11 152 Try.underlying38 HI0.out.1 HI0.out.2.1 HI0.out.2.2.1 HI0.out.2.2.2 rfl _ 7 (pcells ys117) (by rfl) (P119.row.kept ((Kept.refl [] w119).alloc _) (by simp)) _ 1 [.int .i64 (xa.kind), .int .i64 (xa.birth), .int .i64 (xa.prev), .int .i64 (65), .int .i64 (xa.page), .int .i64 (xa.frm), .slice pb118 xa.before.length cb118, .slice pa118 xa.after.length ca118, .int .i64 (xa.next), .slice pr118 xa.rows.length cr118, .slice pd118 xa.dirty.length cd118] (by rfl) hsrc (by omega) (by unfold maxLen; omega) (by omega) (by have := P119.kept.size; rw [World.size_alloc]; omega) ?_; intro v120 w120 r120 k120 at120; obtain ⟨pv120, cv120, ys120, hv120, P120⟩ := P119.push (bad_iA HR.out) (show 7 + 1 = 8 from rfl) ((Kept.refl [] w119).alloc _) r120 k120 at120; subst hv120)
  clear hsrc r120 k120 at120 P119 z0 z1 z2 z3 z4 z5 z6 z7 z8 z9 z10
  have c0 := P120.kept.cell (HBX.out.cell (j := 0) rfl) (by simp)
  have c1 := P120.kept.cell (HBX.out.cell (j := 1) rfl) (by simp)
  have c2 := P120.kept.cell (HBX.out.cell (j := 2) rfl) (by simp)
  have c3 := P120.kept.cell (HBX.out.cell (j := 3) rfl) (by simp)
  have c4 := P120.kept.cell (HBX.out.cell (j := 4) rfl) (by simp)
  have c5 := P120.kept.cell (HBX.out.cell (j := 5) rfl) (by simp)
  have c6 := P120.kept.cell (HBX.out.cell (j := 6) rfl) (by simp)
  have c7 := P120.kept.cell (HBX.out.cell (j := 7) rfl) (by simp)
  have c8 := P120.kept.cell (HBX.out.cell (j := 8) rfl) (by simp)
  have c9 := P120.kept.cell (HBX.out.cell (j := 9) rfl) (by simp)
  have c10 := P120.kept.cell (HBX.out.cell (j := 10) rfl) (by simp)
  go_wp2_with fail
  refine (hCp _ P120.kept).mono ?_
  rintro e q121 ⟨V121, rfl, hO121, kq121⟩
  obtain ⟨pb121, cb121, pa121, ca121, pr121, cr121, pd121, cd121, hV121⟩ := hO121.see.shapes
  subst hV121
  dsimp only
  have bq := P120.blk.kept kq121 (by simp)
  have z0 : q121.cell? ⟨X, 0, none⟩ = some (.int .i64 (xa.kind)) := bq.cell (j := 0) rfl
  have z1 : q121.cell? ⟨X, 1, none⟩ = some (.int .i64 (xa.birth)) := bq.cell (j := 1) rfl
  have z2 : q121.cell? ⟨X, 2, none⟩ = some (.int .i64 (xa.prev)) := bq.cell (j := 2) rfl
  have z3 : q121.cell? ⟨X, 3, none⟩ = some (.int .i64 (65)) := bq.cell (j := 3) rfl
  have z4 : q121.cell? ⟨X, 4, none⟩ = some (.int .i64 (xa.page)) := bq.cell (j := 4) rfl
  have z5 : q121.cell? ⟨X, 5, none⟩ = some (.int .i64 (xa.frm)) := bq.cell (j := 5) rfl
  have z6 : q121.cell? ⟨X, 6, none⟩ = some (.slice pb118 xa.before.length cb118) := bq.cell (j := 6) rfl
  have z7 : q121.cell? ⟨X, 7, none⟩ = some (.slice pa118 xa.after.length ca118) := bq.cell (j := 7) rfl
  have z8 : q121.cell? ⟨X, 8, none⟩ = some (.int .i64 (xa.next)) := bq.cell (j := 8) rfl
  have z9 : q121.cell? ⟨X, 9, none⟩ = some (.slice pr118 xa.rows.length cr118) := bq.cell (j := 9) rfl
  have z10 : q121.cell? ⟨X, 10, none⟩ = some (.slice pd118 xa.dirty.length cd118) := bq.cell (j := 10) rfl
  have t0 := bq.free 0
  have t1 := bq.free 1
  have t2 := bq.free 2
  have t3 := bq.free 3
  have t4 := bq.free 4
  have t5 := bq.free 5
  have t6 := bq.free 6
  have t7 := bq.free 7
  have t8 := bq.free 8
  have t9 := bq.free 9
  have t10 := bq.free 10
  obtain ⟨bF, kF⟩ := Blk.fill11 (show Blk q121 X 26 [.int .i64 (xa.kind), .int .i64 (xa.birth), .int .i64 (xa.prev), .int .i64 (65), .int .i64 (xa.page), .int .i64 (xa.frm), .slice pb118 xa.before.length cb118, .slice pa118 xa.after.length ca118, .int .i64 (xa.next), .slice pr118 xa.rows.length cr118, .slice pd118 xa.dirty.length cd118] from bq) (.int .i64 (xa.kind)) (.int .i64 (xa.birth)) (.int .i64 (xa.prev)) (.int .i64 (xa.id)) (.int .i64 (xa.page)) (.int .i64 (xa.frm)) (.slice pb121 xa.before.length cb121) (.slice pa121 xa.after.length ca121) (.int .i64 (xa.next)) (.slice pr121 xa.rows.length cr121) (.slice pd121 xa.dirty.length cd121)
  obtain ⟨w121, hw121⟩ : ∃ wx, wx = (((((((((((q121.setCell ⟨X, 0, none⟩ (.int .i64 (xa.kind))).setCell ⟨X, 1, none⟩ (.int .i64 (xa.birth))).setCell ⟨X, 2, none⟩ (.int .i64 (xa.prev))).setCell ⟨X, 3, none⟩ (.int .i64 (xa.id))).setCell ⟨X, 4, none⟩ (.int .i64 (xa.page))).setCell ⟨X, 5, none⟩ (.int .i64 (xa.frm))).setCell ⟨X, 6, none⟩ (.slice pb121 xa.before.length cb121)).setCell ⟨X, 7, none⟩ (.slice pa121 xa.after.length ca121)).setCell ⟨X, 8, none⟩ (.int .i64 (xa.next))).setCell ⟨X, 9, none⟩ (.slice pr121 xa.rows.length cr121)).setCell ⟨X, 10, none⟩ (.slice pd121 xa.dirty.length cd121)) := ⟨_, rfl⟩
  rw [← hw121] at bF kF
  have HB121 : w120.heap.size ≤ w121.heap.size := Nat.le_trans kq121.size kF.size
  obtain ⟨P121, OW121, FR121⟩ := P120.copy (r := xa) (V := (⟨.slice pb121 xa.before.length cb121, .slice pa121 xa.after.length ca121, .slice pr121 xa.rows.length cr121, .slice pd121 xa.dirty.length cd121⟩ : RV)) kq121 hO121 bF kF
  go_upto_region 24 with fail
  rw [← hw121]
  clear hw121 bq bF kF hO121 kq121 P120 z0 t0 c0 z1 t1 c1 z2 t2 c2 z3 t3 c3 z4 t4 c4 z5 t5 c5 z6 t6 c6 z7 t7 c7 z8 t8 c8 z9 t9 c9 z10 t10 c10
  clear OW118 FR118 HB118
  have z4 : w121.cell? ⟨X, 4, none⟩ = some (.int .i64 (xa.page)) := P121.blk.cell (j := 4) rfl
  have t4 := P121.blk.free 4
  have P122 := P121.set 4 (16) (⟨(xa.kind), (xa.birth), (xa.prev), (xa.id), (16), (xa.frm), xa.before, xa.after, (xa.next), xa.rows, xa.dirty⟩ : Rcd) rfl ⟨rfl, rfl, rfl, rfl⟩
  obtain ⟨w122, hw122⟩ : ∃ wx, wx = w121.setCell ⟨X, 4, none⟩ (.int .i64 (16)) := ⟨_, rfl⟩
  rw [← hw122] at P122
  go_upto_region 25 with fail
  rw [← hw122]
  clear hw122 z4 t4 P121 
  have z0 : w122.cell? ⟨X, 0, none⟩ = some (.int .i64 (xa.kind)) := P122.blk.cell (j := 0) rfl
  have z1 : w122.cell? ⟨X, 1, none⟩ = some (.int .i64 (xa.birth)) := P122.blk.cell (j := 1) rfl
  have z2 : w122.cell? ⟨X, 2, none⟩ = some (.int .i64 (xa.prev)) := P122.blk.cell (j := 2) rfl
  have z3 : w122.cell? ⟨X, 3, none⟩ = some (.int .i64 (xa.id)) := P122.blk.cell (j := 3) rfl
  have z4 : w122.cell? ⟨X, 4, none⟩ = some (.int .i64 (16)) := P122.blk.cell (j := 4) rfl
  have z5 : w122.cell? ⟨X, 5, none⟩ = some (.int .i64 (xa.frm)) := P122.blk.cell (j := 5) rfl
  have z6 : w122.cell? ⟨X, 6, none⟩ = some (.slice pb121 xa.before.length cb121) := P122.blk.cell (j := 6) rfl
  have z7 : w122.cell? ⟨X, 7, none⟩ = some (.slice pa121 xa.after.length ca121) := P122.blk.cell (j := 7) rfl
  have z8 : w122.cell? ⟨X, 8, none⟩ = some (.int .i64 (xa.next)) := P122.blk.cell (j := 8) rfl
  have z9 : w122.cell? ⟨X, 9, none⟩ = some (.slice pr121 xa.rows.length cr121) := P122.blk.cell (j := 9) rfl
  have z10 : w122.cell? ⟨X, 10, none⟩ = some (.slice pd121 xa.dirty.length cd121) := P122.blk.cell (j := 10) rfl
  have hsrc := src_rcd (P := Try.prog) w122 38 26 Try.underlying38 [.int .i64 (xa.kind), .int .i64 (xa.birth), .int .i64 (xa.prev), .int .i64 (xa.id), .int .i64 (16), .int .i64 (xa.frm), .slice pb121 xa.before.length cb121, .slice pa121 xa.after.length ca121, .int .i64 (xa.next), .slice pr121 xa.rows.length cr121, .slice pd121 xa.dirty.length cd121] rfl (cl_one P122.see)
  go_upto_region 26 with (at_builtin; refine wpList_append_row rfl (.tmp 64) (.tmp 66) 38 rfl w1.heap.size 26 inf0 (.agg #[.int .i64 0, .int .i64 0, .int .i64 0, .int .i64 0, .int .i64 0, .int .i64 0, .slice none 0 0, .slice none 0 0, .int .i64 0, .slice none 0 0, .slice none 0 0]) 11 152 Try.underlying38 HI0.out.1 HI0.out.2.1 HI0.out.2.2.1 HI0.out.2.2.2 rfl _ 8 (pcells ys120) (by rfl) (P122.row.kept ((Kept.refl [] w122).alloc _) (by simp)) _ 1 [.int .i64 (xa.kind), .int .i64 (xa.birth), .int .i64 (xa.prev), .int .i64 (xa.id), .int .i64 (16), .int .i64 (xa.frm), .slice pb121 xa.before.length cb121, .slice pa121 xa.after.length ca121, .int .i64 (xa.next), .slice pr121 xa.rows.length cr121, .slice pd121 xa.dirty.length cd121] (by rfl) hsrc (by omega) (by unfold maxLen; omega) (by omega) (by have := P122.kept.size; rw [World.size_alloc]; omega) ?_; intro v123 w123 r123 k123 at123; obtain ⟨pv123, cv123, ys123, hv123, P123⟩ := P122.push (bad_gA HR.out) (show 8 + 1 = 9 from rfl) ((Kept.refl [] w122).alloc _) r123 k123 at123; subst hv123)
  clear hsrc r123 k123 at123 P122 z0 z1 z2 z3 z4 z5 z6 z7 z8 z9 z10
  have c0 := P123.kept.cell (HBX.out.cell (j := 0) rfl) (by simp)
  have c1 := P123.kept.cell (HBX.out.cell (j := 1) rfl) (by simp)
  have c2 := P123.kept.cell (HBX.out.cell (j := 2) rfl) (by simp)
  have c3 := P123.kept.cell (HBX.out.cell (j := 3) rfl) (by simp)
  have c4 := P123.kept.cell (HBX.out.cell (j := 4) rfl) (by simp)
  have c5 := P123.kept.cell (HBX.out.cell (j := 5) rfl) (by simp)
  have c6 := P123.kept.cell (HBX.out.cell (j := 6) rfl) (by simp)
  have c7 := P123.kept.cell (HBX.out.cell (j := 7) rfl) (by simp)
  have c8 := P123.kept.cell (HBX.out.cell (j := 8) rfl) (by simp)
  have c9 := P123.kept.cell (HBX.out.cell (j := 9) rfl) (by simp)
  have c10 := P123.kept.cell (HBX.out.cell (j := 10) rfl) (by simp)
  go_wp2_with fail
  refine (hCp _ P123.kept).mono ?_
  rintro e q124 ⟨V124, rfl, hO124, kq124⟩
  obtain ⟨pb124, cb124, pa124, ca124, pr124, cr124, pd124, cd124, hV124⟩ := hO124.see.shapes
  subst hV124
  dsimp only
  have bq := P123.blk.kept kq124 (by simp)
  have z0 : q124.cell? ⟨X, 0, none⟩ = some (.int .i64 (xa.kind)) := bq.cell (j := 0) rfl
  have z1 : q124.cell? ⟨X, 1, none⟩ = some (.int .i64 (xa.birth)) := bq.cell (j := 1) rfl
  have z2 : q124.cell? ⟨X, 2, none⟩ = some (.int .i64 (xa.prev)) := bq.cell (j := 2) rfl
  have z3 : q124.cell? ⟨X, 3, none⟩ = some (.int .i64 (xa.id)) := bq.cell (j := 3) rfl
  have z4 : q124.cell? ⟨X, 4, none⟩ = some (.int .i64 (16)) := bq.cell (j := 4) rfl
  have z5 : q124.cell? ⟨X, 5, none⟩ = some (.int .i64 (xa.frm)) := bq.cell (j := 5) rfl
  have z6 : q124.cell? ⟨X, 6, none⟩ = some (.slice pb121 xa.before.length cb121) := bq.cell (j := 6) rfl
  have z7 : q124.cell? ⟨X, 7, none⟩ = some (.slice pa121 xa.after.length ca121) := bq.cell (j := 7) rfl
  have z8 : q124.cell? ⟨X, 8, none⟩ = some (.int .i64 (xa.next)) := bq.cell (j := 8) rfl
  have z9 : q124.cell? ⟨X, 9, none⟩ = some (.slice pr121 xa.rows.length cr121) := bq.cell (j := 9) rfl
  have z10 : q124.cell? ⟨X, 10, none⟩ = some (.slice pd121 xa.dirty.length cd121) := bq.cell (j := 10) rfl
  have t0 := bq.free 0
  have t1 := bq.free 1
  have t2 := bq.free 2
  have t3 := bq.free 3
  have t4 := bq.free 4
  have t5 := bq.free 5
  have t6 := bq.free 6
  have t7 := bq.free 7
  have t8 := bq.free 8
  have t9 := bq.free 9
  have t10 := bq.free 10
  obtain ⟨bF, kF⟩ := Blk.fill11 (show Blk q124 X 26 [.int .i64 (xa.kind), .int .i64 (xa.birth), .int .i64 (xa.prev), .int .i64 (xa.id), .int .i64 (16), .int .i64 (xa.frm), .slice pb121 xa.before.length cb121, .slice pa121 xa.after.length ca121, .int .i64 (xa.next), .slice pr121 xa.rows.length cr121, .slice pd121 xa.dirty.length cd121] from bq) (.int .i64 (xa.kind)) (.int .i64 (xa.birth)) (.int .i64 (xa.prev)) (.int .i64 (xa.id)) (.int .i64 (xa.page)) (.int .i64 (xa.frm)) (.slice pb124 xa.before.length cb124) (.slice pa124 xa.after.length ca124) (.int .i64 (xa.next)) (.slice pr124 xa.rows.length cr124) (.slice pd124 xa.dirty.length cd124)
  obtain ⟨w124, hw124⟩ : ∃ wx, wx = (((((((((((q124.setCell ⟨X, 0, none⟩ (.int .i64 (xa.kind))).setCell ⟨X, 1, none⟩ (.int .i64 (xa.birth))).setCell ⟨X, 2, none⟩ (.int .i64 (xa.prev))).setCell ⟨X, 3, none⟩ (.int .i64 (xa.id))).setCell ⟨X, 4, none⟩ (.int .i64 (xa.page))).setCell ⟨X, 5, none⟩ (.int .i64 (xa.frm))).setCell ⟨X, 6, none⟩ (.slice pb124 xa.before.length cb124)).setCell ⟨X, 7, none⟩ (.slice pa124 xa.after.length ca124)).setCell ⟨X, 8, none⟩ (.int .i64 (xa.next))).setCell ⟨X, 9, none⟩ (.slice pr124 xa.rows.length cr124)).setCell ⟨X, 10, none⟩ (.slice pd124 xa.dirty.length cd124)) := ⟨_, rfl⟩
  rw [← hw124] at bF kF
  have HB124 : w123.heap.size ≤ w124.heap.size := Nat.le_trans kq124.size kF.size
  obtain ⟨P124, OW124, FR124⟩ := P123.copy (r := xa) (V := (⟨.slice pb124 xa.before.length cb124, .slice pa124 xa.after.length ca124, .slice pr124 xa.rows.length cr124, .slice pd124 xa.dirty.length cd124⟩ : RV)) kq124 hO124 bF kF
  go_upto_region 27 with fail
  rw [← hw124]
  clear hw124 bq bF kF hO124 kq124 P123 z0 t0 c0 z1 t1 c1 z2 t2 c2 z3 t3 c3 z4 t4 c4 z5 t5 c5 z6 t6 c6 z7 t7 c7 z8 t8 c8 z9 t9 c9 z10 t10 c10
  clear OW121 FR121 HB121
  have z5 : w124.cell? ⟨X, 5, none⟩ = some (.int .i64 (xa.frm)) := P124.blk.cell (j := 5) rfl
  have t5 := P124.blk.free 5
  have P125 := P124.set 5 (145) (⟨(xa.kind), (xa.birth), (xa.prev), (xa.id), (xa.page), (145), xa.before, xa.after, (xa.next), xa.rows, xa.dirty⟩ : Rcd) rfl ⟨rfl, rfl, rfl, rfl⟩
  obtain ⟨w125, hw125⟩ : ∃ wx, wx = w124.setCell ⟨X, 5, none⟩ (.int .i64 (145)) := ⟨_, rfl⟩
  rw [← hw125] at P125
  go_upto_region 28 with fail
  rw [← hw125]
  clear hw125 z5 t5 P124 
  have z0 : w125.cell? ⟨X, 0, none⟩ = some (.int .i64 (xa.kind)) := P125.blk.cell (j := 0) rfl
  have z1 : w125.cell? ⟨X, 1, none⟩ = some (.int .i64 (xa.birth)) := P125.blk.cell (j := 1) rfl
  have z2 : w125.cell? ⟨X, 2, none⟩ = some (.int .i64 (xa.prev)) := P125.blk.cell (j := 2) rfl
  have z3 : w125.cell? ⟨X, 3, none⟩ = some (.int .i64 (xa.id)) := P125.blk.cell (j := 3) rfl
  have z4 : w125.cell? ⟨X, 4, none⟩ = some (.int .i64 (xa.page)) := P125.blk.cell (j := 4) rfl
  have z5 : w125.cell? ⟨X, 5, none⟩ = some (.int .i64 (145)) := P125.blk.cell (j := 5) rfl
  have z6 : w125.cell? ⟨X, 6, none⟩ = some (.slice pb124 xa.before.length cb124) := P125.blk.cell (j := 6) rfl
  have z7 : w125.cell? ⟨X, 7, none⟩ = some (.slice pa124 xa.after.length ca124) := P125.blk.cell (j := 7) rfl
  have z8 : w125.cell? ⟨X, 8, none⟩ = some (.int .i64 (xa.next)) := P125.blk.cell (j := 8) rfl
  have z9 : w125.cell? ⟨X, 9, none⟩ = some (.slice pr124 xa.rows.length cr124) := P125.blk.cell (j := 9) rfl
  have z10 : w125.cell? ⟨X, 10, none⟩ = some (.slice pd124 xa.dirty.length cd124) := P125.blk.cell (j := 10) rfl
  have hsrc := src_rcd (P := Try.prog) w125 38 26 Try.underlying38 [.int .i64 (xa.kind), .int .i64 (xa.birth), .int .i64 (xa.prev), .int .i64 (xa.id), .int .i64 (xa.page), .int .i64 (145), .slice pb124 xa.before.length cb124, .slice pa124 xa.after.length ca124, .int .i64 (xa.next), .slice pr124 xa.rows.length cr124, .slice pd124 xa.dirty.length cd124] rfl (cl_one P125.see)
  go_upto_region 29 with (at_builtin; refine wpList_append_row rfl (.tmp 71) (.tmp 73) 38 rfl w1.heap.size 26 inf0 (.agg #[.int .i64 0, .int .i64 0, .int .i64 0, .int .i64 0, .int .i64 0, .int .i64 0, .slice none 0 0, .slice none 0 0, .int .i64 0, .slice none 0 0, .slice none 0 0]) 11 152 Try.underlying38 HI0.out.1 HI0.out.2.1 HI0.out.2.2.1 HI0.out.2.2.2 rfl _ 9 (pcells ys123) (by rfl) (P125.row.kept ((Kept.refl [] w125).alloc _) (by simp)) _ 1 [.int .i64 (xa.kind), .int .i64 (xa.birth), .int .i64 (xa.prev), .int .i64 (xa.id), .int .i64 (xa.page), .int .i64 (145), .slice pb124 xa.before.length cb124, .slice pa124 xa.after.length ca124, .int .i64 (xa.next), .slice pr124 xa.rows.length cr124, .slice pd124 xa.dirty.length cd124] (by rfl) hsrc (by omega) (by unfold maxLen; omega) (by omega) (by have := P125.kept.size; rw [World.size_alloc]; omega) ?_; intro v126 w126 r126 k126 at126; obtain ⟨pv126, cv126, ys126, hv126, P126⟩ := P125.push (bad_fA HR.out) (show 9 + 1 = 10 from rfl) ((Kept.refl [] w125).alloc _) r126 k126 at126; subst hv126)
  clear hsrc r126 k126 at126 P125 z0 z1 z2 z3 z4 z5 z6 z7 z8 z9 z10
  have z5 : w126.cell? ⟨X, 5, none⟩ = some (.int .i64 (145)) := P126.blk.cell (j := 5) rfl
  have t5 := P126.blk.free 5
  have P127 := P126.set 5 (4611686018427387904) (⟨(xa.kind), (xa.birth), (xa.prev), (xa.id), (xa.page), (4611686018427387904), xa.before, xa.after, (xa.next), xa.rows, xa.dirty⟩ : Rcd) rfl ⟨rfl, rfl, rfl, rfl⟩
  obtain ⟨w127, hw127⟩ : ∃ wx, wx = w126.setCell ⟨X, 5, none⟩ (.int .i64 (4611686018427387904)) := ⟨_, rfl⟩
  rw [← hw127] at P127
  go_upto_region 30 with fail
  rw [← hw127]
  clear hw127 z5 t5 P126 
  have z0 : w127.cell? ⟨X, 0, none⟩ = some (.int .i64 (xa.kind)) := P127.blk.cell (j := 0) rfl
  have z1 : w127.cell? ⟨X, 1, none⟩ = some (.int .i64 (xa.birth)) := P127.blk.cell (j := 1) rfl
  have z2 : w127.cell? ⟨X, 2, none⟩ = some (.int .i64 (xa.prev)) := P127.blk.cell (j := 2) rfl
  have z3 : w127.cell? ⟨X, 3, none⟩ = some (.int .i64 (xa.id)) := P127.blk.cell (j := 3) rfl
  have z4 : w127.cell? ⟨X, 4, none⟩ = some (.int .i64 (xa.page)) := P127.blk.cell (j := 4) rfl
  have z5 : w127.cell? ⟨X, 5, none⟩ = some (.int .i64 (4611686018427387904)) := P127.blk.cell (j := 5) rfl
  have z6 : w127.cell? ⟨X, 6, none⟩ = some (.slice pb124 xa.before.length cb124) := P127.blk.cell (j := 6) rfl
  have z7 : w127.cell? ⟨X, 7, none⟩ = some (.slice pa124 xa.after.length ca124) := P127.blk.cell (j := 7) rfl
  have z8 : w127.cell? ⟨X, 8, none⟩ = some (.int .i64 (xa.next)) := P127.blk.cell (j := 8) rfl
  have z9 : w127.cell? ⟨X, 9, none⟩ = some (.slice pr124 xa.rows.length cr124) := P127.blk.cell (j := 9) rfl
  have z10 : w127.cell? ⟨X, 10, none⟩ = some (.slice pd124 xa.dirty.length cd124) := P127.blk.cell (j := 10) rfl
  have hsrc := src_rcd (P := Try.prog) w127 38 26 Try.underlying38 [.int .i64 (xa.kind), .int .i64 (xa.birth), .int .i64 (xa.prev), .int .i64 (xa.id), .int .i64 (xa.page), .int .i64 (4611686018427387904), .slice pb124 xa.before.length cb124, .slice pa124 xa.after.length ca124, .int .i64 (xa.next), .slice pr124 xa.rows.length cr124, .slice pd124 xa.dirty.length cd124] rfl (cl_one P127.see)
  go_upto_region 31 with (at_builtin; refine wpList_append_row rfl (.tmp 76) (.tmp 78) 38 rfl w1.heap.size 26 inf0 (.agg #[.int .i64 0, .int .i64 0, .int .i64 0, .int .i64 0, .int .i64 0, .int .i64 0, .slice none 0 0, .slice none 0 0, .int .i64 0, .slice none 0 0, .slice none 0 0]) 11 152 Try.underlying38 HI0.out.1 HI0.out.2.1 HI0.out.2.2.1 HI0.out.2.2.2 rfl _ 10 (pcells ys126) (by rfl) (P127.row.kept ((Kept.refl [] w127).alloc _) (by simp)) _ 1 [.int .i64 (xa.kind), .int .i64 (xa.birth), .int .i64 (xa.prev), .int .i64 (xa.id), .int .i64 (xa.page), .int .i64 (4611686018427387904), .slice pb124 xa.before.length cb124, .slice pa124 xa.after.length ca124, .int .i64 (xa.next), .slice pr124 xa.rows.length cr124, .slice pd124 xa.dirty.length cd124] (by rfl) hsrc (by omega) (by unfold maxLen; omega) (by omega) (by have := P127.kept.size; rw [World.size_alloc]; omega) ?_; intro v128 w128 r128 k128 at128; obtain ⟨pv128, cv128, ys128, hv128, P128⟩ := P127.push (bad_fB HR.out) (show 10 + 1 = 11 from rfl) ((Kept.refl [] w127).alloc _) r128 k128 at128; subst hv128)
  clear hsrc r128 k128 at128 P127 z0 z1 z2 z3 z4 z5 z6 z7 z8 z9 z10
  have c0 := P128.kept.cell (HBX.out.cell (j := 0) rfl) (by simp)
  have c1 := P128.kept.cell (HBX.out.cell (j := 1) rfl) (by simp)
  have c2 := P128.kept.cell (HBX.out.cell (j := 2) rfl) (by simp)
  have c3 := P128.kept.cell (HBX.out.cell (j := 3) rfl) (by simp)
  have c4 := P128.kept.cell (HBX.out.cell (j := 4) rfl) (by simp)
  have c5 := P128.kept.cell (HBX.out.cell (j := 5) rfl) (by simp)
  have c6 := P128.kept.cell (HBX.out.cell (j := 6) rfl) (by simp)
  have c7 := P128.kept.cell (HBX.out.cell (j := 7) rfl) (by simp)
  have c8 := P128.kept.cell (HBX.out.cell (j := 8) rfl) (by simp)
  have c9 := P128.kept.cell (HBX.out.cell (j := 9) rfl) (by simp)
  have c10 := P128.kept.cell (HBX.out.cell (j := 10) rfl) (by simp)
  go_wp2_with fail
  refine (hCp _ P128.kept).mono ?_
  rintro e q129 ⟨V129, rfl, hO129, kq129⟩
  obtain ⟨pb129, cb129, pa129, ca129, pr129, cr129, pd129, cd129, hV129⟩ := hO129.see.shapes
  subst hV129
  dsimp only
  have bq := P128.blk.kept kq129 (by simp)
  have z0 : q129.cell? ⟨X, 0, none⟩ = some (.int .i64 (xa.kind)) := bq.cell (j := 0) rfl
  have z1 : q129.cell? ⟨X, 1, none⟩ = some (.int .i64 (xa.birth)) := bq.cell (j := 1) rfl
  have z2 : q129.cell? ⟨X, 2, none⟩ = some (.int .i64 (xa.prev)) := bq.cell (j := 2) rfl
  have z3 : q129.cell? ⟨X, 3, none⟩ = some (.int .i64 (xa.id)) := bq.cell (j := 3) rfl
  have z4 : q129.cell? ⟨X, 4, none⟩ = some (.int .i64 (xa.page)) := bq.cell (j := 4) rfl
  have z5 : q129.cell? ⟨X, 5, none⟩ = some (.int .i64 (4611686018427387904)) := bq.cell (j := 5) rfl
  have z6 : q129.cell? ⟨X, 6, none⟩ = some (.slice pb124 xa.before.length cb124) := bq.cell (j := 6) rfl
  have z7 : q129.cell? ⟨X, 7, none⟩ = some (.slice pa124 xa.after.length ca124) := bq.cell (j := 7) rfl
  have z8 : q129.cell? ⟨X, 8, none⟩ = some (.int .i64 (xa.next)) := bq.cell (j := 8) rfl
  have z9 : q129.cell? ⟨X, 9, none⟩ = some (.slice pr124 xa.rows.length cr124) := bq.cell (j := 9) rfl
  have z10 : q129.cell? ⟨X, 10, none⟩ = some (.slice pd124 xa.dirty.length cd124) := bq.cell (j := 10) rfl
  have t0 := bq.free 0
  have t1 := bq.free 1
  have t2 := bq.free 2
  have t3 := bq.free 3
  have t4 := bq.free 4
  have t5 := bq.free 5
  have t6 := bq.free 6
  have t7 := bq.free 7
  have t8 := bq.free 8
  have t9 := bq.free 9
  have t10 := bq.free 10
  obtain ⟨bF, kF⟩ := Blk.fill11 (show Blk q129 X 26 [.int .i64 (xa.kind), .int .i64 (xa.birth), .int .i64 (xa.prev), .int .i64 (xa.id), .int .i64 (xa.page), .int .i64 (4611686018427387904), .slice pb124 xa.before.length cb124, .slice pa124 xa.after.length ca124, .int .i64 (xa.next), .slice pr124 xa.rows.length cr124, .slice pd124 xa.dirty.length cd124] from bq) (.int .i64 (xa.kind)) (.int .i64 (xa.birth)) (.int .i64 (xa.prev)) (.int .i64 (xa.id)) (.int .i64 (xa.page)) (.int .i64 (xa.frm)) (.slice pb129 xa.before.length cb129) (.slice pa129 xa.after.length ca129) (.int .i64 (xa.next)) (.slice pr129 xa.rows.length cr129) (.slice pd129 xa.dirty.length cd129)
  obtain ⟨w129, hw129⟩ : ∃ wx, wx = (((((((((((q129.setCell ⟨X, 0, none⟩ (.int .i64 (xa.kind))).setCell ⟨X, 1, none⟩ (.int .i64 (xa.birth))).setCell ⟨X, 2, none⟩ (.int .i64 (xa.prev))).setCell ⟨X, 3, none⟩ (.int .i64 (xa.id))).setCell ⟨X, 4, none⟩ (.int .i64 (xa.page))).setCell ⟨X, 5, none⟩ (.int .i64 (xa.frm))).setCell ⟨X, 6, none⟩ (.slice pb129 xa.before.length cb129)).setCell ⟨X, 7, none⟩ (.slice pa129 xa.after.length ca129)).setCell ⟨X, 8, none⟩ (.int .i64 (xa.next))).setCell ⟨X, 9, none⟩ (.slice pr129 xa.rows.length cr129)).setCell ⟨X, 10, none⟩ (.slice pd129 xa.dirty.length cd129)) := ⟨_, rfl⟩
  rw [← hw129] at bF kF
  have HB129 : w128.heap.size ≤ w129.heap.size := Nat.le_trans kq129.size kF.size
  obtain ⟨P129, OW129, FR129⟩ := P128.copy (r := xa) (V := (⟨.slice pb129 xa.before.length cb129, .slice pa129 xa.after.length ca129, .slice pr129 xa.rows.length cr129, .slice pd129 xa.dirty.length cd129⟩ : RV)) kq129 hO129 bF kF
  go_upto_region 32 with fail
  rw [← hw129]
  clear hw129 bq bF kF hO129 kq129 P128 z0 t0 c0 z1 t1 c1 z2 t2 c2 z3 t3 c3 z4 t4 c4 z5 t5 c5 z6 t6 c6 z7 t7 c7 z8 t8 c8 z9 t9 c9 z10 t10 c10
  clear OW124 FR124 HB124
  have z6 : w129.cell? ⟨X, 6, none⟩ = some (.slice pb129 xa.before.length cb129) := P129.blk.cell (j := 6) rfl
  have t6 := P129.blk.free 6
  have hlit := Bs.litF w129 5 [1] #[.int .u8 1] (0, 0) (by rfl) (by simp [maxLen]) _ rfl
  have kl : Kept [] w129 (w129.alloc (.cells #[.int .u8 1] 5)) := (Kept.refl [] w129).alloc _
  have ol := own_of_kept OW129.before kl (by simp)
  go_upto_region 33 with (at_builtin; refine wpList_append_bs rfl (.tmp 83) (.tmp 84) 22 rfl _ 5 Try.underlying22 (by kernel_rfl) _ _ _ (by rfl) ol _ [1] (by rfl) hlit (by have := HLN.out; simp; omega) (by have e1 := HB129; rw [World.size_alloc]; omega) ?_; intro v130 y130 o130 g130 at130; obtain ⟨pz130, cz130, hv130⟩ : ∃ p c, v130 = .slice p (xa.before.length + 1) c := own_shape2 o130; obtain ⟨bq, P130⟩ := P129.appB (new := [1]) OW129 FR129 kl o130 g130; subst hv130; have z6' : y130.cell? ⟨X, 6, none⟩ = some (.slice pb129 xa.before.length cb129) := bq.cell (j := 6) rfl; have t6' := bq.free 6; obtain ⟨w130, hw130⟩ : ∃ wx, wx = y130.setCell ⟨X, 6, none⟩ (.slice pz130 (xa.before.length + 1) cz130) := ⟨_, rfl⟩; rw [← hw130] at P130)
  rw [← hw130]
  clear hw130 z6 t6 z6' t6' hlit kl ol o130 g130 at130 bq P129 OW129 FR129 HB129
  have z0 : w130.cell? ⟨X, 0, none⟩ = some (.int .i64 (xa.kind)) := P130.blk.cell (j := 0) rfl
  have z1 : w130.cell? ⟨X, 1, none⟩ = some (.int .i64 (xa.birth)) := P130.blk.cell (j := 1) rfl
  have z2 : w130.cell? ⟨X, 2, none⟩ = some (.int .i64 (xa.prev)) := P130.blk.cell (j := 2) rfl
  have z3 : w130.cell? ⟨X, 3, none⟩ = some (.int .i64 (xa.id)) := P130.blk.cell (j := 3) rfl
  have z4 : w130.cell? ⟨X, 4, none⟩ = some (.int .i64 (xa.page)) := P130.blk.cell (j := 4) rfl
  have z5 : w130.cell? ⟨X, 5, none⟩ = some (.int .i64 (xa.frm)) := P130.blk.cell (j := 5) rfl
  have z6 : w130.cell? ⟨X, 6, none⟩ = some (.slice pz130 (xa.before.length + 1) cz130) := P130.blk.cell (j := 6) rfl
  have z7 : w130.cell? ⟨X, 7, none⟩ = some (.slice pa129 xa.after.length ca129) := P130.blk.cell (j := 7) rfl
  have z8 : w130.cell? ⟨X, 8, none⟩ = some (.int .i64 (xa.next)) := P130.blk.cell (j := 8) rfl
  have z9 : w130.cell? ⟨X, 9, none⟩ = some (.slice pr129 xa.rows.length cr129) := P130.blk.cell (j := 9) rfl
  have z10 : w130.cell? ⟨X, 10, none⟩ = some (.slice pd129 xa.dirty.length cd129) := P130.blk.cell (j := 10) rfl
  have hsrc := src_rcd (P := Try.prog) w130 38 26 Try.underlying38 [.int .i64 (xa.kind), .int .i64 (xa.birth), .int .i64 (xa.prev), .int .i64 (xa.id), .int .i64 (xa.page), .int .i64 (xa.frm), .slice pz130 (xa.before.length + 1) cz130, .slice pa129 xa.after.length ca129, .int .i64 (xa.next), .slice pr129 xa.rows.length cr129, .slice pd129 xa.dirty.length cd129] rfl (cl_one P130.see)
  go_upto_region 34 with (at_builtin; refine wpList_append_row rfl (.tmp 87) (.tmp 89) 38 rfl w1.heap.size 26 inf0 (.agg #[.int .i64 0, .int .i64 0, .int .i64 0, .int .i64 0, .int .i64 0, .int .i64 0, .slice none 0 0, .slice none 0 0, .int .i64 0, .slice none 0 0, .slice none 0 0]) 11 152 Try.underlying38 HI0.out.1 HI0.out.2.1 HI0.out.2.2.1 HI0.out.2.2.2 rfl _ 11 (pcells ys128) (by rfl) (P130.row.kept ((Kept.refl [] w130).alloc _) (by simp)) _ 1 [.int .i64 (xa.kind), .int .i64 (xa.birth), .int .i64 (xa.prev), .int .i64 (xa.id), .int .i64 (xa.page), .int .i64 (xa.frm), .slice pz130 (xa.before.length + 1) cz130, .slice pa129 xa.after.length ca129, .int .i64 (xa.next), .slice pr129 xa.rows.length cr129, .slice pd129 xa.dirty.length cd129] (by rfl) hsrc (by omega) (by unfold maxLen; omega) (by omega) (by have := P130.kept.size; rw [World.size_alloc]; omega) ?_; intro v131 w131 r131 k131 at131; obtain ⟨pv131, cv131, ys131, hv131, P131⟩ := P130.push (bad_xA HR.out) (show 11 + 1 = 12 from rfl) ((Kept.refl [] w130).alloc _) r131 k131 at131; subst hv131)
  clear hsrc r131 k131 at131 P130 z0 z1 z2 z3 z4 z5 z6 z7 z8 z9 z10
  have c0 := P131.kept.cell (HBX.out.cell (j := 0) rfl) (by simp)
  have c1 := P131.kept.cell (HBX.out.cell (j := 1) rfl) (by simp)
  have c2 := P131.kept.cell (HBX.out.cell (j := 2) rfl) (by simp)
  have c3 := P131.kept.cell (HBX.out.cell (j := 3) rfl) (by simp)
  have c4 := P131.kept.cell (HBX.out.cell (j := 4) rfl) (by simp)
  have c5 := P131.kept.cell (HBX.out.cell (j := 5) rfl) (by simp)
  have c6 := P131.kept.cell (HBX.out.cell (j := 6) rfl) (by simp)
  have c7 := P131.kept.cell (HBX.out.cell (j := 7) rfl) (by simp)
  have c8 := P131.kept.cell (HBX.out.cell (j := 8) rfl) (by simp)
  have c9 := P131.kept.cell (HBX.out.cell (j := 9) rfl) (by simp)
  have c10 := P131.kept.cell (HBX.out.cell (j := 10) rfl) (by simp)
  go_wp2_with fail
  refine (hCp _ P131.kept).mono ?_
  rintro e q132 ⟨V132, rfl, hO132, kq132⟩
  obtain ⟨pb132, cb132, pa132, ca132, pr132, cr132, pd132, cd132, hV132⟩ := hO132.see.shapes
  subst hV132
  dsimp only
  have bq := P131.blk.kept kq132 (by simp)
  have z0 : q132.cell? ⟨X, 0, none⟩ = some (.int .i64 (xa.kind)) := bq.cell (j := 0) rfl
  have z1 : q132.cell? ⟨X, 1, none⟩ = some (.int .i64 (xa.birth)) := bq.cell (j := 1) rfl
  have z2 : q132.cell? ⟨X, 2, none⟩ = some (.int .i64 (xa.prev)) := bq.cell (j := 2) rfl
  have z3 : q132.cell? ⟨X, 3, none⟩ = some (.int .i64 (xa.id)) := bq.cell (j := 3) rfl
  have z4 : q132.cell? ⟨X, 4, none⟩ = some (.int .i64 (xa.page)) := bq.cell (j := 4) rfl
  have z5 : q132.cell? ⟨X, 5, none⟩ = some (.int .i64 (xa.frm)) := bq.cell (j := 5) rfl
  have z6 : q132.cell? ⟨X, 6, none⟩ = some (.slice pz130 (xa.before.length + 1) cz130) := bq.cell (j := 6) rfl
  have z7 : q132.cell? ⟨X, 7, none⟩ = some (.slice pa129 xa.after.length ca129) := bq.cell (j := 7) rfl
  have z8 : q132.cell? ⟨X, 8, none⟩ = some (.int .i64 (xa.next)) := bq.cell (j := 8) rfl
  have z9 : q132.cell? ⟨X, 9, none⟩ = some (.slice pr129 xa.rows.length cr129) := bq.cell (j := 9) rfl
  have z10 : q132.cell? ⟨X, 10, none⟩ = some (.slice pd129 xa.dirty.length cd129) := bq.cell (j := 10) rfl
  have t0 := bq.free 0
  have t1 := bq.free 1
  have t2 := bq.free 2
  have t3 := bq.free 3
  have t4 := bq.free 4
  have t5 := bq.free 5
  have t6 := bq.free 6
  have t7 := bq.free 7
  have t8 := bq.free 8
  have t9 := bq.free 9
  have t10 := bq.free 10
  obtain ⟨bF, kF⟩ := Blk.fill11 (show Blk q132 X 26 [.int .i64 (xa.kind), .int .i64 (xa.birth), .int .i64 (xa.prev), .int .i64 (xa.id), .int .i64 (xa.page), .int .i64 (xa.frm), .slice pz130 (xa.before.length + 1) cz130, .slice pa129 xa.after.length ca129, .int .i64 (xa.next), .slice pr129 xa.rows.length cr129, .slice pd129 xa.dirty.length cd129] from bq) (.int .i64 (xa.kind)) (.int .i64 (xa.birth)) (.int .i64 (xa.prev)) (.int .i64 (xa.id)) (.int .i64 (xa.page)) (.int .i64 (xa.frm)) (.slice pb132 xa.before.length cb132) (.slice pa132 xa.after.length ca132) (.int .i64 (xa.next)) (.slice pr132 xa.rows.length cr132) (.slice pd132 xa.dirty.length cd132)
  obtain ⟨w132, hw132⟩ : ∃ wx, wx = (((((((((((q132.setCell ⟨X, 0, none⟩ (.int .i64 (xa.kind))).setCell ⟨X, 1, none⟩ (.int .i64 (xa.birth))).setCell ⟨X, 2, none⟩ (.int .i64 (xa.prev))).setCell ⟨X, 3, none⟩ (.int .i64 (xa.id))).setCell ⟨X, 4, none⟩ (.int .i64 (xa.page))).setCell ⟨X, 5, none⟩ (.int .i64 (xa.frm))).setCell ⟨X, 6, none⟩ (.slice pb132 xa.before.length cb132)).setCell ⟨X, 7, none⟩ (.slice pa132 xa.after.length ca132)).setCell ⟨X, 8, none⟩ (.int .i64 (xa.next))).setCell ⟨X, 9, none⟩ (.slice pr132 xa.rows.length cr132)).setCell ⟨X, 10, none⟩ (.slice pd132 xa.dirty.length cd132)) := ⟨_, rfl⟩
  rw [← hw132] at bF kF
  have HB132 : w131.heap.size ≤ w132.heap.size := Nat.le_trans kq132.size kF.size
  obtain ⟨P132, OW132, FR132⟩ := P131.copy (r := xa) (V := (⟨.slice pb132 xa.before.length cb132, .slice pa132 xa.after.length ca132, .slice pr132 xa.rows.length cr132, .slice pd132 xa.dirty.length cd132⟩ : RV)) kq132 hO132 bF kF
  go_upto_region 35 with fail
  rw [← hw132]
  clear hw132 bq bF kF hO132 kq132 P131 z0 t0 c0 z1 t1 c1 z2 t2 c2 z3 t3 c3 z4 t4 c4 z5 t5 c5 z6 t6 c6 z7 t7 c7 z8 t8 c8 z9 t9 c9 z10 t10 c10
  have z7 : w132.cell? ⟨X, 7, none⟩ = some (.slice pa132 xa.after.length ca132) := P132.blk.cell (j := 7) rfl
  have t7 := P132.blk.free 7
  have hmk : ∀ u, (Instr.makeSlice 22 (.int .i64 129) (.int .i64 129)).run Try.prog u = .ok (.slice (some ⟨u.heap.size, 0, none⟩) 129 129) (u.alloc (.cells (madeCells #[.int .u8 0] 129) 5)) := fun u => run_make_bs (P := Try.prog) u 22 5 Try.underlying22 (by kernel_rfl) 129 129 (by omega) (by omega)
  obtain ⟨y133, hy133⟩ : ∃ wx, wx = w132.alloc (.cells (madeCells #[.int .u8 0] 129) 5) := ⟨_, rfl⟩
  have ky : Kept [] w132 y133 := by rw [hy133]; exact (Kept.refl [] w132).alloc _
  have om : y133.ownsRow w131.heap.size 5 1 (.slice (some ⟨w132.heap.size, 0, none⟩) 129 129) (List.replicate 129 (0 : UInt8)).length (u8s (List.replicate 129 0)) := by rw [List.length_replicate, hy133]; exact own_made w132 5 w131.heap.size 129 129 HB132 (Nat.le_refl _) (by unfold maxLen; omega)
  obtain ⟨bq, P133⟩ := P132.newA FR132 ky om
  have z7' : y133.cell? ⟨X, 7, none⟩ = some (.slice pa132 xa.after.length ca132) := bq.cell (j := 7) rfl
  have t7' := bq.free 7
  obtain ⟨w133, hw133⟩ : ∃ wx, wx = y133.setCell ⟨X, 7, none⟩ (.slice (some ⟨w132.heap.size, 0, none⟩) 129 129) := ⟨_, rfl⟩
  rw [← hw133] at P133
  have hmk2 := hmk w132
  rw [← hy133] at hmk2
  clear hmk hy133
  go_upto_region 36 with fail
  rw [← hw133]
  clear hw133 z7 t7 z7' t7' hmk2 ky om bq P132 OW132 FR132 HB132
  have z0 : w133.cell? ⟨X, 0, none⟩ = some (.int .i64 (xa.kind)) := P133.blk.cell (j := 0) rfl
  have z1 : w133.cell? ⟨X, 1, none⟩ = some (.int .i64 (xa.birth)) := P133.blk.cell (j := 1) rfl
  have z2 : w133.cell? ⟨X, 2, none⟩ = some (.int .i64 (xa.prev)) := P133.blk.cell (j := 2) rfl
  have z3 : w133.cell? ⟨X, 3, none⟩ = some (.int .i64 (xa.id)) := P133.blk.cell (j := 3) rfl
  have z4 : w133.cell? ⟨X, 4, none⟩ = some (.int .i64 (xa.page)) := P133.blk.cell (j := 4) rfl
  have z5 : w133.cell? ⟨X, 5, none⟩ = some (.int .i64 (xa.frm)) := P133.blk.cell (j := 5) rfl
  have z6 : w133.cell? ⟨X, 6, none⟩ = some (.slice pb132 xa.before.length cb132) := P133.blk.cell (j := 6) rfl
  have z7 : w133.cell? ⟨X, 7, none⟩ = some (.slice (some ⟨w132.heap.size, 0, none⟩) 129 129) := P133.blk.cell (j := 7) rfl
  have z8 : w133.cell? ⟨X, 8, none⟩ = some (.int .i64 (xa.next)) := P133.blk.cell (j := 8) rfl
  have z9 : w133.cell? ⟨X, 9, none⟩ = some (.slice pr132 xa.rows.length cr132) := P133.blk.cell (j := 9) rfl
  have z10 : w133.cell? ⟨X, 10, none⟩ = some (.slice pd132 xa.dirty.length cd132) := P133.blk.cell (j := 10) rfl
  have hsrc := src_rcd (P := Try.prog) w133 38 26 Try.underlying38 [.int .i64 (xa.kind), .int .i64 (xa.birth), .int .i64 (xa.prev), .int .i64 (xa.id), .int .i64 (xa.page), .int .i64 (xa.frm), .slice pb132 xa.before.length cb132, .slice (some ⟨w132.heap.size, 0, none⟩) 129 129, .int .i64 (xa.next), .slice pr132 xa.rows.length cr132, .slice pd132 xa.dirty.length cd132] rfl (cl_one P133.see)
  go_upto_region 37 with (at_builtin; refine wpList_append_row rfl (.tmp 95) (.tmp 97) 38 rfl w1.heap.size 26 inf0 (.agg #[.int .i64 0, .int .i64 0, .int .i64 0, .int .i64 0, .int .i64 0, .int .i64 0, .slice none 0 0, .slice none 0 0, .int .i64 0, .slice none 0 0, .slice none 0 0]) 11 152 Try.underlying38 HI0.out.1 HI0.out.2.1 HI0.out.2.2.1 HI0.out.2.2.2 rfl _ 12 (pcells ys131) (by rfl) (P133.row.kept ((Kept.refl [] w133).alloc _) (by simp)) _ 1 [.int .i64 (xa.kind), .int .i64 (xa.birth), .int .i64 (xa.prev), .int .i64 (xa.id), .int .i64 (xa.page), .int .i64 (xa.frm), .slice pb132 xa.before.length cb132, .slice (some ⟨w132.heap.size, 0, none⟩) 129 129, .int .i64 (xa.next), .slice pr132 xa.rows.length cr132, .slice pd132 xa.dirty.length cd132] (by rfl) hsrc (by omega) (by unfold maxLen; omega) (by omega) (by have := P133.kept.size; rw [World.size_alloc]; omega) ?_; intro v134 w134 r134 k134 at134; obtain ⟨pv134, cv134, ys134, hv134, P134⟩ := P133.push (bad_xB HR.out) (show 12 + 1 = 13 from rfl) ((Kept.refl [] w133).alloc _) r134 k134 at134; subst hv134)
  clear hsrc r134 k134 at134 P133 z0 z1 z2 z3 z4 z5 z6 z7 z8 z9 z10
  have wfD : IntKind.i64.wrap (145 - (xa.after.length : Int)) = 145 - (xa.after.length : Int) := wrap_i64_of (by have := HLN.out; omega) (by omega)
  have e2 : (xa.kind == 2) = true := by simp [H2.out]
  have HK := @hideH _ (show xa.kind = 2 ∨ xa.kind = 3 from .inl H2.out)
  have HPT := @hideH _ (show xa.before.length = xa.after.length ∧ 0 < xa.after.length from (by have q := HR.out; have h2 := H2.out; unfold Rcd.Right at q; simp [h2, rangedOk, partsOk] at q; omega))
  have c0 := P134.kept.cell (HBX.out.cell (j := 0) rfl) (by simp)
  have c1 := P134.kept.cell (HBX.out.cell (j := 1) rfl) (by simp)
  have c2 := P134.kept.cell (HBX.out.cell (j := 2) rfl) (by simp)
  have c3 := P134.kept.cell (HBX.out.cell (j := 3) rfl) (by simp)
  have c4 := P134.kept.cell (HBX.out.cell (j := 4) rfl) (by simp)
  have c5 := P134.kept.cell (HBX.out.cell (j := 5) rfl) (by simp)
  have c6 := P134.kept.cell (HBX.out.cell (j := 6) rfl) (by simp)
  have c7 := P134.kept.cell (HBX.out.cell (j := 7) rfl) (by simp)
  have c8 := P134.kept.cell (HBX.out.cell (j := 8) rfl) (by simp)
  have c9 := P134.kept.cell (HBX.out.cell (j := 9) rfl) (by simp)
  have c10 := P134.kept.cell (HBX.out.cell (j := 10) rfl) (by simp)
  go_wp2_with fail
  refine (hCp _ P134.kept).mono ?_
  rintro e q135 ⟨V135, rfl, hO135, kq135⟩
  obtain ⟨pb135, cb135, pa135, ca135, pr135, cr135, pd135, cd135, hV135⟩ := hO135.see.shapes
  subst hV135
  dsimp only
  have bq := P134.blk.kept kq135 (by simp)
  have z0 : q135.cell? ⟨X, 0, none⟩ = some (.int .i64 (xa.kind)) := bq.cell (j := 0) rfl
  have z1 : q135.cell? ⟨X, 1, none⟩ = some (.int .i64 (xa.birth)) := bq.cell (j := 1) rfl
  have z2 : q135.cell? ⟨X, 2, none⟩ = some (.int .i64 (xa.prev)) := bq.cell (j := 2) rfl
  have z3 : q135.cell? ⟨X, 3, none⟩ = some (.int .i64 (xa.id)) := bq.cell (j := 3) rfl
  have z4 : q135.cell? ⟨X, 4, none⟩ = some (.int .i64 (xa.page)) := bq.cell (j := 4) rfl
  have z5 : q135.cell? ⟨X, 5, none⟩ = some (.int .i64 (xa.frm)) := bq.cell (j := 5) rfl
  have z6 : q135.cell? ⟨X, 6, none⟩ = some (.slice pb132 xa.before.length cb132) := bq.cell (j := 6) rfl
  have z7 : q135.cell? ⟨X, 7, none⟩ = some (.slice (some ⟨w132.heap.size, 0, none⟩) 129 129) := bq.cell (j := 7) rfl
  have z8 : q135.cell? ⟨X, 8, none⟩ = some (.int .i64 (xa.next)) := bq.cell (j := 8) rfl
  have z9 : q135.cell? ⟨X, 9, none⟩ = some (.slice pr132 xa.rows.length cr132) := bq.cell (j := 9) rfl
  have z10 : q135.cell? ⟨X, 10, none⟩ = some (.slice pd132 xa.dirty.length cd132) := bq.cell (j := 10) rfl
  have t0 := bq.free 0
  have t1 := bq.free 1
  have t2 := bq.free 2
  have t3 := bq.free 3
  have t4 := bq.free 4
  have t5 := bq.free 5
  have t6 := bq.free 6
  have t7 := bq.free 7
  have t8 := bq.free 8
  have t9 := bq.free 9
  have t10 := bq.free 10
  obtain ⟨bF, kF⟩ := Blk.fill11 (show Blk q135 X 26 [.int .i64 (xa.kind), .int .i64 (xa.birth), .int .i64 (xa.prev), .int .i64 (xa.id), .int .i64 (xa.page), .int .i64 (xa.frm), .slice pb132 xa.before.length cb132, .slice (some ⟨w132.heap.size, 0, none⟩) 129 129, .int .i64 (xa.next), .slice pr132 xa.rows.length cr132, .slice pd132 xa.dirty.length cd132] from bq) (.int .i64 (xa.kind)) (.int .i64 (xa.birth)) (.int .i64 (xa.prev)) (.int .i64 (xa.id)) (.int .i64 (xa.page)) (.int .i64 (xa.frm)) (.slice pb135 xa.before.length cb135) (.slice pa135 xa.after.length ca135) (.int .i64 (xa.next)) (.slice pr135 xa.rows.length cr135) (.slice pd135 xa.dirty.length cd135)
  obtain ⟨w135, hw135⟩ : ∃ wx, wx = (((((((((((q135.setCell ⟨X, 0, none⟩ (.int .i64 (xa.kind))).setCell ⟨X, 1, none⟩ (.int .i64 (xa.birth))).setCell ⟨X, 2, none⟩ (.int .i64 (xa.prev))).setCell ⟨X, 3, none⟩ (.int .i64 (xa.id))).setCell ⟨X, 4, none⟩ (.int .i64 (xa.page))).setCell ⟨X, 5, none⟩ (.int .i64 (xa.frm))).setCell ⟨X, 6, none⟩ (.slice pb135 xa.before.length cb135)).setCell ⟨X, 7, none⟩ (.slice pa135 xa.after.length ca135)).setCell ⟨X, 8, none⟩ (.int .i64 (xa.next))).setCell ⟨X, 9, none⟩ (.slice pr135 xa.rows.length cr135)).setCell ⟨X, 10, none⟩ (.slice pd135 xa.dirty.length cd135)) := ⟨_, rfl⟩
  rw [← hw135] at bF kF
  have HB135 : w134.heap.size ≤ w135.heap.size := Nat.le_trans kq135.size kF.size
  obtain ⟨P135, OW135, FR135⟩ := P134.copy (r := xa) (V := (⟨.slice pb135 xa.before.length cb135, .slice pa135 xa.after.length ca135, .slice pr135 xa.rows.length cr135, .slice pd135 xa.dirty.length cd135⟩ : RV)) kq135 hO135 bF kF
  go_upto_region 39 with fail
  rw [← hw135]
  clear hw135 bq bF kF hO135 kq135 P134 z0 t0 c0 z1 t1 c1 z2 t2 c2 z3 t3 c3 z4 t4 c4 z5 t5 c5 z6 t6 c6 z7 t7 c7 z8 t8 c8 z9 t9 c9 z10 t10 c10
  have z7 : w135.cell? ⟨X, 7, none⟩ = some (.slice pa135 xa.after.length ca135) := P135.blk.cell (j := 7) rfl
  have t7 := P135.blk.free 7
  have P136 := P135.setV (x' := (⟨(xa.kind), (xa.birth), (xa.prev), (xa.id), (xa.page), (xa.frm), xa.before, [], (xa.next), xa.rows, xa.dirty⟩ : Rcd)) (V' := (⟨.slice pb135 xa.before.length cb135, .slice none 0 0, .slice pr135 xa.rows.length cr135, .slice pd135 xa.dirty.length cd135⟩ : RV)) (u := .slice none 0 0) 7 rfl ⟨P135.see.before, Bs.nil _, P135.see.rows, P135.see.dirty⟩ (fun y hy => by rcases hy with q | q | q | q; exact .inl q; cases q; exact .inr (.inr (.inl q)); exact .inr (.inr (.inr q)))
  obtain ⟨w136, hw136⟩ : ∃ wx, wx = w135.setCell ⟨X, 7, none⟩ (.slice none 0 0) := ⟨_, rfl⟩
  rw [← hw136] at P136
  go_upto_region 40 with fail
  rw [← hw136]
  clear hw136 z7 t7 P135
  have z0 : w136.cell? ⟨X, 0, none⟩ = some (.int .i64 (xa.kind)) := P136.blk.cell (j := 0) rfl
  have z1 : w136.cell? ⟨X, 1, none⟩ = some (.int .i64 (xa.birth)) := P136.blk.cell (j := 1) rfl
  have z2 : w136.cell? ⟨X, 2, none⟩ = some (.int .i64 (xa.prev)) := P136.blk.cell (j := 2) rfl
  have z3 : w136.cell? ⟨X, 3, none⟩ = some (.int .i64 (xa.id)) := P136.blk.cell (j := 3) rfl
  have z4 : w136.cell? ⟨X, 4, none⟩ = some (.int .i64 (xa.page)) := P136.blk.cell (j := 4) rfl
  have z5 : w136.cell? ⟨X, 5, none⟩ = some (.int .i64 (xa.frm)) := P136.blk.cell (j := 5) rfl
  have z6 : w136.cell? ⟨X, 6, none⟩ = some (.slice pb135 xa.before.length cb135) := P136.blk.cell (j := 6) rfl
  have z7 : w136.cell? ⟨X, 7, none⟩ = some (.slice none 0 0) := P136.blk.cell (j := 7) rfl
  have z8 : w136.cell? ⟨X, 8, none⟩ = some (.int .i64 (xa.next)) := P136.blk.cell (j := 8) rfl
  have z9 : w136.cell? ⟨X, 9, none⟩ = some (.slice pr135 xa.rows.length cr135) := P136.blk.cell (j := 9) rfl
  have z10 : w136.cell? ⟨X, 10, none⟩ = some (.slice pd135 xa.dirty.length cd135) := P136.blk.cell (j := 10) rfl
  have hsrc := src_rcd (P := Try.prog) w136 38 26 Try.underlying38 [.int .i64 (xa.kind), .int .i64 (xa.birth), .int .i64 (xa.prev), .int .i64 (xa.id), .int .i64 (xa.page), .int .i64 (xa.frm), .slice pb135 xa.before.length cb135, .slice none 0 0, .int .i64 (xa.next), .slice pr135 xa.rows.length cr135, .slice pd135 xa.dirty.length cd135] rfl (cl_one P136.see)
  go_upto_region 41 with (at_builtin; refine wpList_append_row rfl (.tmp 110) (.tmp 112) 38 rfl w1.heap.size 26 inf0 (.agg #[.int .i64 0, .int .i64 0, .int .i64 0, .int .i64 0, .int .i64 0, .int .i64 0, .slice none 0 0, .slice none 0 0, .int .i64 0, .slice none 0 0, .slice none 0 0]) 11 152 Try.underlying38 HI0.out.1 HI0.out.2.1 HI0.out.2.2.1 HI0.out.2.2.2 rfl _ 13 (pcells ys134) (by rfl) (P136.row.kept ((Kept.refl [] w136).alloc _) (by simp)) _ 1 [.int .i64 (xa.kind), .int .i64 (xa.birth), .int .i64 (xa.prev), .int .i64 (xa.id), .int .i64 (xa.page), .int .i64 (xa.frm), .slice pb135 xa.before.length cb135, .slice none 0 0, .int .i64 (xa.next), .slice pr135 xa.rows.length cr135, .slice pd135 xa.dirty.length cd135] (by rfl) hsrc (by omega) (by unfold maxLen; omega) (by omega) (by have := P136.kept.size; rw [World.size_alloc]; omega) ?_; intro v137 w137 r137 k137 at137; obtain ⟨pv137, cv137, ys137, hv137, P137⟩ := P136.push (bad_xC HR.out HK.out) (show 13 + 1 = 14 from rfl) ((Kept.refl [] w136).alloc _) r137 k137 at137; subst hv137)
  clear hsrc r137 k137 at137 P136 z0 z1 z2 z3 z4 z5 z6 z7 z8 z9 z10
  have z6 : w137.cell? ⟨X, 6, none⟩ = some (.slice pb135 xa.before.length cb135) := P137.blk.cell (j := 6) rfl
  have t6 := P137.blk.free 6
  have P138 := P137.setV (x' := (⟨(xa.kind), (xa.birth), (xa.prev), (xa.id), (xa.page), (xa.frm), [], [], (xa.next), xa.rows, xa.dirty⟩ : Rcd)) (V' := (⟨.slice none 0 0, .slice none 0 0, .slice pr135 xa.rows.length cr135, .slice pd135 xa.dirty.length cd135⟩ : RV)) (u := .slice none 0 0) 6 rfl ⟨Bs.nil _, P137.see.after, P137.see.rows, P137.see.dirty⟩ (fun y hy => by rcases hy with q | q | q | q; cases q; exact .inr (.inl q); exact .inr (.inr (.inl q)); exact .inr (.inr (.inr q)))
  obtain ⟨w138, hw138⟩ : ∃ wx, wx = w137.setCell ⟨X, 6, none⟩ (.slice none 0 0) := ⟨_, rfl⟩
  rw [← hw138] at P138
  go_upto_region 42 with fail
  rw [← hw138]
  clear hw138 z6 t6 P137
  have z0 : w138.cell? ⟨X, 0, none⟩ = some (.int .i64 (xa.kind)) := P138.blk.cell (j := 0) rfl
  have z1 : w138.cell? ⟨X, 1, none⟩ = some (.int .i64 (xa.birth)) := P138.blk.cell (j := 1) rfl
  have z2 : w138.cell? ⟨X, 2, none⟩ = some (.int .i64 (xa.prev)) := P138.blk.cell (j := 2) rfl
  have z3 : w138.cell? ⟨X, 3, none⟩ = some (.int .i64 (xa.id)) := P138.blk.cell (j := 3) rfl
  have z4 : w138.cell? ⟨X, 4, none⟩ = some (.int .i64 (xa.page)) := P138.blk.cell (j := 4) rfl
  have z5 : w138.cell? ⟨X, 5, none⟩ = some (.int .i64 (xa.frm)) := P138.blk.cell (j := 5) rfl
  have z6 : w138.cell? ⟨X, 6, none⟩ = some (.slice none 0 0) := P138.blk.cell (j := 6) rfl
  have z7 : w138.cell? ⟨X, 7, none⟩ = some (.slice none 0 0) := P138.blk.cell (j := 7) rfl
  have z8 : w138.cell? ⟨X, 8, none⟩ = some (.int .i64 (xa.next)) := P138.blk.cell (j := 8) rfl
  have z9 : w138.cell? ⟨X, 9, none⟩ = some (.slice pr135 xa.rows.length cr135) := P138.blk.cell (j := 9) rfl
  have z10 : w138.cell? ⟨X, 10, none⟩ = some (.slice pd135 xa.dirty.length cd135) := P138.blk.cell (j := 10) rfl
  have hsrc := src_rcd (P := Try.prog) w138 38 26 Try.underlying38 [.int .i64 (xa.kind), .int .i64 (xa.birth), .int .i64 (xa.prev), .int .i64 (xa.id), .int .i64 (xa.page), .int .i64 (xa.frm), .slice none 0 0, .slice none 0 0, .int .i64 (xa.next), .slice pr135 xa.rows.length cr135, .slice pd135 xa.dirty.length cd135] rfl (cl_one P138.see)
  go_upto_region 43 with (at_builtin; refine wpList_append_row rfl (.tmp 115) (.tmp 117) 38 rfl w1.heap.size 26 inf0 (.agg #[.int .i64 0, .int .i64 0, .int .i64 0, .int .i64 0, .int .i64 0, .int .i64 0, .slice none 0 0, .slice none 0 0, .int .i64 0, .slice none 0 0, .slice none 0 0]) 11 152 Try.underlying38 HI0.out.1 HI0.out.2.1 HI0.out.2.2.1 HI0.out.2.2.2 rfl _ 14 (pcells ys137) (by rfl) (P138.row.kept ((Kept.refl [] w138).alloc _) (by simp)) _ 1 [.int .i64 (xa.kind), .int .i64 (xa.birth), .int .i64 (xa.prev), .int .i64 (xa.id), .int .i64 (xa.page), .int .i64 (xa.frm), .slice none 0 0, .slice none 0 0, .int .i64 (xa.next), .slice pr135 xa.rows.length cr135, .slice pd135 xa.dirty.length cd135] (by rfl) hsrc (by omega) (by unfold maxLen; omega) (by omega) (by have := P138.kept.size; rw [World.size_alloc]; omega) ?_; intro v139 w139 r139 k139 at139; obtain ⟨pv139, cv139, ys139, hv139, P139⟩ := P138.push (bad_xD HR.out HK.out) (show 14 + 1 = 15 from rfl) ((Kept.refl [] w138).alloc _) r139 k139 at139; subst hv139)
  clear hsrc r139 k139 at139 P138 z0 z1 z2 z3 z4 z5 z6 z7 z8 z9 z10
  have c0 := P139.kept.cell (HBX.out.cell (j := 0) rfl) (by simp)
  have c1 := P139.kept.cell (HBX.out.cell (j := 1) rfl) (by simp)
  have c2 := P139.kept.cell (HBX.out.cell (j := 2) rfl) (by simp)
  have c3 := P139.kept.cell (HBX.out.cell (j := 3) rfl) (by simp)
  have c4 := P139.kept.cell (HBX.out.cell (j := 4) rfl) (by simp)
  have c5 := P139.kept.cell (HBX.out.cell (j := 5) rfl) (by simp)
  have c6 := P139.kept.cell (HBX.out.cell (j := 6) rfl) (by simp)
  have c7 := P139.kept.cell (HBX.out.cell (j := 7) rfl) (by simp)
  have c8 := P139.kept.cell (HBX.out.cell (j := 8) rfl) (by simp)
  have c9 := P139.kept.cell (HBX.out.cell (j := 9) rfl) (by simp)
  have c10 := P139.kept.cell (HBX.out.cell (j := 10) rfl) (by simp)
  go_wp2_with fail
  refine (hCp _ P139.kept).mono ?_
  rintro e q140 ⟨V140, rfl, hO140, kq140⟩
  obtain ⟨pb140, cb140, pa140, ca140, pr140, cr140, pd140, cd140, hV140⟩ := hO140.see.shapes
  subst hV140
  dsimp only
  have bq := P139.blk.kept kq140 (by simp)
  have z0 : q140.cell? ⟨X, 0, none⟩ = some (.int .i64 (xa.kind)) := bq.cell (j := 0) rfl
  have z1 : q140.cell? ⟨X, 1, none⟩ = some (.int .i64 (xa.birth)) := bq.cell (j := 1) rfl
  have z2 : q140.cell? ⟨X, 2, none⟩ = some (.int .i64 (xa.prev)) := bq.cell (j := 2) rfl
  have z3 : q140.cell? ⟨X, 3, none⟩ = some (.int .i64 (xa.id)) := bq.cell (j := 3) rfl
  have z4 : q140.cell? ⟨X, 4, none⟩ = some (.int .i64 (xa.page)) := bq.cell (j := 4) rfl
  have z5 : q140.cell? ⟨X, 5, none⟩ = some (.int .i64 (xa.frm)) := bq.cell (j := 5) rfl
  have z6 : q140.cell? ⟨X, 6, none⟩ = some (.slice none 0 0) := bq.cell (j := 6) rfl
  have z7 : q140.cell? ⟨X, 7, none⟩ = some (.slice none 0 0) := bq.cell (j := 7) rfl
  have z8 : q140.cell? ⟨X, 8, none⟩ = some (.int .i64 (xa.next)) := bq.cell (j := 8) rfl
  have z9 : q140.cell? ⟨X, 9, none⟩ = some (.slice pr135 xa.rows.length cr135) := bq.cell (j := 9) rfl
  have z10 : q140.cell? ⟨X, 10, none⟩ = some (.slice pd135 xa.dirty.length cd135) := bq.cell (j := 10) rfl
  have t0 := bq.free 0
  have t1 := bq.free 1
  have t2 := bq.free 2
  have t3 := bq.free 3
  have t4 := bq.free 4
  have t5 := bq.free 5
  have t6 := bq.free 6
  have t7 := bq.free 7
  have t8 := bq.free 8
  have t9 := bq.free 9
  have t10 := bq.free 10
  obtain ⟨bF, kF⟩ := Blk.fill11 (show Blk q140 X 26 [.int .i64 (xa.kind), .int .i64 (xa.birth), .int .i64 (xa.prev), .int .i64 (xa.id), .int .i64 (xa.page), .int .i64 (xa.frm), .slice none 0 0, .slice none 0 0, .int .i64 (xa.next), .slice pr135 xa.rows.length cr135, .slice pd135 xa.dirty.length cd135] from bq) (.int .i64 (xa.kind)) (.int .i64 (xa.birth)) (.int .i64 (xa.prev)) (.int .i64 (xa.id)) (.int .i64 (xa.page)) (.int .i64 (xa.frm)) (.slice pb140 xa.before.length cb140) (.slice pa140 xa.after.length ca140) (.int .i64 (xa.next)) (.slice pr140 xa.rows.length cr140) (.slice pd140 xa.dirty.length cd140)
  obtain ⟨w140, hw140⟩ : ∃ wx, wx = (((((((((((q140.setCell ⟨X, 0, none⟩ (.int .i64 (xa.kind))).setCell ⟨X, 1, none⟩ (.int .i64 (xa.birth))).setCell ⟨X, 2, none⟩ (.int .i64 (xa.prev))).setCell ⟨X, 3, none⟩ (.int .i64 (xa.id))).setCell ⟨X, 4, none⟩ (.int .i64 (xa.page))).setCell ⟨X, 5, none⟩ (.int .i64 (xa.frm))).setCell ⟨X, 6, none⟩ (.slice pb140 xa.before.length cb140)).setCell ⟨X, 7, none⟩ (.slice pa140 xa.after.length ca140)).setCell ⟨X, 8, none⟩ (.int .i64 (xa.next))).setCell ⟨X, 9, none⟩ (.slice pr140 xa.rows.length cr140)).setCell ⟨X, 10, none⟩ (.slice pd140 xa.dirty.length cd140)) := ⟨_, rfl⟩
  rw [← hw140] at bF kF
  have HB140 : w139.heap.size ≤ w140.heap.size := Nat.le_trans kq140.size kF.size
  obtain ⟨P140, OW140, FR140⟩ := P139.copy (r := xa) (V := (⟨.slice pb140 xa.before.length cb140, .slice pa140 xa.after.length ca140, .slice pr140 xa.rows.length cr140, .slice pd140 xa.dirty.length cd140⟩ : RV)) kq140 hO140 bF kF
  go_upto_region 44 with fail
  rw [← hw140]
  clear hw140 bq bF kF hO140 kq140 P139 z0 t0 c0 z1 t1 c1 z2 t2 c2 z3 t3 c3 z4 t4 c4 z5 t5 c5 z6 t6 c6 z7 t7 c7 z8 t8 c8 z9 t9 c9 z10 t10 c10
  clear OW135 FR135 HB135
  have z5 : w140.cell? ⟨X, 5, none⟩ = some (.int .i64 (xa.frm)) := P140.blk.cell (j := 5) rfl
  have t5 := P140.blk.free 5
  have P141 := P140.set 5 (15) (⟨(xa.kind), (xa.birth), (xa.prev), (xa.id), (xa.page), (15), xa.before, xa.after, (xa.next), xa.rows, xa.dirty⟩ : Rcd) rfl ⟨rfl, rfl, rfl, rfl⟩
  obtain ⟨w141, hw141⟩ : ∃ wx, wx = w140.setCell ⟨X, 5, none⟩ (.int .i64 (15)) := ⟨_, rfl⟩
  rw [← hw141] at P141
  go_upto_region 45 with fail
  rw [← hw141]
  clear hw141 z5 t5 P140 
  have z0 : w141.cell? ⟨X, 0, none⟩ = some (.int .i64 (xa.kind)) := P141.blk.cell (j := 0) rfl
  have z1 : w141.cell? ⟨X, 1, none⟩ = some (.int .i64 (xa.birth)) := P141.blk.cell (j := 1) rfl
  have z2 : w141.cell? ⟨X, 2, none⟩ = some (.int .i64 (xa.prev)) := P141.blk.cell (j := 2) rfl
  have z3 : w141.cell? ⟨X, 3, none⟩ = some (.int .i64 (xa.id)) := P141.blk.cell (j := 3) rfl
  have z4 : w141.cell? ⟨X, 4, none⟩ = some (.int .i64 (xa.page)) := P141.blk.cell (j := 4) rfl
  have z5 : w141.cell? ⟨X, 5, none⟩ = some (.int .i64 (15)) := P141.blk.cell (j := 5) rfl
  have z6 : w141.cell? ⟨X, 6, none⟩ = some (.slice pb140 xa.before.length cb140) := P141.blk.cell (j := 6) rfl
  have z7 : w141.cell? ⟨X, 7, none⟩ = some (.slice pa140 xa.after.length ca140) := P141.blk.cell (j := 7) rfl
  have z8 : w141.cell? ⟨X, 8, none⟩ = some (.int .i64 (xa.next)) := P141.blk.cell (j := 8) rfl
  have z9 : w141.cell? ⟨X, 9, none⟩ = some (.slice pr140 xa.rows.length cr140) := P141.blk.cell (j := 9) rfl
  have z10 : w141.cell? ⟨X, 10, none⟩ = some (.slice pd140 xa.dirty.length cd140) := P141.blk.cell (j := 10) rfl
  have hsrc := src_rcd (P := Try.prog) w141 38 26 Try.underlying38 [.int .i64 (xa.kind), .int .i64 (xa.birth), .int .i64 (xa.prev), .int .i64 (xa.id), .int .i64 (xa.page), .int .i64 (15), .slice pb140 xa.before.length cb140, .slice pa140 xa.after.length ca140, .int .i64 (xa.next), .slice pr140 xa.rows.length cr140, .slice pd140 xa.dirty.length cd140] rfl (cl_one P141.see)
  go_upto_region 46 with (at_builtin; refine wpList_append_row rfl (.tmp 122) (.tmp 124) 38 rfl w1.heap.size 26 inf0 (.agg #[.int .i64 0, .int .i64 0, .int .i64 0, .int .i64 0, .int .i64 0, .int .i64 0, .slice none 0 0, .slice none 0 0, .int .i64 0, .slice none 0 0, .slice none 0 0]) 11 152 Try.underlying38 HI0.out.1 HI0.out.2.1 HI0.out.2.2.1 HI0.out.2.2.2 rfl _ 15 (pcells ys139) (by rfl) (P141.row.kept ((Kept.refl [] w141).alloc _) (by simp)) _ 1 [.int .i64 (xa.kind), .int .i64 (xa.birth), .int .i64 (xa.prev), .int .i64 (xa.id), .int .i64 (xa.page), .int .i64 (15), .slice pb140 xa.before.length cb140, .slice pa140 xa.after.length ca140, .int .i64 (xa.next), .slice pr140 xa.rows.length cr140, .slice pd140 xa.dirty.length cd140] (by rfl) hsrc (by omega) (by unfold maxLen; omega) (by omega) (by have := P141.kept.size; rw [World.size_alloc]; omega) ?_; intro v142 w142 r142 k142 at142; obtain ⟨pv142, cv142, ys142, hv142, P142⟩ := P141.push (bad_fC HR.out HK.out) (show 15 + 1 = 16 from rfl) ((Kept.refl [] w141).alloc _) r142 k142 at142; subst hv142)
  clear hsrc r142 k142 at142 P141 z0 z1 z2 z3 z4 z5 z6 z7 z8 z9 z10
  have z5 : w142.cell? ⟨X, 5, none⟩ = some (.int .i64 (15)) := P142.blk.cell (j := 5) rfl
  have t5 := P142.blk.free 5
  have c7 := P142.kept.cell (HBX.out.cell (j := 7) rfl) (by simp)
  have P143 := P142.set 5 (145 - (xa.after.length : Int)) (⟨(xa.kind), (xa.birth), (xa.prev), (xa.id), (xa.page), (145 - (xa.after.length : Int)), xa.before, xa.after, (xa.next), xa.rows, xa.dirty⟩ : Rcd) rfl ⟨rfl, rfl, rfl, rfl⟩
  obtain ⟨w143, hw143⟩ : ∃ wx, wx = w142.setCell ⟨X, 5, none⟩ (.int .i64 (145 - (xa.after.length : Int))) := ⟨_, rfl⟩
  rw [← hw143] at P143
  go_upto_region 47 with fail
  rw [← hw143]
  clear hw143 z5 t5 P142 c7
  have z0 : w143.cell? ⟨X, 0, none⟩ = some (.int .i64 (xa.kind)) := P143.blk.cell (j := 0) rfl
  have z1 : w143.cell? ⟨X, 1, none⟩ = some (.int .i64 (xa.birth)) := P143.blk.cell (j := 1) rfl
  have z2 : w143.cell? ⟨X, 2, none⟩ = some (.int .i64 (xa.prev)) := P143.blk.cell (j := 2) rfl
  have z3 : w143.cell? ⟨X, 3, none⟩ = some (.int .i64 (xa.id)) := P143.blk.cell (j := 3) rfl
  have z4 : w143.cell? ⟨X, 4, none⟩ = some (.int .i64 (xa.page)) := P143.blk.cell (j := 4) rfl
  have z5 : w143.cell? ⟨X, 5, none⟩ = some (.int .i64 (145 - (xa.after.length : Int))) := P143.blk.cell (j := 5) rfl
  have z6 : w143.cell? ⟨X, 6, none⟩ = some (.slice pb140 xa.before.length cb140) := P143.blk.cell (j := 6) rfl
  have z7 : w143.cell? ⟨X, 7, none⟩ = some (.slice pa140 xa.after.length ca140) := P143.blk.cell (j := 7) rfl
  have z8 : w143.cell? ⟨X, 8, none⟩ = some (.int .i64 (xa.next)) := P143.blk.cell (j := 8) rfl
  have z9 : w143.cell? ⟨X, 9, none⟩ = some (.slice pr140 xa.rows.length cr140) := P143.blk.cell (j := 9) rfl
  have z10 : w143.cell? ⟨X, 10, none⟩ = some (.slice pd140 xa.dirty.length cd140) := P143.blk.cell (j := 10) rfl
  have hsrc := src_rcd (P := Try.prog) w143 38 26 Try.underlying38 [.int .i64 (xa.kind), .int .i64 (xa.birth), .int .i64 (xa.prev), .int .i64 (xa.id), .int .i64 (xa.page), .int .i64 (145 - (xa.after.length : Int)), .slice pb140 xa.before.length cb140, .slice pa140 xa.after.length ca140, .int .i64 (xa.next), .slice pr140 xa.rows.length cr140, .slice pd140 xa.dirty.length cd140] rfl (cl_one P143.see)
  go_upto_region 48 with (at_builtin; refine wpList_append_row rfl (.tmp 131) (.tmp 133) 38 rfl w1.heap.size 26 inf0 (.agg #[.int .i64 0, .int .i64 0, .int .i64 0, .int .i64 0, .int .i64 0, .int .i64 0, .slice none 0 0, .slice none 0 0, .int .i64 0, .slice none 0 0, .slice none 0 0]) 11 152 Try.underlying38 HI0.out.1 HI0.out.2.1 HI0.out.2.2.1 HI0.out.2.2.2 rfl _ 16 (pcells ys142) (by rfl) (P143.row.kept ((Kept.refl [] w143).alloc _) (by simp)) _ 1 [.int .i64 (xa.kind), .int .i64 (xa.birth), .int .i64 (xa.prev), .int .i64 (xa.id), .int .i64 (xa.page), .int .i64 (145 - (xa.after.length : Int)), .slice pb140 xa.before.length cb140, .slice pa140 xa.after.length ca140, .int .i64 (xa.next), .slice pr140 xa.rows.length cr140, .slice pd140 xa.dirty.length cd140] (by rfl) hsrc (by omega) (by unfold maxLen; omega) (by omega) (by have := P143.kept.size; rw [World.size_alloc]; omega) ?_; intro v144 w144 r144 k144 at144; obtain ⟨pv144, cv144, ys144, hv144, P144⟩ := P143.push (bad_fD HR.out HK.out) (show 16 + 1 = 17 from rfl) ((Kept.refl [] w143).alloc _) r144 k144 at144; subst hv144)
  clear hsrc r144 k144 at144 P143 z0 z1 z2 z3 z4 z5 z6 z7 z8 z9 z10
  have c0 := P144.kept.cell (HBX.out.cell (j := 0) rfl) (by simp)
  have c1 := P144.kept.cell (HBX.out.cell (j := 1) rfl) (by simp)
  have c2 := P144.kept.cell (HBX.out.cell (j := 2) rfl) (by simp)
  have c3 := P144.kept.cell (HBX.out.cell (j := 3) rfl) (by simp)
  have c4 := P144.kept.cell (HBX.out.cell (j := 4) rfl) (by simp)
  have c5 := P144.kept.cell (HBX.out.cell (j := 5) rfl) (by simp)
  have c6 := P144.kept.cell (HBX.out.cell (j := 6) rfl) (by simp)
  have c7 := P144.kept.cell (HBX.out.cell (j := 7) rfl) (by simp)
  have c8 := P144.kept.cell (HBX.out.cell (j := 8) rfl) (by simp)
  have c9 := P144.kept.cell (HBX.out.cell (j := 9) rfl) (by simp)
  have c10 := P144.kept.cell (HBX.out.cell (j := 10) rfl) (by simp)
  go_wp2_with fail
  refine (hCp _ P144.kept).mono ?_
  rintro e q145 ⟨V145, rfl, hO145, kq145⟩
  obtain ⟨pb145, cb145, pa145, ca145, pr145, cr145, pd145, cd145, hV145⟩ := hO145.see.shapes
  subst hV145
  dsimp only
  have bq := P144.blk.kept kq145 (by simp)
  have z0 : q145.cell? ⟨X, 0, none⟩ = some (.int .i64 (xa.kind)) := bq.cell (j := 0) rfl
  have z1 : q145.cell? ⟨X, 1, none⟩ = some (.int .i64 (xa.birth)) := bq.cell (j := 1) rfl
  have z2 : q145.cell? ⟨X, 2, none⟩ = some (.int .i64 (xa.prev)) := bq.cell (j := 2) rfl
  have z3 : q145.cell? ⟨X, 3, none⟩ = some (.int .i64 (xa.id)) := bq.cell (j := 3) rfl
  have z4 : q145.cell? ⟨X, 4, none⟩ = some (.int .i64 (xa.page)) := bq.cell (j := 4) rfl
  have z5 : q145.cell? ⟨X, 5, none⟩ = some (.int .i64 (145 - (xa.after.length : Int))) := bq.cell (j := 5) rfl
  have z6 : q145.cell? ⟨X, 6, none⟩ = some (.slice pb140 xa.before.length cb140) := bq.cell (j := 6) rfl
  have z7 : q145.cell? ⟨X, 7, none⟩ = some (.slice pa140 xa.after.length ca140) := bq.cell (j := 7) rfl
  have z8 : q145.cell? ⟨X, 8, none⟩ = some (.int .i64 (xa.next)) := bq.cell (j := 8) rfl
  have z9 : q145.cell? ⟨X, 9, none⟩ = some (.slice pr140 xa.rows.length cr140) := bq.cell (j := 9) rfl
  have z10 : q145.cell? ⟨X, 10, none⟩ = some (.slice pd140 xa.dirty.length cd140) := bq.cell (j := 10) rfl
  have t0 := bq.free 0
  have t1 := bq.free 1
  have t2 := bq.free 2
  have t3 := bq.free 3
  have t4 := bq.free 4
  have t5 := bq.free 5
  have t6 := bq.free 6
  have t7 := bq.free 7
  have t8 := bq.free 8
  have t9 := bq.free 9
  have t10 := bq.free 10
  obtain ⟨bF, kF⟩ := Blk.fill11 (show Blk q145 X 26 [.int .i64 (xa.kind), .int .i64 (xa.birth), .int .i64 (xa.prev), .int .i64 (xa.id), .int .i64 (xa.page), .int .i64 (145 - (xa.after.length : Int)), .slice pb140 xa.before.length cb140, .slice pa140 xa.after.length ca140, .int .i64 (xa.next), .slice pr140 xa.rows.length cr140, .slice pd140 xa.dirty.length cd140] from bq) (.int .i64 (xa.kind)) (.int .i64 (xa.birth)) (.int .i64 (xa.prev)) (.int .i64 (xa.id)) (.int .i64 (xa.page)) (.int .i64 (xa.frm)) (.slice pb145 xa.before.length cb145) (.slice pa145 xa.after.length ca145) (.int .i64 (xa.next)) (.slice pr145 xa.rows.length cr145) (.slice pd145 xa.dirty.length cd145)
  obtain ⟨w145, hw145⟩ : ∃ wx, wx = (((((((((((q145.setCell ⟨X, 0, none⟩ (.int .i64 (xa.kind))).setCell ⟨X, 1, none⟩ (.int .i64 (xa.birth))).setCell ⟨X, 2, none⟩ (.int .i64 (xa.prev))).setCell ⟨X, 3, none⟩ (.int .i64 (xa.id))).setCell ⟨X, 4, none⟩ (.int .i64 (xa.page))).setCell ⟨X, 5, none⟩ (.int .i64 (xa.frm))).setCell ⟨X, 6, none⟩ (.slice pb145 xa.before.length cb145)).setCell ⟨X, 7, none⟩ (.slice pa145 xa.after.length ca145)).setCell ⟨X, 8, none⟩ (.int .i64 (xa.next))).setCell ⟨X, 9, none⟩ (.slice pr145 xa.rows.length cr145)).setCell ⟨X, 10, none⟩ (.slice pd145 xa.dirty.length cd145)) := ⟨_, rfl⟩
  rw [← hw145] at bF kF
  have HB145 : w144.heap.size ≤ w145.heap.size := Nat.le_trans kq145.size kF.size
  obtain ⟨P145, OW145, FR145⟩ := P144.copy (r := xa) (V := (⟨.slice pb145 xa.before.length cb145, .slice pa145 xa.after.length ca145, .slice pr145 xa.rows.length cr145, .slice pd145 xa.dirty.length cd145⟩ : RV)) kq145 hO145 bF kF
  go_upto_region 50 with fail
  rw [← hw145]
  clear hw145 bq bF kF hO145 kq145 P144 z0 t0 c0 z1 t1 c1 z2 t2 c2 z3 t3 c3 z4 t4 c4 z5 t5 c5 z6 t6 c6 z7 t7 c7 z8 t8 c8 z9 t9 c9 z10 t10 c10
  clear OW140 FR140 HB140
  obtain ⟨gb146, db146, eb146, -, hcb146⟩ := own_at9 OW145.before (by have := HPT.out.1; have := HPT.out.2; omega)
  simp only [Value.slice.injEq] at eb146
  obtain ⟨e1b, -, e2b⟩ := eb146
  subst e1b e2b
  obtain ⟨ga146, da146, ea146, -, hca146⟩ := own_at9 OW145.after (by have := HPT.out.2; omega)
  simp only [Value.slice.injEq] at ea146
  obtain ⟨e1a, -, e2a⟩ := ea146
  subst e1a e2a
  have z6 : w145.cell? ⟨X, 6, none⟩ = some (.slice (some ⟨gb146, 0, none⟩) xa.before.length cb145) := P145.blk.cell (j := 6) rfl
  have z7 : w145.cell? ⟨X, 7, none⟩ = some (.slice (some ⟨ga146, 0, none⟩) xa.after.length ca145) := P145.blk.cell (j := 7) rfl
  obtain ⟨y, hy⟩ : ∃ y, xa.after[0]? = some y := ⟨_, List.getElem?_eq_getElem (by have := HPT.out.2; omega)⟩
  obtain ⟨y2, hy2⟩ : ∃ y, xa.before[0]? = some y := ⟨_, List.getElem?_eq_getElem (by have := HPT.out; omega)⟩
  obtain ⟨cy, -⟩ := hca146 0 _ (show (u8s xa.after)[0]? = some (.int .u8 (y.toNat : Int)) by simp [u8s, hy])
  obtain ⟨cy2, fy2⟩ := hcb146 0 _ (show (u8s xa.before)[0]? = some (.int .u8 (y2.toNat : Int)) by simp [u8s, hy2])
  have nz : (0 : Int) < (xa.after.length : Int) := by have := HPT.out; omega
  have nzb : (0 : Int) < (xa.before.length : Int) := by have := HPT.out; omega
  have mz : 0 < xa.after.length := by have := HPT.out; omega
  have mzb : 0 < xa.before.length := by have := HPT.out; omega
  obtain ⟨wd146, hwd146⟩ : ∃ wx, wx = w145.drew := ⟨_, rfl⟩
  have kd : Kept [] w145 wd146 := by rw [hwd146]; exact (Kept.refl [] w145).drew
  have Pd := P145.then kd
  have Od := OW145.kept kd (by simp)
  have P146 := Pd.pokeB (n := 0) Od FR145 rfl 0 y
  obtain ⟨w146, hw146⟩ : ∃ wx, wx = wd146.setCell ⟨gb146, 0, none⟩ (.int .u8 (y.toNat : Int)) := ⟨_, rfl⟩
  rw [← hw146] at P146
  have HY := @hideH _ hy
  clear hy hy2
  refine wp_region_late (fun w' => w'.cell? ⟨X, 6, none⟩ = some (.slice (some ⟨gb146, 0, none⟩) xa.before.length cb145) ∧ w'.cell? ⟨X, 7, none⟩ = some (.slice (some ⟨ga146, 0, none⟩) xa.after.length ca145) ∧ w'.cell? ⟨ga146, 0, none⟩ = some (.int .u8 (y.toNat : Int))) 7 (by kernel_rfl) ?_
  rw [← hwd146]
  clear hwd146
  have hS : wd146.cell? ⟨X, 6, none⟩ = some (.slice (some ⟨gb146, 0, none⟩) xa.before.length cb145) ∧ wd146.cell? ⟨X, 7, none⟩ = some (.slice (some ⟨ga146, 0, none⟩) xa.after.length ca145) ∧ wd146.cell? ⟨ga146, 0, none⟩ = some (.int .u8 (y.toNat : Int)) := ⟨kd.cell z6 (by simp), kd.cell z7 (by simp), kd.cell cy (by simp)⟩
  have dy2 := kd.cell cy2 (by simp)
  have dfy2 : wd146.frozen? ⟨gb146, 0, none⟩ = false := (frozen_of_block (kd.block gb146 (lt_of_cell cy2) (by simp))).trans fy2
  refine wpAnyZ_take 0 (v := ?v146_0) rfl (by kernel_rfl) (by kernel_rfl) (by kernel_rfl) (by kernel_rfl) (fun _ _ _ h => h) (by rfl) ?hy146_0 hS ?rest146_0
  case hy146_0 => (intro wx hSx; obtain ⟨hs1, hs2, hs3⟩ := hSx; go_simp; (try with_reducible rfl))
  (try simp only [Act.put, List.setIfInBounds_toArray, List.set_cons_zero, List.set_cons_succ])
  refine wpAnyZ_take 1 (v := ?v146_1) rfl (by kernel_rfl) (by kernel_rfl) (by kernel_rfl) (by kernel_rfl) (fun _ _ _ h => h) (by rfl) ?hy146_1 hS ?rest146_1
  case hy146_1 => (intro wx hSx; obtain ⟨hs1, hs2, hs3⟩ := hSx; go_simp; (try with_reducible rfl))
  (try simp only [Act.put, List.setIfInBounds_toArray, List.set_cons_zero, List.set_cons_succ])
  refine wpAnyZ_take 2 (v := ?v146_2) rfl (by kernel_rfl) (by kernel_rfl) (by kernel_rfl) (by kernel_rfl) (fun _ _ _ h => h) (by rfl) ?hy146_2 hS ?rest146_2
  case hy146_2 => (intro wx hSx; obtain ⟨hs1, hs2, hs3⟩ := hSx; go_simp; (try with_reducible rfl))
  (try simp only [Act.put, List.setIfInBounds_toArray, List.set_cons_zero, List.set_cons_succ])
  refine wpAnyZ_take 3 (v := ?v146_3) rfl (by kernel_rfl) (by kernel_rfl) (by kernel_rfl) (by kernel_rfl) (fun _ _ _ h => h) (by rfl) ?hy146_3 hS ?rest146_3
  case hy146_3 => (intro wx hSx; obtain ⟨hs1, hs2, hs3⟩ := hSx; go_simp; (try with_reducible rfl))
  (try simp only [Act.put, List.setIfInBounds_toArray, List.set_cons_zero, List.set_cons_succ])
  refine wpAnyZ_take 4 (v := ?v146_4) rfl (by kernel_rfl) (by kernel_rfl) (by kernel_rfl) (by kernel_rfl) (fun _ _ _ h => h) (by rfl) ?hy146_4 hS ?rest146_4
  case hy146_4 => (intro wx hSx; obtain ⟨hs1, hs2, hs3⟩ := hSx; go_simp; (try with_reducible rfl))
  (try simp only [Act.put, List.setIfInBounds_toArray, List.set_cons_zero, List.set_cons_succ])
  refine wpAnyZ_take 5 (v := ?v146_5) rfl (by kernel_rfl) (by kernel_rfl) (by kernel_rfl) (by kernel_rfl) (fun _ _ _ h => h) (by rfl) ?hy146_5 hS ?rest146_5
  case hy146_5 => (intro wx hSx; obtain ⟨hs1, hs2, hs3⟩ := hSx; go_simp; (try with_reducible rfl))
  (try simp only [Act.put, List.setIfInBounds_toArray, List.set_cons_zero, List.set_cons_succ])
  refine wpAnyZ_take 6 (v := ?v146_6) rfl (by kernel_rfl) (by kernel_rfl) (by kernel_rfl) (by kernel_rfl) (fun _ _ _ h => h) (by rfl) ?hy146_6 hS ?rest146_6
  case hy146_6 => (intro wx hSx; obtain ⟨hs1, hs2, hs3⟩ := hSx; go_simp; (try with_reducible rfl))
  (try simp only [Act.put, List.setIfInBounds_toArray, List.set_cons_zero, List.set_cons_succ])
  refine wpAnyZ_one 7 rfl (by kernel_rfl) (fun K hK => ?_)
  go_simp
  refine hK _ _ (fun h => absurd rfl h) ?_
  clear hK K
  (try simp only [Act.put, List.setIfInBounds_toArray, List.set_cons_zero, List.set_cons_succ])
  refine wpAnyZ_done (by kernel_rfl) ?_ _
  rw [← hw146]
  clear hw146 hS z6 z7 cy cy2 fy2 dy2 dfy2 kd Pd Od hcb146 hca146 P145 OW145 FR145 HB145 nz nzb mz mzb
  go_upto_region 51 with fail
  have z0 : w146.cell? ⟨X, 0, none⟩ = some (.int .i64 (xa.kind)) := P146.blk.cell (j := 0) rfl
  have z1 : w146.cell? ⟨X, 1, none⟩ = some (.int .i64 (xa.birth)) := P146.blk.cell (j := 1) rfl
  have z2 : w146.cell? ⟨X, 2, none⟩ = some (.int .i64 (xa.prev)) := P146.blk.cell (j := 2) rfl
  have z3 : w146.cell? ⟨X, 3, none⟩ = some (.int .i64 (xa.id)) := P146.blk.cell (j := 3) rfl
  have z4 : w146.cell? ⟨X, 4, none⟩ = some (.int .i64 (xa.page)) := P146.blk.cell (j := 4) rfl
  have z5 : w146.cell? ⟨X, 5, none⟩ = some (.int .i64 (xa.frm)) := P146.blk.cell (j := 5) rfl
  have z6 : w146.cell? ⟨X, 6, none⟩ = some (.slice (some ⟨gb146, 0, none⟩) xa.before.length cb145) := P146.blk.cell (j := 6) rfl
  have z7 : w146.cell? ⟨X, 7, none⟩ = some (.slice (some ⟨ga146, 0, none⟩) xa.after.length ca145) := P146.blk.cell (j := 7) rfl
  have z8 : w146.cell? ⟨X, 8, none⟩ = some (.int .i64 (xa.next)) := P146.blk.cell (j := 8) rfl
  have z9 : w146.cell? ⟨X, 9, none⟩ = some (.slice pr145 xa.rows.length cr145) := P146.blk.cell (j := 9) rfl
  have z10 : w146.cell? ⟨X, 10, none⟩ = some (.slice pd145 xa.dirty.length cd145) := P146.blk.cell (j := 10) rfl
  have hsrc := src_rcd (P := Try.prog) w146 38 26 Try.underlying38 [.int .i64 (xa.kind), .int .i64 (xa.birth), .int .i64 (xa.prev), .int .i64 (xa.id), .int .i64 (xa.page), .int .i64 (xa.frm), .slice (some ⟨gb146, 0, none⟩) xa.before.length cb145, .slice (some ⟨ga146, 0, none⟩) xa.after.length ca145, .int .i64 (xa.next), .slice pr145 xa.rows.length cr145, .slice pd145 xa.dirty.length cd145] rfl (cl_one P146.see)
  go_upto_region 52 with (at_builtin; refine wpList_append_row rfl (.tmp 147) (.tmp 149) 38 rfl w1.heap.size 26 inf0 (.agg #[.int .i64 0, .int .i64 0, .int .i64 0, .int .i64 0, .int .i64 0, .int .i64 0, .slice none 0 0, .slice none 0 0, .int .i64 0, .slice none 0 0, .slice none 0 0]) 11 152 Try.underlying38 HI0.out.1 HI0.out.2.1 HI0.out.2.2.1 HI0.out.2.2.2 rfl _ 17 (pcells ys144) (by rfl) (P146.row.kept ((Kept.refl [] w146).alloc _) (by simp)) _ 1 [.int .i64 (xa.kind), .int .i64 (xa.birth), .int .i64 (xa.prev), .int .i64 (xa.id), .int .i64 (xa.page), .int .i64 (xa.frm), .slice (some ⟨gb146, 0, none⟩) xa.before.length cb145, .slice (some ⟨ga146, 0, none⟩) xa.after.length ca145, .int .i64 (xa.next), .slice pr145 xa.rows.length cr145, .slice pd145 xa.dirty.length cd145] (by rfl) hsrc (by omega) (by unfold maxLen; omega) (by omega) (by have := P146.kept.size; rw [World.size_alloc]; omega) ?_; intro v147 w147 r147 k147 at147; obtain ⟨pv147, cv147, ys147, hv147, P147⟩ := P146.push (bad_sA H2.out HY.out) (show 17 + 1 = 18 from rfl) ((Kept.refl [] w146).alloc _) r147 k147 at147; subst hv147)
  clear hsrc r147 k147 at147 P146 z0 z1 z2 z3 z4 z5 z6 z7 z8 z9 z10
  clear HY
  have c0 := P147.kept.cell (HBX.out.cell (j := 0) rfl) (by simp)
  have c1 := P147.kept.cell (HBX.out.cell (j := 1) rfl) (by simp)
  have c2 := P147.kept.cell (HBX.out.cell (j := 2) rfl) (by simp)
  have c3 := P147.kept.cell (HBX.out.cell (j := 3) rfl) (by simp)
  have c4 := P147.kept.cell (HBX.out.cell (j := 4) rfl) (by simp)
  have c5 := P147.kept.cell (HBX.out.cell (j := 5) rfl) (by simp)
  have c6 := P147.kept.cell (HBX.out.cell (j := 6) rfl) (by simp)
  have c7 := P147.kept.cell (HBX.out.cell (j := 7) rfl) (by simp)
  have c8 := P147.kept.cell (HBX.out.cell (j := 8) rfl) (by simp)
  have c9 := P147.kept.cell (HBX.out.cell (j := 9) rfl) (by simp)
  have c10 := P147.kept.cell (HBX.out.cell (j := 10) rfl) (by simp)
  go_wp2_with fail
  refine (hCp _ P147.kept).mono ?_
  rintro e q148 ⟨V148, rfl, hO148, kq148⟩
  obtain ⟨pb148, cb148, pa148, ca148, pr148, cr148, pd148, cd148, hV148⟩ := hO148.see.shapes
  subst hV148
  dsimp only
  have bq := P147.blk.kept kq148 (by simp)
  have z0 : q148.cell? ⟨X, 0, none⟩ = some (.int .i64 (xa.kind)) := bq.cell (j := 0) rfl
  have z1 : q148.cell? ⟨X, 1, none⟩ = some (.int .i64 (xa.birth)) := bq.cell (j := 1) rfl
  have z2 : q148.cell? ⟨X, 2, none⟩ = some (.int .i64 (xa.prev)) := bq.cell (j := 2) rfl
  have z3 : q148.cell? ⟨X, 3, none⟩ = some (.int .i64 (xa.id)) := bq.cell (j := 3) rfl
  have z4 : q148.cell? ⟨X, 4, none⟩ = some (.int .i64 (xa.page)) := bq.cell (j := 4) rfl
  have z5 : q148.cell? ⟨X, 5, none⟩ = some (.int .i64 (xa.frm)) := bq.cell (j := 5) rfl
  have z6 : q148.cell? ⟨X, 6, none⟩ = some (.slice (some ⟨gb146, 0, none⟩) xa.before.length cb145) := bq.cell (j := 6) rfl
  have z7 : q148.cell? ⟨X, 7, none⟩ = some (.slice (some ⟨ga146, 0, none⟩) xa.after.length ca145) := bq.cell (j := 7) rfl
  have z8 : q148.cell? ⟨X, 8, none⟩ = some (.int .i64 (xa.next)) := bq.cell (j := 8) rfl
  have z9 : q148.cell? ⟨X, 9, none⟩ = some (.slice pr145 xa.rows.length cr145) := bq.cell (j := 9) rfl
  have z10 : q148.cell? ⟨X, 10, none⟩ = some (.slice pd145 xa.dirty.length cd145) := bq.cell (j := 10) rfl
  have t0 := bq.free 0
  have t1 := bq.free 1
  have t2 := bq.free 2
  have t3 := bq.free 3
  have t4 := bq.free 4
  have t5 := bq.free 5
  have t6 := bq.free 6
  have t7 := bq.free 7
  have t8 := bq.free 8
  have t9 := bq.free 9
  have t10 := bq.free 10
  obtain ⟨bF, kF⟩ := Blk.fill11 (show Blk q148 X 26 [.int .i64 (xa.kind), .int .i64 (xa.birth), .int .i64 (xa.prev), .int .i64 (xa.id), .int .i64 (xa.page), .int .i64 (xa.frm), .slice (some ⟨gb146, 0, none⟩) xa.before.length cb145, .slice (some ⟨ga146, 0, none⟩) xa.after.length ca145, .int .i64 (xa.next), .slice pr145 xa.rows.length cr145, .slice pd145 xa.dirty.length cd145] from bq) (.int .i64 (xa.kind)) (.int .i64 (xa.birth)) (.int .i64 (xa.prev)) (.int .i64 (xa.id)) (.int .i64 (xa.page)) (.int .i64 (xa.frm)) (.slice pb148 xa.before.length cb148) (.slice pa148 xa.after.length ca148) (.int .i64 (xa.next)) (.slice pr148 xa.rows.length cr148) (.slice pd148 xa.dirty.length cd148)
  obtain ⟨w148, hw148⟩ : ∃ wx, wx = (((((((((((q148.setCell ⟨X, 0, none⟩ (.int .i64 (xa.kind))).setCell ⟨X, 1, none⟩ (.int .i64 (xa.birth))).setCell ⟨X, 2, none⟩ (.int .i64 (xa.prev))).setCell ⟨X, 3, none⟩ (.int .i64 (xa.id))).setCell ⟨X, 4, none⟩ (.int .i64 (xa.page))).setCell ⟨X, 5, none⟩ (.int .i64 (xa.frm))).setCell ⟨X, 6, none⟩ (.slice pb148 xa.before.length cb148)).setCell ⟨X, 7, none⟩ (.slice pa148 xa.after.length ca148)).setCell ⟨X, 8, none⟩ (.int .i64 (xa.next))).setCell ⟨X, 9, none⟩ (.slice pr148 xa.rows.length cr148)).setCell ⟨X, 10, none⟩ (.slice pd148 xa.dirty.length cd148)) := ⟨_, rfl⟩
  rw [← hw148] at bF kF
  have HB148 : w147.heap.size ≤ w148.heap.size := Nat.le_trans kq148.size kF.size
  obtain ⟨P148, OW148, FR148⟩ := P147.copy (r := xa) (V := (⟨.slice pb148 xa.before.length cb148, .slice pa148 xa.after.length ca148, .slice pr148 xa.rows.length cr148, .slice pd148 xa.dirty.length cd148⟩ : RV)) kq148 hO148 bF kF
  go_upto_region 53 with fail
  rw [← hw148]
  clear hw148 bq bF kF hO148 kq148 P147 z0 t0 c0 z1 t1 c1 z2 t2 c2 z3 t3 c3 z4 t4 c4 z5 t5 c5 z6 t6 c6 z7 t7 c7 z8 t8 c8 z9 t9 c9 z10 t10 c10
  obtain ⟨gb149, db149, eb149, -, hcb149⟩ := own_at9 OW148.before (by have := HPT.out.1; have := HPT.out.2; omega)
  simp only [Value.slice.injEq] at eb149
  obtain ⟨e1b, -, e2b⟩ := eb149
  subst e1b e2b
  obtain ⟨ga149, da149, ea149, -, hca149⟩ := own_at9 OW148.after (by have := HPT.out.2; omega)
  simp only [Value.slice.injEq] at ea149
  obtain ⟨e1a, -, e2a⟩ := ea149
  subst e1a e2a
  have z6 : w148.cell? ⟨X, 6, none⟩ = some (.slice (some ⟨gb149, 0, none⟩) xa.before.length cb148) := P148.blk.cell (j := 6) rfl
  have z7 : w148.cell? ⟨X, 7, none⟩ = some (.slice (some ⟨ga149, 0, none⟩) xa.after.length ca148) := P148.blk.cell (j := 7) rfl
  obtain ⟨m, hm⟩ : ∃ m : Nat, m = xa.after.length - 1 := ⟨_, rfl⟩
  have mb : m < xa.before.length := by have := HPT.out; omega
  have ma : m < xa.after.length := by have := HPT.out; omega
  obtain ⟨y, hy⟩ : ∃ y, xa.before[m]? = some y := ⟨_, List.getElem?_eq_getElem mb⟩
  obtain ⟨y2, hy2⟩ : ∃ y, xa.after[m]? = some y := ⟨_, List.getElem?_eq_getElem ma⟩
  obtain ⟨cy, -⟩ := hcb149 m _ (show (u8s xa.before)[m]? = some (.int .u8 (y.toNat : Int)) by simp [u8s, hy])
  obtain ⟨cy2, fy2⟩ := hca149 m _ (show (u8s xa.after)[m]? = some (.int .u8 (y2.toNat : Int)) by simp [u8s, hy2])
  have wm : IntKind.i64.wrap ((xa.after.length : Int) - 1) = (m : Int) := by rw [show (xa.after.length : Int) - 1 = (m : Int) by omega]; exact wrap_i64_of (by omega) (by have := HLN.out; omega)
  have HM := @hideH _ hm
  clear hm
  have m0 : (0 : Int) ≤ (m : Int) := by omega
  have mb' : (m : Int) < (xa.before.length : Int) := by omega
  have ma' : (m : Int) < (xa.after.length : Int) := by omega
  obtain ⟨wd149, hwd149⟩ : ∃ wx, wx = w148.drew := ⟨_, rfl⟩
  have kd : Kept [] w148 wd149 := by rw [hwd149]; exact (Kept.refl [] w148).drew
  have Pd := P148.then kd
  have Od := OW148.kept kd (by simp)
  have P149 := Pd.pokeA (n := 0) Od FR148 rfl m y
  obtain ⟨w149, hw149⟩ : ∃ wx, wx = wd149.setCell ⟨ga149, m, none⟩ (.int .u8 (y.toNat : Int)) := ⟨_, rfl⟩
  rw [← hw149] at P149
  have HY := @hideH _ hy
  clear hy hy2
  refine wp_region_late (fun w' => w'.cell? ⟨X, 6, none⟩ = some (.slice (some ⟨gb149, 0, none⟩) xa.before.length cb148) ∧ w'.cell? ⟨X, 7, none⟩ = some (.slice (some ⟨ga149, 0, none⟩) xa.after.length ca148) ∧ w'.cell? ⟨gb149, m, none⟩ = some (.int .u8 (y.toNat : Int))) 15 (by kernel_rfl) ?_
  rw [← hwd149]
  clear hwd149
  have hS : wd149.cell? ⟨X, 6, none⟩ = some (.slice (some ⟨gb149, 0, none⟩) xa.before.length cb148) ∧ wd149.cell? ⟨X, 7, none⟩ = some (.slice (some ⟨ga149, 0, none⟩) xa.after.length ca148) ∧ wd149.cell? ⟨gb149, m, none⟩ = some (.int .u8 (y.toNat : Int)) := ⟨kd.cell z6 (by simp), kd.cell z7 (by simp), kd.cell cy (by simp)⟩
  have dy2 := kd.cell cy2 (by simp)
  have dfy2 : wd149.frozen? ⟨ga149, m, none⟩ = false := (frozen_of_block (kd.block ga149 (lt_of_cell cy2) (by simp))).trans fy2
  refine wpAnyZ_take 0 (v := ?v149_0) rfl (by kernel_rfl) (by kernel_rfl) (by kernel_rfl) (by kernel_rfl) (fun _ _ _ h => h) (by rfl) ?hy149_0 hS ?rest149_0
  case hy149_0 => (intro wx hSx; obtain ⟨hs1, hs2, hs3⟩ := hSx; go_simp; (try with_reducible rfl))
  (try simp only [Act.put, List.setIfInBounds_toArray, List.set_cons_zero, List.set_cons_succ])
  refine wpAnyZ_take 1 (v := ?v149_1) rfl (by kernel_rfl) (by kernel_rfl) (by kernel_rfl) (by kernel_rfl) (fun _ _ _ h => h) (by rfl) ?hy149_1 hS ?rest149_1
  case hy149_1 => (intro wx hSx; obtain ⟨hs1, hs2, hs3⟩ := hSx; go_simp; (try with_reducible rfl))
  (try simp only [Act.put, List.setIfInBounds_toArray, List.set_cons_zero, List.set_cons_succ])
  refine wpAnyZ_take 2 (v := ?v149_2) rfl (by kernel_rfl) (by kernel_rfl) (by kernel_rfl) (by kernel_rfl) (fun _ _ _ h => h) (by rfl) ?hy149_2 hS ?rest149_2
  case hy149_2 => (intro wx hSx; obtain ⟨hs1, hs2, hs3⟩ := hSx; go_simp; (try with_reducible rfl))
  (try simp only [Act.put, List.setIfInBounds_toArray, List.set_cons_zero, List.set_cons_succ])
  refine wpAnyZ_take 3 (v := ?v149_3) rfl (by kernel_rfl) (by kernel_rfl) (by kernel_rfl) (by kernel_rfl) (fun _ _ _ h => h) (by rfl) ?hy149_3 hS ?rest149_3
  case hy149_3 => (intro wx hSx; obtain ⟨hs1, hs2, hs3⟩ := hSx; go_simp; (try with_reducible rfl))
  (try simp only [Act.put, List.setIfInBounds_toArray, List.set_cons_zero, List.set_cons_succ])
  refine wpAnyZ_take 4 (v := ?v149_4) rfl (by kernel_rfl) (by kernel_rfl) (by kernel_rfl) (by kernel_rfl) (fun _ _ _ h => h) (by rfl) ?hy149_4 hS ?rest149_4
  case hy149_4 => (intro wx hSx; obtain ⟨hs1, hs2, hs3⟩ := hSx; go_simp; (try with_reducible rfl))
  (try simp only [Act.put, List.setIfInBounds_toArray, List.set_cons_zero, List.set_cons_succ])
  refine wpAnyZ_take 5 (v := ?v149_5) rfl (by kernel_rfl) (by kernel_rfl) (by kernel_rfl) (by kernel_rfl) (fun _ _ _ h => h) (by rfl) ?hy149_5 hS ?rest149_5
  case hy149_5 => (intro wx hSx; obtain ⟨hs1, hs2, hs3⟩ := hSx; go_simp; (try with_reducible rfl))
  (try simp only [Act.put, List.setIfInBounds_toArray, List.set_cons_zero, List.set_cons_succ])
  refine wpAnyZ_take 6 (v := ?v149_6) rfl (by kernel_rfl) (by kernel_rfl) (by kernel_rfl) (by kernel_rfl) (fun _ _ _ h => h) (by rfl) ?hy149_6 hS ?rest149_6
  case hy149_6 => (intro wx hSx; obtain ⟨hs1, hs2, hs3⟩ := hSx; go_simp; (try with_reducible rfl))
  (try simp only [Act.put, List.setIfInBounds_toArray, List.set_cons_zero, List.set_cons_succ])
  refine wpAnyZ_take 7 (v := ?v149_7) rfl (by kernel_rfl) (by kernel_rfl) (by kernel_rfl) (by kernel_rfl) (fun _ _ _ h => h) (by rfl) ?hy149_7 hS ?rest149_7
  case hy149_7 => (intro wx hSx; obtain ⟨hs1, hs2, hs3⟩ := hSx; go_simp; (try with_reducible rfl))
  (try simp only [Act.put, List.setIfInBounds_toArray, List.set_cons_zero, List.set_cons_succ])
  refine wpAnyZ_take 8 (v := ?v149_8) rfl (by kernel_rfl) (by kernel_rfl) (by kernel_rfl) (by kernel_rfl) (fun _ _ _ h => h) (by rfl) ?hy149_8 hS ?rest149_8
  case hy149_8 => (intro wx hSx; obtain ⟨hs1, hs2, hs3⟩ := hSx; go_simp; (try with_reducible rfl))
  (try simp only [Act.put, List.setIfInBounds_toArray, List.set_cons_zero, List.set_cons_succ])
  refine wpAnyZ_take 9 (v := ?v149_9) rfl (by kernel_rfl) (by kernel_rfl) (by kernel_rfl) (by kernel_rfl) (fun _ _ _ h => h) (by rfl) ?hy149_9 hS ?rest149_9
  case hy149_9 => (intro wx hSx; obtain ⟨hs1, hs2, hs3⟩ := hSx; go_simp; (try with_reducible rfl))
  (try simp only [Act.put, List.setIfInBounds_toArray, List.set_cons_zero, List.set_cons_succ])
  refine wpAnyZ_take 10 (v := ?v149_10) rfl (by kernel_rfl) (by kernel_rfl) (by kernel_rfl) (by kernel_rfl) (fun _ _ _ h => h) (by rfl) ?hy149_10 hS ?rest149_10
  case hy149_10 => (intro wx hSx; obtain ⟨hs1, hs2, hs3⟩ := hSx; go_simp; (try with_reducible rfl))
  (try simp only [Act.put, List.setIfInBounds_toArray, List.set_cons_zero, List.set_cons_succ])
  refine wpAnyZ_take 11 (v := ?v149_11) rfl (by kernel_rfl) (by kernel_rfl) (by kernel_rfl) (by kernel_rfl) (fun _ _ _ h => h) (by rfl) ?hy149_11 hS ?rest149_11
  case hy149_11 => (intro wx hSx; obtain ⟨hs1, hs2, hs3⟩ := hSx; go_simp; (try with_reducible rfl))
  (try simp only [Act.put, List.setIfInBounds_toArray, List.set_cons_zero, List.set_cons_succ])
  refine wpAnyZ_take 12 (v := ?v149_12) rfl (by kernel_rfl) (by kernel_rfl) (by kernel_rfl) (by kernel_rfl) (fun _ _ _ h => h) (by rfl) ?hy149_12 hS ?rest149_12
  case hy149_12 => (intro wx hSx; obtain ⟨hs1, hs2, hs3⟩ := hSx; go_simp; (try with_reducible rfl))
  (try simp only [Act.put, List.setIfInBounds_toArray, List.set_cons_zero, List.set_cons_succ])
  refine wpAnyZ_take 13 (v := ?v149_13) rfl (by kernel_rfl) (by kernel_rfl) (by kernel_rfl) (by kernel_rfl) (fun _ _ _ h => h) (by rfl) ?hy149_13 hS ?rest149_13
  case hy149_13 => (intro wx hSx; obtain ⟨hs1, hs2, hs3⟩ := hSx; go_simp; (try with_reducible rfl))
  (try simp only [Act.put, List.setIfInBounds_toArray, List.set_cons_zero, List.set_cons_succ])
  refine wpAnyZ_take 14 (v := ?v149_14) rfl (by kernel_rfl) (by kernel_rfl) (by kernel_rfl) (by kernel_rfl) (fun _ _ _ h => h) (by rfl) ?hy149_14 hS ?rest149_14
  case hy149_14 => (intro wx hSx; obtain ⟨hs1, hs2, hs3⟩ := hSx; go_simp; (try with_reducible rfl))
  (try simp only [Act.put, List.setIfInBounds_toArray, List.set_cons_zero, List.set_cons_succ])
  refine wpAnyZ_one 15 rfl (by kernel_rfl) (fun K hK => ?_)
  go_simp
  refine hK _ _ (fun h => absurd rfl h) ?_
  clear hK K
  (try simp only [Act.put, List.setIfInBounds_toArray, List.set_cons_zero, List.set_cons_succ])
  refine wpAnyZ_done (by kernel_rfl) ?_ _
  rw [← hw149]
  clear hw149 hS z6 z7 cy cy2 fy2 dy2 dfy2 kd Pd Od hcb149 hca149 P148 OW148 FR148 HB148 m0 mb' ma' wm
  go_upto_region 54 with fail
  have z0 : w149.cell? ⟨X, 0, none⟩ = some (.int .i64 (xa.kind)) := P149.blk.cell (j := 0) rfl
  have z1 : w149.cell? ⟨X, 1, none⟩ = some (.int .i64 (xa.birth)) := P149.blk.cell (j := 1) rfl
  have z2 : w149.cell? ⟨X, 2, none⟩ = some (.int .i64 (xa.prev)) := P149.blk.cell (j := 2) rfl
  have z3 : w149.cell? ⟨X, 3, none⟩ = some (.int .i64 (xa.id)) := P149.blk.cell (j := 3) rfl
  have z4 : w149.cell? ⟨X, 4, none⟩ = some (.int .i64 (xa.page)) := P149.blk.cell (j := 4) rfl
  have z5 : w149.cell? ⟨X, 5, none⟩ = some (.int .i64 (xa.frm)) := P149.blk.cell (j := 5) rfl
  have z6 : w149.cell? ⟨X, 6, none⟩ = some (.slice (some ⟨gb149, 0, none⟩) xa.before.length cb148) := P149.blk.cell (j := 6) rfl
  have z7 : w149.cell? ⟨X, 7, none⟩ = some (.slice (some ⟨ga149, 0, none⟩) xa.after.length ca148) := P149.blk.cell (j := 7) rfl
  have z8 : w149.cell? ⟨X, 8, none⟩ = some (.int .i64 (xa.next)) := P149.blk.cell (j := 8) rfl
  have z9 : w149.cell? ⟨X, 9, none⟩ = some (.slice pr148 xa.rows.length cr148) := P149.blk.cell (j := 9) rfl
  have z10 : w149.cell? ⟨X, 10, none⟩ = some (.slice pd148 xa.dirty.length cd148) := P149.blk.cell (j := 10) rfl
  have hsrc := src_rcd (P := Try.prog) w149 38 26 Try.underlying38 [.int .i64 (xa.kind), .int .i64 (xa.birth), .int .i64 (xa.prev), .int .i64 (xa.id), .int .i64 (xa.page), .int .i64 (xa.frm), .slice (some ⟨gb149, 0, none⟩) xa.before.length cb148, .slice (some ⟨ga149, 0, none⟩) xa.after.length ca148, .int .i64 (xa.next), .slice pr148 xa.rows.length cr148, .slice pd148 xa.dirty.length cd148] rfl (cl_one P149.see)
  go_upto_region 55 with (at_builtin; refine wpList_append_row rfl (.tmp 168) (.tmp 170) 38 rfl w1.heap.size 26 inf0 (.agg #[.int .i64 0, .int .i64 0, .int .i64 0, .int .i64 0, .int .i64 0, .int .i64 0, .slice none 0 0, .slice none 0 0, .int .i64 0, .slice none 0 0, .slice none 0 0]) 11 152 Try.underlying38 HI0.out.1 HI0.out.2.1 HI0.out.2.2.1 HI0.out.2.2.2 rfl _ 18 (pcells ys147) (by rfl) (P149.row.kept ((Kept.refl [] w149).alloc _) (by simp)) _ 1 [.int .i64 (xa.kind), .int .i64 (xa.birth), .int .i64 (xa.prev), .int .i64 (xa.id), .int .i64 (xa.page), .int .i64 (xa.frm), .slice (some ⟨gb149, 0, none⟩) xa.before.length cb148, .slice (some ⟨ga149, 0, none⟩) xa.after.length ca148, .int .i64 (xa.next), .slice pr148 xa.rows.length cr148, .slice pd148 xa.dirty.length cd148] (by rfl) hsrc (by omega) (by unfold maxLen; omega) (by omega) (by have := P149.kept.size; rw [World.size_alloc]; omega) ?_; intro v150 w150 r150 k150 at150; obtain ⟨pv150, cv150, ys150, hv150, P150⟩ := P149.push ((by have q := bad_sB H2.out (r := xa) (y := y) (by rw [← HM.out]; exact HY.out) HPT.out.2; rw [← HM.out] at q; exact q)) (show 18 + 1 = 19 from rfl) ((Kept.refl [] w149).alloc _) r150 k150 at150; subst hv150)
  clear hsrc r150 k150 at150 P149 z0 z1 z2 z3 z4 z5 z6 z7 z8 z9 z10
  clear HY
  have c0 := P150.kept.cell (HBX.out.cell (j := 0) rfl) (by simp)
  have c1 := P150.kept.cell (HBX.out.cell (j := 1) rfl) (by simp)
  have c2 := P150.kept.cell (HBX.out.cell (j := 2) rfl) (by simp)
  have c3 := P150.kept.cell (HBX.out.cell (j := 3) rfl) (by simp)
  have c4 := P150.kept.cell (HBX.out.cell (j := 4) rfl) (by simp)
  have c5 := P150.kept.cell (HBX.out.cell (j := 5) rfl) (by simp)
  have c6 := P150.kept.cell (HBX.out.cell (j := 6) rfl) (by simp)
  have c7 := P150.kept.cell (HBX.out.cell (j := 7) rfl) (by simp)
  have c8 := P150.kept.cell (HBX.out.cell (j := 8) rfl) (by simp)
  have c9 := P150.kept.cell (HBX.out.cell (j := 9) rfl) (by simp)
  have c10 := P150.kept.cell (HBX.out.cell (j := 10) rfl) (by simp)
  go_wp2_with fail
  refine (hCp _ P150.kept).mono ?_
  rintro e q151 ⟨V151, rfl, hO151, kq151⟩
  obtain ⟨pb151, cb151, pa151, ca151, pr151, cr151, pd151, cd151, hV151⟩ := hO151.see.shapes
  subst hV151
  dsimp only
  have bq := P150.blk.kept kq151 (by simp)
  have z0 : q151.cell? ⟨X, 0, none⟩ = some (.int .i64 (xa.kind)) := bq.cell (j := 0) rfl
  have z1 : q151.cell? ⟨X, 1, none⟩ = some (.int .i64 (xa.birth)) := bq.cell (j := 1) rfl
  have z2 : q151.cell? ⟨X, 2, none⟩ = some (.int .i64 (xa.prev)) := bq.cell (j := 2) rfl
  have z3 : q151.cell? ⟨X, 3, none⟩ = some (.int .i64 (xa.id)) := bq.cell (j := 3) rfl
  have z4 : q151.cell? ⟨X, 4, none⟩ = some (.int .i64 (xa.page)) := bq.cell (j := 4) rfl
  have z5 : q151.cell? ⟨X, 5, none⟩ = some (.int .i64 (xa.frm)) := bq.cell (j := 5) rfl
  have z6 : q151.cell? ⟨X, 6, none⟩ = some (.slice (some ⟨gb149, 0, none⟩) xa.before.length cb148) := bq.cell (j := 6) rfl
  have z7 : q151.cell? ⟨X, 7, none⟩ = some (.slice (some ⟨ga149, 0, none⟩) xa.after.length ca148) := bq.cell (j := 7) rfl
  have z8 : q151.cell? ⟨X, 8, none⟩ = some (.int .i64 (xa.next)) := bq.cell (j := 8) rfl
  have z9 : q151.cell? ⟨X, 9, none⟩ = some (.slice pr148 xa.rows.length cr148) := bq.cell (j := 9) rfl
  have z10 : q151.cell? ⟨X, 10, none⟩ = some (.slice pd148 xa.dirty.length cd148) := bq.cell (j := 10) rfl
  have t0 := bq.free 0
  have t1 := bq.free 1
  have t2 := bq.free 2
  have t3 := bq.free 3
  have t4 := bq.free 4
  have t5 := bq.free 5
  have t6 := bq.free 6
  have t7 := bq.free 7
  have t8 := bq.free 8
  have t9 := bq.free 9
  have t10 := bq.free 10
  obtain ⟨bF, kF⟩ := Blk.fill11 (show Blk q151 X 26 [.int .i64 (xa.kind), .int .i64 (xa.birth), .int .i64 (xa.prev), .int .i64 (xa.id), .int .i64 (xa.page), .int .i64 (xa.frm), .slice (some ⟨gb149, 0, none⟩) xa.before.length cb148, .slice (some ⟨ga149, 0, none⟩) xa.after.length ca148, .int .i64 (xa.next), .slice pr148 xa.rows.length cr148, .slice pd148 xa.dirty.length cd148] from bq) (.int .i64 (xa.kind)) (.int .i64 (xa.birth)) (.int .i64 (xa.prev)) (.int .i64 (xa.id)) (.int .i64 (xa.page)) (.int .i64 (xa.frm)) (.slice pb151 xa.before.length cb151) (.slice pa151 xa.after.length ca151) (.int .i64 (xa.next)) (.slice pr151 xa.rows.length cr151) (.slice pd151 xa.dirty.length cd151)
  obtain ⟨w151, hw151⟩ : ∃ wx, wx = (((((((((((q151.setCell ⟨X, 0, none⟩ (.int .i64 (xa.kind))).setCell ⟨X, 1, none⟩ (.int .i64 (xa.birth))).setCell ⟨X, 2, none⟩ (.int .i64 (xa.prev))).setCell ⟨X, 3, none⟩ (.int .i64 (xa.id))).setCell ⟨X, 4, none⟩ (.int .i64 (xa.page))).setCell ⟨X, 5, none⟩ (.int .i64 (xa.frm))).setCell ⟨X, 6, none⟩ (.slice pb151 xa.before.length cb151)).setCell ⟨X, 7, none⟩ (.slice pa151 xa.after.length ca151)).setCell ⟨X, 8, none⟩ (.int .i64 (xa.next))).setCell ⟨X, 9, none⟩ (.slice pr151 xa.rows.length cr151)).setCell ⟨X, 10, none⟩ (.slice pd151 xa.dirty.length cd151)) := ⟨_, rfl⟩
  rw [← hw151] at bF kF
  have HB151 : w150.heap.size ≤ w151.heap.size := Nat.le_trans kq151.size kF.size
  obtain ⟨P151, OW151, FR151⟩ := P150.copy (r := xa) (V := (⟨.slice pb151 xa.before.length cb151, .slice pa151 xa.after.length ca151, .slice pr151 xa.rows.length cr151, .slice pd151 xa.dirty.length cd151⟩ : RV)) kq151 hO151 bF kF
  go_upto_region 56 with fail
  rw [← hw151]
  clear hw151 bq bF kF hO151 kq151 P150 z0 t0 c0 z1 t1 c1 z2 t2 c2 z3 t3 c3 z4 t4 c4 z5 t5 c5 z6 t6 c6 z7 t7 c7 z8 t8 c8 z9 t9 c9 z10 t10 c10
  have z9 : w151.cell? ⟨X, 9, none⟩ = some (.slice pr151 xa.rows.length cr151) := P151.blk.cell (j := 9) rfl
  have t9 := P151.blk.free 9
  have hsrc := src_gen (P := Try.prog) w151 23 66 5 1 Try.underlying23 [.int .i64 (1152921504606846976), .int .i64 (1), .int .i64 (3), .int .i64 (1), .int .i64 (0)] rfl (rcells_one [(⟨1152921504606846976, 1, 3, 1, 0⟩ : RowR)])
  have kl : Kept [] w151 (w151.alloc (.cells #[.int .i64 (1152921504606846976), .int .i64 (1), .int .i64 (3), .int .i64 (1), .int .i64 (0)] 66)) := (Kept.refl [] w151).alloc _
  go_upto_region 57 with (at_builtin; refine wpList_append_row rfl (.tmp 175) (.tmp 177) 23 rfl w150.heap.size 66 inf (.agg #[.int .i64 0, .int .i64 0, .int .i64 0, .int .i64 0, .int .i64 0]) 5 40 Try.underlying23 HI.out.1 HI.out.2.1 HI.out.2.2.1 HI.out.2.2.2 rfl _ xa.rows.length (rcells xa.rows) (by rfl) (OW151.rows.kept kl (by simp)) _ 1 [.int .i64 (1152921504606846976), .int .i64 (1), .int .i64 (3), .int .i64 (1), .int .i64 (0)] (by rfl) hsrc (by have := HLN.out; omega) (by have := HLN.out; unfold maxLen; omega) (by have := HLN.out; omega) (by have e1 := HB151; rw [World.size_alloc]; omega) ?_; intro v152 y152 o152 g152 at152; obtain ⟨pz152, cz152, hv152, -⟩ : ∃ p c, v152 = .slice p (xa.rows.length + 1) c ∧ _ := o152.shape; obtain ⟨bq, P152⟩ := P151.appR (new := [(⟨1152921504606846976, 1, 3, 1, 0⟩ : RowR)]) OW151 FR151 kl o152 g152; subst hv152; have z9' : y152.cell? ⟨X, 9, none⟩ = some (.slice pr151 xa.rows.length cr151) := bq.cell (j := 9) rfl; have t9' := bq.free 9; obtain ⟨w152, hw152⟩ : ∃ wx, wx = y152.setCell ⟨X, 9, none⟩ (.slice pz152 (xa.rows.length + 1) cz152) := ⟨_, rfl⟩; rw [← hw152] at P152)
  rw [← hw152]
  clear hw152 z9 t9 z9' t9' hsrc kl o152 g152 at152 bq P151 OW151 FR151 HB151
  have z0 : w152.cell? ⟨X, 0, none⟩ = some (.int .i64 (xa.kind)) := P152.blk.cell (j := 0) rfl
  have z1 : w152.cell? ⟨X, 1, none⟩ = some (.int .i64 (xa.birth)) := P152.blk.cell (j := 1) rfl
  have z2 : w152.cell? ⟨X, 2, none⟩ = some (.int .i64 (xa.prev)) := P152.blk.cell (j := 2) rfl
  have z3 : w152.cell? ⟨X, 3, none⟩ = some (.int .i64 (xa.id)) := P152.blk.cell (j := 3) rfl
  have z4 : w152.cell? ⟨X, 4, none⟩ = some (.int .i64 (xa.page)) := P152.blk.cell (j := 4) rfl
  have z5 : w152.cell? ⟨X, 5, none⟩ = some (.int .i64 (xa.frm)) := P152.blk.cell (j := 5) rfl
  have z6 : w152.cell? ⟨X, 6, none⟩ = some (.slice pb151 xa.before.length cb151) := P152.blk.cell (j := 6) rfl
  have z7 : w152.cell? ⟨X, 7, none⟩ = some (.slice pa151 xa.after.length ca151) := P152.blk.cell (j := 7) rfl
  have z8 : w152.cell? ⟨X, 8, none⟩ = some (.int .i64 (xa.next)) := P152.blk.cell (j := 8) rfl
  have z9 : w152.cell? ⟨X, 9, none⟩ = some (.slice pz152 (xa.rows.length + 1) cz152) := P152.blk.cell (j := 9) rfl
  have z10 : w152.cell? ⟨X, 10, none⟩ = some (.slice pd151 xa.dirty.length cd151) := P152.blk.cell (j := 10) rfl
  have hsrc := src_rcd (P := Try.prog) w152 38 26 Try.underlying38 [.int .i64 (xa.kind), .int .i64 (xa.birth), .int .i64 (xa.prev), .int .i64 (xa.id), .int .i64 (xa.page), .int .i64 (xa.frm), .slice pb151 xa.before.length cb151, .slice pa151 xa.after.length ca151, .int .i64 (xa.next), .slice pz152 (xa.rows.length + 1) cz152, .slice pd151 xa.dirty.length cd151] rfl (cl_one P152.see)
  go_upto_region 58 with (at_builtin; refine wpList_append_row rfl (.tmp 180) (.tmp 182) 38 rfl w1.heap.size 26 inf0 (.agg #[.int .i64 0, .int .i64 0, .int .i64 0, .int .i64 0, .int .i64 0, .int .i64 0, .slice none 0 0, .slice none 0 0, .int .i64 0, .slice none 0 0, .slice none 0 0]) 11 152 Try.underlying38 HI0.out.1 HI0.out.2.1 HI0.out.2.2.1 HI0.out.2.2.2 rfl _ 19 (pcells ys150) (by rfl) (P152.row.kept ((Kept.refl [] w152).alloc _) (by simp)) _ 1 [.int .i64 (xa.kind), .int .i64 (xa.birth), .int .i64 (xa.prev), .int .i64 (xa.id), .int .i64 (xa.page), .int .i64 (xa.frm), .slice pb151 xa.before.length cb151, .slice pa151 xa.after.length ca151, .int .i64 (xa.next), .slice pz152 (xa.rows.length + 1) cz152, .slice pd151 xa.dirty.length cd151] (by rfl) hsrc (by omega) (by unfold maxLen; omega) (by omega) (by have := P152.kept.size; rw [World.size_alloc]; omega) ?_; intro v153 w153 r153 k153 at153; obtain ⟨pv153, cv153, ys153, hv153, P153⟩ := P152.push (bad_rA HR.out) (show 19 + 1 = 20 from rfl) ((Kept.refl [] w152).alloc _) r153 k153 at153; subst hv153)
  clear hsrc r153 k153 at153 P152 z0 z1 z2 z3 z4 z5 z6 z7 z8 z9 z10
  have c0 := P153.kept.cell (HBX.out.cell (j := 0) rfl) (by simp)
  have c1 := P153.kept.cell (HBX.out.cell (j := 1) rfl) (by simp)
  have c2 := P153.kept.cell (HBX.out.cell (j := 2) rfl) (by simp)
  have c3 := P153.kept.cell (HBX.out.cell (j := 3) rfl) (by simp)
  have c4 := P153.kept.cell (HBX.out.cell (j := 4) rfl) (by simp)
  have c5 := P153.kept.cell (HBX.out.cell (j := 5) rfl) (by simp)
  have c6 := P153.kept.cell (HBX.out.cell (j := 6) rfl) (by simp)
  have c7 := P153.kept.cell (HBX.out.cell (j := 7) rfl) (by simp)
  have c8 := P153.kept.cell (HBX.out.cell (j := 8) rfl) (by simp)
  have c9 := P153.kept.cell (HBX.out.cell (j := 9) rfl) (by simp)
  have c10 := P153.kept.cell (HBX.out.cell (j := 10) rfl) (by simp)
  go_wp2_with fail
  refine (hCp _ P153.kept).mono ?_
  rintro e q154 ⟨V154, rfl, hO154, kq154⟩
  obtain ⟨pb154, cb154, pa154, ca154, pr154, cr154, pd154, cd154, hV154⟩ := hO154.see.shapes
  subst hV154
  dsimp only
  have bq := P153.blk.kept kq154 (by simp)
  have z0 : q154.cell? ⟨X, 0, none⟩ = some (.int .i64 (xa.kind)) := bq.cell (j := 0) rfl
  have z1 : q154.cell? ⟨X, 1, none⟩ = some (.int .i64 (xa.birth)) := bq.cell (j := 1) rfl
  have z2 : q154.cell? ⟨X, 2, none⟩ = some (.int .i64 (xa.prev)) := bq.cell (j := 2) rfl
  have z3 : q154.cell? ⟨X, 3, none⟩ = some (.int .i64 (xa.id)) := bq.cell (j := 3) rfl
  have z4 : q154.cell? ⟨X, 4, none⟩ = some (.int .i64 (xa.page)) := bq.cell (j := 4) rfl
  have z5 : q154.cell? ⟨X, 5, none⟩ = some (.int .i64 (xa.frm)) := bq.cell (j := 5) rfl
  have z6 : q154.cell? ⟨X, 6, none⟩ = some (.slice pb151 xa.before.length cb151) := bq.cell (j := 6) rfl
  have z7 : q154.cell? ⟨X, 7, none⟩ = some (.slice pa151 xa.after.length ca151) := bq.cell (j := 7) rfl
  have z8 : q154.cell? ⟨X, 8, none⟩ = some (.int .i64 (xa.next)) := bq.cell (j := 8) rfl
  have z9 : q154.cell? ⟨X, 9, none⟩ = some (.slice pz152 (xa.rows.length + 1) cz152) := bq.cell (j := 9) rfl
  have z10 : q154.cell? ⟨X, 10, none⟩ = some (.slice pd151 xa.dirty.length cd151) := bq.cell (j := 10) rfl
  have t0 := bq.free 0
  have t1 := bq.free 1
  have t2 := bq.free 2
  have t3 := bq.free 3
  have t4 := bq.free 4
  have t5 := bq.free 5
  have t6 := bq.free 6
  have t7 := bq.free 7
  have t8 := bq.free 8
  have t9 := bq.free 9
  have t10 := bq.free 10
  obtain ⟨bF, kF⟩ := Blk.fill11 (show Blk q154 X 26 [.int .i64 (xa.kind), .int .i64 (xa.birth), .int .i64 (xa.prev), .int .i64 (xa.id), .int .i64 (xa.page), .int .i64 (xa.frm), .slice pb151 xa.before.length cb151, .slice pa151 xa.after.length ca151, .int .i64 (xa.next), .slice pz152 (xa.rows.length + 1) cz152, .slice pd151 xa.dirty.length cd151] from bq) (.int .i64 (xa.kind)) (.int .i64 (xa.birth)) (.int .i64 (xa.prev)) (.int .i64 (xa.id)) (.int .i64 (xa.page)) (.int .i64 (xa.frm)) (.slice pb154 xa.before.length cb154) (.slice pa154 xa.after.length ca154) (.int .i64 (xa.next)) (.slice pr154 xa.rows.length cr154) (.slice pd154 xa.dirty.length cd154)
  obtain ⟨w154, hw154⟩ : ∃ wx, wx = (((((((((((q154.setCell ⟨X, 0, none⟩ (.int .i64 (xa.kind))).setCell ⟨X, 1, none⟩ (.int .i64 (xa.birth))).setCell ⟨X, 2, none⟩ (.int .i64 (xa.prev))).setCell ⟨X, 3, none⟩ (.int .i64 (xa.id))).setCell ⟨X, 4, none⟩ (.int .i64 (xa.page))).setCell ⟨X, 5, none⟩ (.int .i64 (xa.frm))).setCell ⟨X, 6, none⟩ (.slice pb154 xa.before.length cb154)).setCell ⟨X, 7, none⟩ (.slice pa154 xa.after.length ca154)).setCell ⟨X, 8, none⟩ (.int .i64 (xa.next))).setCell ⟨X, 9, none⟩ (.slice pr154 xa.rows.length cr154)).setCell ⟨X, 10, none⟩ (.slice pd154 xa.dirty.length cd154)) := ⟨_, rfl⟩
  rw [← hw154] at bF kF
  have HB154 : w153.heap.size ≤ w154.heap.size := Nat.le_trans kq154.size kF.size
  obtain ⟨P154, OW154, FR154⟩ := P153.copy (r := xa) (V := (⟨.slice pb154 xa.before.length cb154, .slice pa154 xa.after.length ca154, .slice pr154 xa.rows.length cr154, .slice pd154 xa.dirty.length cd154⟩ : RV)) kq154 hO154 bF kF
  go_upto_region 59 with fail
  rw [← hw154]
  clear hw154 bq bF kF hO154 kq154 P153 z0 t0 c0 z1 t1 c1 z2 t2 c2 z3 t3 c3 z4 t4 c4 z5 t5 c5 z6 t6 c6 z7 t7 c7 z8 t8 c8 z9 t9 c9 z10 t10 c10
  have z9 : w154.cell? ⟨X, 9, none⟩ = some (.slice pr154 xa.rows.length cr154) := P154.blk.cell (j := 9) rfl
  have t9 := P154.blk.free 9
  have hsrc := src_gen (P := Try.prog) w154 23 66 5 2 Try.underlying23 [.int .i64 (5), .int .i64 (1), .int .i64 (1), .int .i64 (5), .int .i64 (0), .int .i64 (5), .int .i64 (2), .int .i64 (1), .int .i64 (6), .int .i64 (0)] rfl (rcells_one [(⟨5, 1, 1, 5, 0⟩ : RowR), (⟨5, 2, 1, 6, 0⟩ : RowR)])
  have kl : Kept [] w154 (w154.alloc (.cells #[.int .i64 (5), .int .i64 (1), .int .i64 (1), .int .i64 (5), .int .i64 (0), .int .i64 (5), .int .i64 (2), .int .i64 (1), .int .i64 (6), .int .i64 (0)] 66)) := (Kept.refl [] w154).alloc _
  go_upto_region 60 with (at_builtin; refine wpList_append_row rfl (.tmp 187) (.tmp 190) 23 rfl w153.heap.size 66 inf (.agg #[.int .i64 0, .int .i64 0, .int .i64 0, .int .i64 0, .int .i64 0]) 5 40 Try.underlying23 HI.out.1 HI.out.2.1 HI.out.2.2.1 HI.out.2.2.2 rfl _ xa.rows.length (rcells xa.rows) (by rfl) (OW154.rows.kept kl (by simp)) _ 2 [.int .i64 (5), .int .i64 (1), .int .i64 (1), .int .i64 (5), .int .i64 (0), .int .i64 (5), .int .i64 (2), .int .i64 (1), .int .i64 (6), .int .i64 (0)] (by rfl) hsrc (by have := HLN.out; omega) (by have := HLN.out; unfold maxLen; omega) (by have := HLN.out; omega) (by have e1 := HB154; rw [World.size_alloc]; omega) ?_; intro v155 y155 o155 g155 at155; obtain ⟨pz155, cz155, hv155, -⟩ : ∃ p c, v155 = .slice p (xa.rows.length + 2) c ∧ _ := o155.shape; obtain ⟨bq, P155⟩ := P154.appR (new := [(⟨5, 1, 1, 5, 0⟩ : RowR), (⟨5, 2, 1, 6, 0⟩ : RowR)]) OW154 FR154 kl o155 g155; subst hv155; have z9' : y155.cell? ⟨X, 9, none⟩ = some (.slice pr154 xa.rows.length cr154) := bq.cell (j := 9) rfl; have t9' := bq.free 9; obtain ⟨w155, hw155⟩ : ∃ wx, wx = y155.setCell ⟨X, 9, none⟩ (.slice pz155 (xa.rows.length + 2) cz155) := ⟨_, rfl⟩; rw [← hw155] at P155)
  rw [← hw155]
  clear hw155 z9 t9 z9' t9' hsrc kl o155 g155 at155 bq P154 OW154 FR154 HB154
  have z0 : w155.cell? ⟨X, 0, none⟩ = some (.int .i64 (xa.kind)) := P155.blk.cell (j := 0) rfl
  have z1 : w155.cell? ⟨X, 1, none⟩ = some (.int .i64 (xa.birth)) := P155.blk.cell (j := 1) rfl
  have z2 : w155.cell? ⟨X, 2, none⟩ = some (.int .i64 (xa.prev)) := P155.blk.cell (j := 2) rfl
  have z3 : w155.cell? ⟨X, 3, none⟩ = some (.int .i64 (xa.id)) := P155.blk.cell (j := 3) rfl
  have z4 : w155.cell? ⟨X, 4, none⟩ = some (.int .i64 (xa.page)) := P155.blk.cell (j := 4) rfl
  have z5 : w155.cell? ⟨X, 5, none⟩ = some (.int .i64 (xa.frm)) := P155.blk.cell (j := 5) rfl
  have z6 : w155.cell? ⟨X, 6, none⟩ = some (.slice pb154 xa.before.length cb154) := P155.blk.cell (j := 6) rfl
  have z7 : w155.cell? ⟨X, 7, none⟩ = some (.slice pa154 xa.after.length ca154) := P155.blk.cell (j := 7) rfl
  have z8 : w155.cell? ⟨X, 8, none⟩ = some (.int .i64 (xa.next)) := P155.blk.cell (j := 8) rfl
  have z9 : w155.cell? ⟨X, 9, none⟩ = some (.slice pz155 (xa.rows.length + 2) cz155) := P155.blk.cell (j := 9) rfl
  have z10 : w155.cell? ⟨X, 10, none⟩ = some (.slice pd154 xa.dirty.length cd154) := P155.blk.cell (j := 10) rfl
  have hsrc := src_rcd (P := Try.prog) w155 38 26 Try.underlying38 [.int .i64 (xa.kind), .int .i64 (xa.birth), .int .i64 (xa.prev), .int .i64 (xa.id), .int .i64 (xa.page), .int .i64 (xa.frm), .slice pb154 xa.before.length cb154, .slice pa154 xa.after.length ca154, .int .i64 (xa.next), .slice pz155 (xa.rows.length + 2) cz155, .slice pd154 xa.dirty.length cd154] rfl (cl_one P155.see)
  go_upto_region 61 with (at_builtin; refine wpList_append_row rfl (.tmp 193) (.tmp 195) 38 rfl w1.heap.size 26 inf0 (.agg #[.int .i64 0, .int .i64 0, .int .i64 0, .int .i64 0, .int .i64 0, .int .i64 0, .slice none 0 0, .slice none 0 0, .int .i64 0, .slice none 0 0, .slice none 0 0]) 11 152 Try.underlying38 HI0.out.1 HI0.out.2.1 HI0.out.2.2.1 HI0.out.2.2.2 rfl _ 20 (pcells ys153) (by rfl) (P155.row.kept ((Kept.refl [] w155).alloc _) (by simp)) _ 1 [.int .i64 (xa.kind), .int .i64 (xa.birth), .int .i64 (xa.prev), .int .i64 (xa.id), .int .i64 (xa.page), .int .i64 (xa.frm), .slice pb154 xa.before.length cb154, .slice pa154 xa.after.length ca154, .int .i64 (xa.next), .slice pz155 (xa.rows.length + 2) cz155, .slice pd154 xa.dirty.length cd154] (by rfl) hsrc (by omega) (by unfold maxLen; omega) (by omega) (by have := P155.kept.size; rw [World.size_alloc]; omega) ?_; intro v156 w156 r156 k156 at156; obtain ⟨pv156, cv156, ys156, hv156, P156⟩ := P155.push (bad_rB HR.out) (show 20 + 1 = 21 from rfl) ((Kept.refl [] w155).alloc _) r156 k156 at156; subst hv156)
  clear hsrc r156 k156 at156 P155 z0 z1 z2 z3 z4 z5 z6 z7 z8 z9 z10
  have c0 := P156.kept.cell (HBX.out.cell (j := 0) rfl) (by simp)
  have c1 := P156.kept.cell (HBX.out.cell (j := 1) rfl) (by simp)
  have c2 := P156.kept.cell (HBX.out.cell (j := 2) rfl) (by simp)
  have c3 := P156.kept.cell (HBX.out.cell (j := 3) rfl) (by simp)
  have c4 := P156.kept.cell (HBX.out.cell (j := 4) rfl) (by simp)
  have c5 := P156.kept.cell (HBX.out.cell (j := 5) rfl) (by simp)
  have c6 := P156.kept.cell (HBX.out.cell (j := 6) rfl) (by simp)
  have c7 := P156.kept.cell (HBX.out.cell (j := 7) rfl) (by simp)
  have c8 := P156.kept.cell (HBX.out.cell (j := 8) rfl) (by simp)
  have c9 := P156.kept.cell (HBX.out.cell (j := 9) rfl) (by simp)
  have c10 := P156.kept.cell (HBX.out.cell (j := 10) rfl) (by simp)
  go_wp2_with fail
  refine (hCp _ P156.kept).mono ?_
  rintro e q157 ⟨V157, rfl, hO157, kq157⟩
  obtain ⟨pb157, cb157, pa157, ca157, pr157, cr157, pd157, cd157, hV157⟩ := hO157.see.shapes
  subst hV157
  dsimp only
  have bq := P156.blk.kept kq157 (by simp)
  have z0 : q157.cell? ⟨X, 0, none⟩ = some (.int .i64 (xa.kind)) := bq.cell (j := 0) rfl
  have z1 : q157.cell? ⟨X, 1, none⟩ = some (.int .i64 (xa.birth)) := bq.cell (j := 1) rfl
  have z2 : q157.cell? ⟨X, 2, none⟩ = some (.int .i64 (xa.prev)) := bq.cell (j := 2) rfl
  have z3 : q157.cell? ⟨X, 3, none⟩ = some (.int .i64 (xa.id)) := bq.cell (j := 3) rfl
  have z4 : q157.cell? ⟨X, 4, none⟩ = some (.int .i64 (xa.page)) := bq.cell (j := 4) rfl
  have z5 : q157.cell? ⟨X, 5, none⟩ = some (.int .i64 (xa.frm)) := bq.cell (j := 5) rfl
  have z6 : q157.cell? ⟨X, 6, none⟩ = some (.slice pb154 xa.before.length cb154) := bq.cell (j := 6) rfl
  have z7 : q157.cell? ⟨X, 7, none⟩ = some (.slice pa154 xa.after.length ca154) := bq.cell (j := 7) rfl
  have z8 : q157.cell? ⟨X, 8, none⟩ = some (.int .i64 (xa.next)) := bq.cell (j := 8) rfl
  have z9 : q157.cell? ⟨X, 9, none⟩ = some (.slice pz155 (xa.rows.length + 2) cz155) := bq.cell (j := 9) rfl
  have z10 : q157.cell? ⟨X, 10, none⟩ = some (.slice pd154 xa.dirty.length cd154) := bq.cell (j := 10) rfl
  have t0 := bq.free 0
  have t1 := bq.free 1
  have t2 := bq.free 2
  have t3 := bq.free 3
  have t4 := bq.free 4
  have t5 := bq.free 5
  have t6 := bq.free 6
  have t7 := bq.free 7
  have t8 := bq.free 8
  have t9 := bq.free 9
  have t10 := bq.free 10
  obtain ⟨bF, kF⟩ := Blk.fill11 (show Blk q157 X 26 [.int .i64 (xa.kind), .int .i64 (xa.birth), .int .i64 (xa.prev), .int .i64 (xa.id), .int .i64 (xa.page), .int .i64 (xa.frm), .slice pb154 xa.before.length cb154, .slice pa154 xa.after.length ca154, .int .i64 (xa.next), .slice pz155 (xa.rows.length + 2) cz155, .slice pd154 xa.dirty.length cd154] from bq) (.int .i64 (xa.kind)) (.int .i64 (xa.birth)) (.int .i64 (xa.prev)) (.int .i64 (xa.id)) (.int .i64 (xa.page)) (.int .i64 (xa.frm)) (.slice pb157 xa.before.length cb157) (.slice pa157 xa.after.length ca157) (.int .i64 (xa.next)) (.slice pr157 xa.rows.length cr157) (.slice pd157 xa.dirty.length cd157)
  obtain ⟨w157, hw157⟩ : ∃ wx, wx = (((((((((((q157.setCell ⟨X, 0, none⟩ (.int .i64 (xa.kind))).setCell ⟨X, 1, none⟩ (.int .i64 (xa.birth))).setCell ⟨X, 2, none⟩ (.int .i64 (xa.prev))).setCell ⟨X, 3, none⟩ (.int .i64 (xa.id))).setCell ⟨X, 4, none⟩ (.int .i64 (xa.page))).setCell ⟨X, 5, none⟩ (.int .i64 (xa.frm))).setCell ⟨X, 6, none⟩ (.slice pb157 xa.before.length cb157)).setCell ⟨X, 7, none⟩ (.slice pa157 xa.after.length ca157)).setCell ⟨X, 8, none⟩ (.int .i64 (xa.next))).setCell ⟨X, 9, none⟩ (.slice pr157 xa.rows.length cr157)).setCell ⟨X, 10, none⟩ (.slice pd157 xa.dirty.length cd157)) := ⟨_, rfl⟩
  rw [← hw157] at bF kF
  have HB157 : w156.heap.size ≤ w157.heap.size := Nat.le_trans kq157.size kF.size
  obtain ⟨P157, OW157, FR157⟩ := P156.copy (r := xa) (V := (⟨.slice pb157 xa.before.length cb157, .slice pa157 xa.after.length ca157, .slice pr157 xa.rows.length cr157, .slice pd157 xa.dirty.length cd157⟩ : RV)) kq157 hO157 bF kF
  go_upto_region 62 with fail
  rw [← hw157]
  clear hw157 bq bF kF hO157 kq157 P156 z0 t0 c0 z1 t1 c1 z2 t2 c2 z3 t3 c3 z4 t4 c4 z5 t5 c5 z6 t6 c6 z7 t7 c7 z8 t8 c8 z9 t9 c9 z10 t10 c10
  have z10 : w157.cell? ⟨X, 10, none⟩ = some (.slice pd157 xa.dirty.length cd157) := P157.blk.cell (j := 10) rfl
  have t10 := P157.blk.free 10
  have hsrc := src_gen (P := Try.prog) w157 24 68 2 1 Try.underlying24 [.int .i64 (16), .int .i64 (1)] rfl (dcells_one [(⟨16, 1⟩ : RecR)])
  have kl : Kept [] w157 (w157.alloc (.cells #[.int .i64 (16), .int .i64 (1)] 68)) := (Kept.refl [] w157).alloc _
  go_upto_region 63 with (at_builtin; refine wpList_append_row rfl (.tmp 200) (.tmp 202) 24 rfl w156.heap.size 68 inf2 (.agg #[.int .i64 0, .int .i64 0]) 2 16 Try.underlying24 HI2.out.1 HI2.out.2.1 HI2.out.2.2.1 HI2.out.2.2.2 rfl _ xa.dirty.length (dcells xa.dirty) (by rfl) (OW157.dirty.kept kl (by simp)) _ 1 [.int .i64 (16), .int .i64 (1)] (by rfl) hsrc (by have := HLN.out; omega) (by have := HLN.out; unfold maxLen; omega) (by have := HLN.out; omega) (by have e1 := HB157; rw [World.size_alloc]; omega) ?_; intro v158 y158 o158 g158 at158; obtain ⟨pz158, cz158, hv158, -⟩ : ∃ p c, v158 = .slice p (xa.dirty.length + 1) c ∧ _ := o158.shape; obtain ⟨bq, P158⟩ := P157.appD (new := [(⟨16, 1⟩ : RecR)]) OW157 FR157 kl o158 g158; subst hv158; have z10' : y158.cell? ⟨X, 10, none⟩ = some (.slice pd157 xa.dirty.length cd157) := bq.cell (j := 10) rfl; have t10' := bq.free 10; obtain ⟨w158, hw158⟩ : ∃ wx, wx = y158.setCell ⟨X, 10, none⟩ (.slice pz158 (xa.dirty.length + 1) cz158) := ⟨_, rfl⟩; rw [← hw158] at P158)
  rw [← hw158]
  clear hw158 z10 t10 z10' t10' hsrc kl o158 g158 at158 bq P157 OW157 FR157 HB157
  have z0 : w158.cell? ⟨X, 0, none⟩ = some (.int .i64 (xa.kind)) := P158.blk.cell (j := 0) rfl
  have z1 : w158.cell? ⟨X, 1, none⟩ = some (.int .i64 (xa.birth)) := P158.blk.cell (j := 1) rfl
  have z2 : w158.cell? ⟨X, 2, none⟩ = some (.int .i64 (xa.prev)) := P158.blk.cell (j := 2) rfl
  have z3 : w158.cell? ⟨X, 3, none⟩ = some (.int .i64 (xa.id)) := P158.blk.cell (j := 3) rfl
  have z4 : w158.cell? ⟨X, 4, none⟩ = some (.int .i64 (xa.page)) := P158.blk.cell (j := 4) rfl
  have z5 : w158.cell? ⟨X, 5, none⟩ = some (.int .i64 (xa.frm)) := P158.blk.cell (j := 5) rfl
  have z6 : w158.cell? ⟨X, 6, none⟩ = some (.slice pb157 xa.before.length cb157) := P158.blk.cell (j := 6) rfl
  have z7 : w158.cell? ⟨X, 7, none⟩ = some (.slice pa157 xa.after.length ca157) := P158.blk.cell (j := 7) rfl
  have z8 : w158.cell? ⟨X, 8, none⟩ = some (.int .i64 (xa.next)) := P158.blk.cell (j := 8) rfl
  have z9 : w158.cell? ⟨X, 9, none⟩ = some (.slice pr157 xa.rows.length cr157) := P158.blk.cell (j := 9) rfl
  have z10 : w158.cell? ⟨X, 10, none⟩ = some (.slice pz158 (xa.dirty.length + 1) cz158) := P158.blk.cell (j := 10) rfl
  have hsrc := src_rcd (P := Try.prog) w158 38 26 Try.underlying38 [.int .i64 (xa.kind), .int .i64 (xa.birth), .int .i64 (xa.prev), .int .i64 (xa.id), .int .i64 (xa.page), .int .i64 (xa.frm), .slice pb157 xa.before.length cb157, .slice pa157 xa.after.length ca157, .int .i64 (xa.next), .slice pr157 xa.rows.length cr157, .slice pz158 (xa.dirty.length + 1) cz158] rfl (cl_one P158.see)
  go_upto_region 64 with (at_builtin; refine wpList_append_row rfl (.tmp 205) (.tmp 207) 38 rfl w1.heap.size 26 inf0 (.agg #[.int .i64 0, .int .i64 0, .int .i64 0, .int .i64 0, .int .i64 0, .int .i64 0, .slice none 0 0, .slice none 0 0, .int .i64 0, .slice none 0 0, .slice none 0 0]) 11 152 Try.underlying38 HI0.out.1 HI0.out.2.1 HI0.out.2.2.1 HI0.out.2.2.2 rfl _ 21 (pcells ys156) (by rfl) (P158.row.kept ((Kept.refl [] w158).alloc _) (by simp)) _ 1 [.int .i64 (xa.kind), .int .i64 (xa.birth), .int .i64 (xa.prev), .int .i64 (xa.id), .int .i64 (xa.page), .int .i64 (xa.frm), .slice pb157 xa.before.length cb157, .slice pa157 xa.after.length ca157, .int .i64 (xa.next), .slice pr157 xa.rows.length cr157, .slice pz158 (xa.dirty.length + 1) cz158] (by rfl) hsrc (by omega) (by unfold maxLen; omega) (by omega) (by have := P158.kept.size; rw [World.size_alloc]; omega) ?_; intro v159 w159 r159 k159 at159; obtain ⟨pv159, cv159, ys159, hv159, P159⟩ := P158.push (bad_dA HR.out) (show 21 + 1 = 22 from rfl) ((Kept.refl [] w158).alloc _) r159 k159 at159; subst hv159)
  clear hsrc r159 k159 at159 P158 z0 z1 z2 z3 z4 z5 z6 z7 z8 z9 z10
  have c0 := P159.kept.cell (HBX.out.cell (j := 0) rfl) (by simp)
  have c1 := P159.kept.cell (HBX.out.cell (j := 1) rfl) (by simp)
  have c2 := P159.kept.cell (HBX.out.cell (j := 2) rfl) (by simp)
  have c3 := P159.kept.cell (HBX.out.cell (j := 3) rfl) (by simp)
  have c4 := P159.kept.cell (HBX.out.cell (j := 4) rfl) (by simp)
  have c5 := P159.kept.cell (HBX.out.cell (j := 5) rfl) (by simp)
  have c6 := P159.kept.cell (HBX.out.cell (j := 6) rfl) (by simp)
  have c7 := P159.kept.cell (HBX.out.cell (j := 7) rfl) (by simp)
  have c8 := P159.kept.cell (HBX.out.cell (j := 8) rfl) (by simp)
  have c9 := P159.kept.cell (HBX.out.cell (j := 9) rfl) (by simp)
  have c10 := P159.kept.cell (HBX.out.cell (j := 10) rfl) (by simp)
  go_wp2_with fail
  refine (hCp _ P159.kept).mono ?_
  rintro e q160 ⟨V160, rfl, hO160, kq160⟩
  obtain ⟨pb160, cb160, pa160, ca160, pr160, cr160, pd160, cd160, hV160⟩ := hO160.see.shapes
  subst hV160
  dsimp only
  have bq := P159.blk.kept kq160 (by simp)
  have z0 : q160.cell? ⟨X, 0, none⟩ = some (.int .i64 (xa.kind)) := bq.cell (j := 0) rfl
  have z1 : q160.cell? ⟨X, 1, none⟩ = some (.int .i64 (xa.birth)) := bq.cell (j := 1) rfl
  have z2 : q160.cell? ⟨X, 2, none⟩ = some (.int .i64 (xa.prev)) := bq.cell (j := 2) rfl
  have z3 : q160.cell? ⟨X, 3, none⟩ = some (.int .i64 (xa.id)) := bq.cell (j := 3) rfl
  have z4 : q160.cell? ⟨X, 4, none⟩ = some (.int .i64 (xa.page)) := bq.cell (j := 4) rfl
  have z5 : q160.cell? ⟨X, 5, none⟩ = some (.int .i64 (xa.frm)) := bq.cell (j := 5) rfl
  have z6 : q160.cell? ⟨X, 6, none⟩ = some (.slice pb157 xa.before.length cb157) := bq.cell (j := 6) rfl
  have z7 : q160.cell? ⟨X, 7, none⟩ = some (.slice pa157 xa.after.length ca157) := bq.cell (j := 7) rfl
  have z8 : q160.cell? ⟨X, 8, none⟩ = some (.int .i64 (xa.next)) := bq.cell (j := 8) rfl
  have z9 : q160.cell? ⟨X, 9, none⟩ = some (.slice pr157 xa.rows.length cr157) := bq.cell (j := 9) rfl
  have z10 : q160.cell? ⟨X, 10, none⟩ = some (.slice pz158 (xa.dirty.length + 1) cz158) := bq.cell (j := 10) rfl
  have t0 := bq.free 0
  have t1 := bq.free 1
  have t2 := bq.free 2
  have t3 := bq.free 3
  have t4 := bq.free 4
  have t5 := bq.free 5
  have t6 := bq.free 6
  have t7 := bq.free 7
  have t8 := bq.free 8
  have t9 := bq.free 9
  have t10 := bq.free 10
  obtain ⟨bF, kF⟩ := Blk.fill11 (show Blk q160 X 26 [.int .i64 (xa.kind), .int .i64 (xa.birth), .int .i64 (xa.prev), .int .i64 (xa.id), .int .i64 (xa.page), .int .i64 (xa.frm), .slice pb157 xa.before.length cb157, .slice pa157 xa.after.length ca157, .int .i64 (xa.next), .slice pr157 xa.rows.length cr157, .slice pz158 (xa.dirty.length + 1) cz158] from bq) (.int .i64 (xa.kind)) (.int .i64 (xa.birth)) (.int .i64 (xa.prev)) (.int .i64 (xa.id)) (.int .i64 (xa.page)) (.int .i64 (xa.frm)) (.slice pb160 xa.before.length cb160) (.slice pa160 xa.after.length ca160) (.int .i64 (xa.next)) (.slice pr160 xa.rows.length cr160) (.slice pd160 xa.dirty.length cd160)
  obtain ⟨w160, hw160⟩ : ∃ wx, wx = (((((((((((q160.setCell ⟨X, 0, none⟩ (.int .i64 (xa.kind))).setCell ⟨X, 1, none⟩ (.int .i64 (xa.birth))).setCell ⟨X, 2, none⟩ (.int .i64 (xa.prev))).setCell ⟨X, 3, none⟩ (.int .i64 (xa.id))).setCell ⟨X, 4, none⟩ (.int .i64 (xa.page))).setCell ⟨X, 5, none⟩ (.int .i64 (xa.frm))).setCell ⟨X, 6, none⟩ (.slice pb160 xa.before.length cb160)).setCell ⟨X, 7, none⟩ (.slice pa160 xa.after.length ca160)).setCell ⟨X, 8, none⟩ (.int .i64 (xa.next))).setCell ⟨X, 9, none⟩ (.slice pr160 xa.rows.length cr160)).setCell ⟨X, 10, none⟩ (.slice pd160 xa.dirty.length cd160)) := ⟨_, rfl⟩
  rw [← hw160] at bF kF
  have HB160 : w159.heap.size ≤ w160.heap.size := Nat.le_trans kq160.size kF.size
  obtain ⟨P160, OW160, FR160⟩ := P159.copy (r := xa) (V := (⟨.slice pb160 xa.before.length cb160, .slice pa160 xa.after.length ca160, .slice pr160 xa.rows.length cr160, .slice pd160 xa.dirty.length cd160⟩ : RV)) kq160 hO160 bF kF
  go_upto_region 65 with fail
  rw [← hw160]
  clear hw160 bq bF kF hO160 kq160 P159 z0 t0 c0 z1 t1 c1 z2 t2 c2 z3 t3 c3 z4 t4 c4 z5 t5 c5 z6 t6 c6 z7 t7 c7 z8 t8 c8 z9 t9 c9 z10 t10 c10
  have z10 : w160.cell? ⟨X, 10, none⟩ = some (.slice pd160 xa.dirty.length cd160) := P160.blk.cell (j := 10) rfl
  have t10 := P160.blk.free 10
  have hsrc := src_gen (P := Try.prog) w160 24 68 2 2 Try.underlying24 [.int .i64 (15), .int .i64 (1), .int .i64 (15), .int .i64 (2)] rfl (dcells_one [(⟨15, 1⟩ : RecR), (⟨15, 2⟩ : RecR)])
  have kl : Kept [] w160 (w160.alloc (.cells #[.int .i64 (15), .int .i64 (1), .int .i64 (15), .int .i64 (2)] 68)) := (Kept.refl [] w160).alloc _
  go_upto_region 66 with (at_builtin; refine wpList_append_row rfl (.tmp 212) (.tmp 215) 24 rfl w159.heap.size 68 inf2 (.agg #[.int .i64 0, .int .i64 0]) 2 16 Try.underlying24 HI2.out.1 HI2.out.2.1 HI2.out.2.2.1 HI2.out.2.2.2 rfl _ xa.dirty.length (dcells xa.dirty) (by rfl) (OW160.dirty.kept kl (by simp)) _ 2 [.int .i64 (15), .int .i64 (1), .int .i64 (15), .int .i64 (2)] (by rfl) hsrc (by have := HLN.out; omega) (by have := HLN.out; unfold maxLen; omega) (by have := HLN.out; omega) (by have e1 := HB160; rw [World.size_alloc]; omega) ?_; intro v161 y161 o161 g161 at161; obtain ⟨pz161, cz161, hv161, -⟩ : ∃ p c, v161 = .slice p (xa.dirty.length + 2) c ∧ _ := o161.shape; obtain ⟨bq, P161⟩ := P160.appD (new := [(⟨15, 1⟩ : RecR), (⟨15, 2⟩ : RecR)]) OW160 FR160 kl o161 g161; subst hv161; have z10' : y161.cell? ⟨X, 10, none⟩ = some (.slice pd160 xa.dirty.length cd160) := bq.cell (j := 10) rfl; have t10' := bq.free 10; obtain ⟨w161, hw161⟩ : ∃ wx, wx = y161.setCell ⟨X, 10, none⟩ (.slice pz161 (xa.dirty.length + 2) cz161) := ⟨_, rfl⟩; rw [← hw161] at P161)
  rw [← hw161]
  clear hw161 z10 t10 z10' t10' hsrc kl o161 g161 at161 bq P160 OW160 FR160 HB160
  have z0 : w161.cell? ⟨X, 0, none⟩ = some (.int .i64 (xa.kind)) := P161.blk.cell (j := 0) rfl
  have z1 : w161.cell? ⟨X, 1, none⟩ = some (.int .i64 (xa.birth)) := P161.blk.cell (j := 1) rfl
  have z2 : w161.cell? ⟨X, 2, none⟩ = some (.int .i64 (xa.prev)) := P161.blk.cell (j := 2) rfl
  have z3 : w161.cell? ⟨X, 3, none⟩ = some (.int .i64 (xa.id)) := P161.blk.cell (j := 3) rfl
  have z4 : w161.cell? ⟨X, 4, none⟩ = some (.int .i64 (xa.page)) := P161.blk.cell (j := 4) rfl
  have z5 : w161.cell? ⟨X, 5, none⟩ = some (.int .i64 (xa.frm)) := P161.blk.cell (j := 5) rfl
  have z6 : w161.cell? ⟨X, 6, none⟩ = some (.slice pb160 xa.before.length cb160) := P161.blk.cell (j := 6) rfl
  have z7 : w161.cell? ⟨X, 7, none⟩ = some (.slice pa160 xa.after.length ca160) := P161.blk.cell (j := 7) rfl
  have z8 : w161.cell? ⟨X, 8, none⟩ = some (.int .i64 (xa.next)) := P161.blk.cell (j := 8) rfl
  have z9 : w161.cell? ⟨X, 9, none⟩ = some (.slice pr160 xa.rows.length cr160) := P161.blk.cell (j := 9) rfl
  have z10 : w161.cell? ⟨X, 10, none⟩ = some (.slice pz161 (xa.dirty.length + 2) cz161) := P161.blk.cell (j := 10) rfl
  have hsrc := src_rcd (P := Try.prog) w161 38 26 Try.underlying38 [.int .i64 (xa.kind), .int .i64 (xa.birth), .int .i64 (xa.prev), .int .i64 (xa.id), .int .i64 (xa.page), .int .i64 (xa.frm), .slice pb160 xa.before.length cb160, .slice pa160 xa.after.length ca160, .int .i64 (xa.next), .slice pr160 xa.rows.length cr160, .slice pz161 (xa.dirty.length + 2) cz161] rfl (cl_one P161.see)
  go_upto_region 67 with (at_builtin; refine wpList_append_row rfl (.tmp 218) (.tmp 220) 38 rfl w1.heap.size 26 inf0 (.agg #[.int .i64 0, .int .i64 0, .int .i64 0, .int .i64 0, .int .i64 0, .int .i64 0, .slice none 0 0, .slice none 0 0, .int .i64 0, .slice none 0 0, .slice none 0 0]) 11 152 Try.underlying38 HI0.out.1 HI0.out.2.1 HI0.out.2.2.1 HI0.out.2.2.2 rfl _ 22 (pcells ys159) (by rfl) (P161.row.kept ((Kept.refl [] w161).alloc _) (by simp)) _ 1 [.int .i64 (xa.kind), .int .i64 (xa.birth), .int .i64 (xa.prev), .int .i64 (xa.id), .int .i64 (xa.page), .int .i64 (xa.frm), .slice pb160 xa.before.length cb160, .slice pa160 xa.after.length ca160, .int .i64 (xa.next), .slice pr160 xa.rows.length cr160, .slice pz161 (xa.dirty.length + 2) cz161] (by rfl) hsrc (by omega) (by unfold maxLen; omega) (by omega) (by have := P161.kept.size; rw [World.size_alloc]; omega) ?_; intro v162 w162 r162 k162 at162; obtain ⟨pv162, cv162, ys162, hv162, P162⟩ := P161.push (bad_dB HR.out) (show 22 + 1 = 23 from rfl) ((Kept.refl [] w161).alloc _) r162 k162 at162; subst hv162)
  clear hsrc r162 k162 at162 P161 z0 z1 z2 z3 z4 z5 z6 z7 z8 z9 z10
  have c0 := P162.kept.cell (HBX.out.cell (j := 0) rfl) (by simp)
  have c1 := P162.kept.cell (HBX.out.cell (j := 1) rfl) (by simp)
  have c2 := P162.kept.cell (HBX.out.cell (j := 2) rfl) (by simp)
  have c3 := P162.kept.cell (HBX.out.cell (j := 3) rfl) (by simp)
  have c4 := P162.kept.cell (HBX.out.cell (j := 4) rfl) (by simp)
  have c5 := P162.kept.cell (HBX.out.cell (j := 5) rfl) (by simp)
  have c6 := P162.kept.cell (HBX.out.cell (j := 6) rfl) (by simp)
  have c7 := P162.kept.cell (HBX.out.cell (j := 7) rfl) (by simp)
  have c8 := P162.kept.cell (HBX.out.cell (j := 8) rfl) (by simp)
  have c9 := P162.kept.cell (HBX.out.cell (j := 9) rfl) (by simp)
  have c10 := P162.kept.cell (HBX.out.cell (j := 10) rfl) (by simp)
  go_wp2_with fail
  refine (hCp _ P162.kept).mono ?_
  rintro e q163 ⟨V163, rfl, hO163, kq163⟩
  obtain ⟨pb163, cb163, pa163, ca163, pr163, cr163, pd163, cd163, hV163⟩ := hO163.see.shapes
  subst hV163
  dsimp only
  have bq := P162.blk.kept kq163 (by simp)
  have z0 : q163.cell? ⟨X, 0, none⟩ = some (.int .i64 (xa.kind)) := bq.cell (j := 0) rfl
  have z1 : q163.cell? ⟨X, 1, none⟩ = some (.int .i64 (xa.birth)) := bq.cell (j := 1) rfl
  have z2 : q163.cell? ⟨X, 2, none⟩ = some (.int .i64 (xa.prev)) := bq.cell (j := 2) rfl
  have z3 : q163.cell? ⟨X, 3, none⟩ = some (.int .i64 (xa.id)) := bq.cell (j := 3) rfl
  have z4 : q163.cell? ⟨X, 4, none⟩ = some (.int .i64 (xa.page)) := bq.cell (j := 4) rfl
  have z5 : q163.cell? ⟨X, 5, none⟩ = some (.int .i64 (xa.frm)) := bq.cell (j := 5) rfl
  have z6 : q163.cell? ⟨X, 6, none⟩ = some (.slice pb160 xa.before.length cb160) := bq.cell (j := 6) rfl
  have z7 : q163.cell? ⟨X, 7, none⟩ = some (.slice pa160 xa.after.length ca160) := bq.cell (j := 7) rfl
  have z8 : q163.cell? ⟨X, 8, none⟩ = some (.int .i64 (xa.next)) := bq.cell (j := 8) rfl
  have z9 : q163.cell? ⟨X, 9, none⟩ = some (.slice pr160 xa.rows.length cr160) := bq.cell (j := 9) rfl
  have z10 : q163.cell? ⟨X, 10, none⟩ = some (.slice pz161 (xa.dirty.length + 2) cz161) := bq.cell (j := 10) rfl
  have t0 := bq.free 0
  have t1 := bq.free 1
  have t2 := bq.free 2
  have t3 := bq.free 3
  have t4 := bq.free 4
  have t5 := bq.free 5
  have t6 := bq.free 6
  have t7 := bq.free 7
  have t8 := bq.free 8
  have t9 := bq.free 9
  have t10 := bq.free 10
  obtain ⟨bF, kF⟩ := Blk.fill11 (show Blk q163 X 26 [.int .i64 (xa.kind), .int .i64 (xa.birth), .int .i64 (xa.prev), .int .i64 (xa.id), .int .i64 (xa.page), .int .i64 (xa.frm), .slice pb160 xa.before.length cb160, .slice pa160 xa.after.length ca160, .int .i64 (xa.next), .slice pr160 xa.rows.length cr160, .slice pz161 (xa.dirty.length + 2) cz161] from bq) (.int .i64 (xa.kind)) (.int .i64 (xa.birth)) (.int .i64 (xa.prev)) (.int .i64 (xa.id)) (.int .i64 (xa.page)) (.int .i64 (xa.frm)) (.slice pb163 xa.before.length cb163) (.slice pa163 xa.after.length ca163) (.int .i64 (xa.next)) (.slice pr163 xa.rows.length cr163) (.slice pd163 xa.dirty.length cd163)
  obtain ⟨w163, hw163⟩ : ∃ wx, wx = (((((((((((q163.setCell ⟨X, 0, none⟩ (.int .i64 (xa.kind))).setCell ⟨X, 1, none⟩ (.int .i64 (xa.birth))).setCell ⟨X, 2, none⟩ (.int .i64 (xa.prev))).setCell ⟨X, 3, none⟩ (.int .i64 (xa.id))).setCell ⟨X, 4, none⟩ (.int .i64 (xa.page))).setCell ⟨X, 5, none⟩ (.int .i64 (xa.frm))).setCell ⟨X, 6, none⟩ (.slice pb163 xa.before.length cb163)).setCell ⟨X, 7, none⟩ (.slice pa163 xa.after.length ca163)).setCell ⟨X, 8, none⟩ (.int .i64 (xa.next))).setCell ⟨X, 9, none⟩ (.slice pr163 xa.rows.length cr163)).setCell ⟨X, 10, none⟩ (.slice pd163 xa.dirty.length cd163)) := ⟨_, rfl⟩
  rw [← hw163] at bF kF
  have HB163 : w162.heap.size ≤ w163.heap.size := Nat.le_trans kq163.size kF.size
  obtain ⟨P163, OW163, FR163⟩ := P162.copy (r := xa) (V := (⟨.slice pb163 xa.before.length cb163, .slice pa163 xa.after.length ca163, .slice pr163 xa.rows.length cr163, .slice pd163 xa.dirty.length cd163⟩ : RV)) kq163 hO163 bF kF
  go_upto_region 68 with fail
  rw [← hw163]
  clear hw163 bq bF kF hO163 kq163 P162 z0 t0 c0 z1 t1 c1 z2 t2 c2 z3 t3 c3 z4 t4 c4 z5 t5 c5 z6 t6 c6 z7 t7 c7 z8 t8 c8 z9 t9 c9 z10 t10 c10
  have z10 : w163.cell? ⟨X, 10, none⟩ = some (.slice pd163 xa.dirty.length cd163) := P163.blk.cell (j := 10) rfl
  have t10 := P163.blk.free 10
  have hsrc := src_gen (P := Try.prog) w163 24 68 2 1 Try.underlying24 [.int .i64 (15), .int .i64 (0)] rfl (dcells_one [(⟨15, 0⟩ : RecR)])
  have kl : Kept [] w163 (w163.alloc (.cells #[.int .i64 (15), .int .i64 (0)] 68)) := (Kept.refl [] w163).alloc _
  go_upto_region 69 with (at_builtin; refine wpList_append_row rfl (.tmp 225) (.tmp 227) 24 rfl w162.heap.size 68 inf2 (.agg #[.int .i64 0, .int .i64 0]) 2 16 Try.underlying24 HI2.out.1 HI2.out.2.1 HI2.out.2.2.1 HI2.out.2.2.2 rfl _ xa.dirty.length (dcells xa.dirty) (by rfl) (OW163.dirty.kept kl (by simp)) _ 1 [.int .i64 (15), .int .i64 (0)] (by rfl) hsrc (by have := HLN.out; omega) (by have := HLN.out; unfold maxLen; omega) (by have := HLN.out; omega) (by have e1 := HB163; rw [World.size_alloc]; omega) ?_; intro v164 y164 o164 g164 at164; obtain ⟨pz164, cz164, hv164, -⟩ : ∃ p c, v164 = .slice p (xa.dirty.length + 1) c ∧ _ := o164.shape; obtain ⟨bq, P164⟩ := P163.appD (new := [(⟨15, 0⟩ : RecR)]) OW163 FR163 kl o164 g164; subst hv164; have z10' : y164.cell? ⟨X, 10, none⟩ = some (.slice pd163 xa.dirty.length cd163) := bq.cell (j := 10) rfl; have t10' := bq.free 10; obtain ⟨w164, hw164⟩ : ∃ wx, wx = y164.setCell ⟨X, 10, none⟩ (.slice pz164 (xa.dirty.length + 1) cz164) := ⟨_, rfl⟩; rw [← hw164] at P164)
  rw [← hw164]
  clear hw164 z10 t10 z10' t10' hsrc kl o164 g164 at164 bq P163 OW163 FR163 HB163
  have z0 : w164.cell? ⟨X, 0, none⟩ = some (.int .i64 (xa.kind)) := P164.blk.cell (j := 0) rfl
  have z1 : w164.cell? ⟨X, 1, none⟩ = some (.int .i64 (xa.birth)) := P164.blk.cell (j := 1) rfl
  have z2 : w164.cell? ⟨X, 2, none⟩ = some (.int .i64 (xa.prev)) := P164.blk.cell (j := 2) rfl
  have z3 : w164.cell? ⟨X, 3, none⟩ = some (.int .i64 (xa.id)) := P164.blk.cell (j := 3) rfl
  have z4 : w164.cell? ⟨X, 4, none⟩ = some (.int .i64 (xa.page)) := P164.blk.cell (j := 4) rfl
  have z5 : w164.cell? ⟨X, 5, none⟩ = some (.int .i64 (xa.frm)) := P164.blk.cell (j := 5) rfl
  have z6 : w164.cell? ⟨X, 6, none⟩ = some (.slice pb163 xa.before.length cb163) := P164.blk.cell (j := 6) rfl
  have z7 : w164.cell? ⟨X, 7, none⟩ = some (.slice pa163 xa.after.length ca163) := P164.blk.cell (j := 7) rfl
  have z8 : w164.cell? ⟨X, 8, none⟩ = some (.int .i64 (xa.next)) := P164.blk.cell (j := 8) rfl
  have z9 : w164.cell? ⟨X, 9, none⟩ = some (.slice pr163 xa.rows.length cr163) := P164.blk.cell (j := 9) rfl
  have z10 : w164.cell? ⟨X, 10, none⟩ = some (.slice pz164 (xa.dirty.length + 1) cz164) := P164.blk.cell (j := 10) rfl
  have hsrc := src_rcd (P := Try.prog) w164 38 26 Try.underlying38 [.int .i64 (xa.kind), .int .i64 (xa.birth), .int .i64 (xa.prev), .int .i64 (xa.id), .int .i64 (xa.page), .int .i64 (xa.frm), .slice pb163 xa.before.length cb163, .slice pa163 xa.after.length ca163, .int .i64 (xa.next), .slice pr163 xa.rows.length cr163, .slice pz164 (xa.dirty.length + 1) cz164] rfl (cl_one P164.see)
  go_wp2_with (at_builtin; refine wpList_append_row rfl (.tmp 230) (.tmp 232) 38 rfl w1.heap.size 26 inf0 (.agg #[.int .i64 0, .int .i64 0, .int .i64 0, .int .i64 0, .int .i64 0, .int .i64 0, .slice none 0 0, .slice none 0 0, .int .i64 0, .slice none 0 0, .slice none 0 0]) 11 152 Try.underlying38 HI0.out.1 HI0.out.2.1 HI0.out.2.2.1 HI0.out.2.2.2 rfl _ 23 (pcells ys162) (by rfl) (P164.row.kept ((Kept.refl [] w164).alloc _) (by simp)) _ 1 [.int .i64 (xa.kind), .int .i64 (xa.birth), .int .i64 (xa.prev), .int .i64 (xa.id), .int .i64 (xa.page), .int .i64 (xa.frm), .slice pb163 xa.before.length cb163, .slice pa163 xa.after.length ca163, .int .i64 (xa.next), .slice pr163 xa.rows.length cr163, .slice pz164 (xa.dirty.length + 1) cz164] (by rfl) hsrc (by omega) (by unfold maxLen; omega) (by omega) (by have := P164.kept.size; rw [World.size_alloc]; omega) ?_; intro v165 w165 r165 k165 at165; obtain ⟨pv165, cv165, ys165, hv165, P165⟩ := P164.push (bad_dC HR.out) (show 23 + 1 = 24 from rfl) ((Kept.refl [] w164).alloc _) r165 k165 at165; subst hv165)
  clear hsrc r165 k165 at165 P164 z0 z1 z2 z3 z4 z5 z6 z7 z8 z9 z10
  have FIN := @hideH _ (And.intro P165.len (And.intro P165.row.cs (And.intro P165.all (HK1.out.then P165.kept))))
  clear P165
  go_ret
  exact SpoDone.of (N := 24) (by decide) (by decide) FIN.out
end Go.Proofs.Ytebcmcmboomgfaa

