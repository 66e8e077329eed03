import Derived.Test.YtebcmcmboomgfaaC10
/-
  OWN WORK (by mklwe.py). RecordKeeps.
-/
namespace Go.Proofs.Ytebcmcmboomgfaa
open Go.RowKit
set_option linter.unusedVariables false
set_option linter.unusedSimpArgs false

theorem rSame_self (V1 V2 : RV) (r : Rcd) (w : World) (g1 : SeeR w V1 r) (g2 : SeeR w V2 r) : Calls Try.prog 13 #[r.agg V1, r.agg V2] w fun e w' => e = .returned (.bool true) ∧ Kept [] w w' := by
  have q := rSame V1 V2 r r w g1 g2
  rw [bl_t (rfl : r = r)] at q
  exact q
set_option maxRecDepth 40000 in
set_option maxHeartbeats 12800000 in
theorem recordKeeps_walk (Va : RV) (xa : Rcd) (x : UInt8) (w : World) (sa : SeeR w Va xa) (hcap : DeskCap xa) : Calls Try.prog 6 #[xa.agg Va, .int .u8 (x.toNat : Int)] w fun e w' => e = .returned (.bool true) ∧ Kept [] w w' := by
  have hDk := fun wz (kz : Kept [] w wz) => desked_any _ xa wz (sa.kept kz) hcap
  have HSA := @hideH _ sa
  have HCAP := @hideH _ hcap
  obtain ⟨pba, cba, paa, caa, pra, cra, pda, cda, hVa⟩ := sa.shapes
  subst hVa
  clear sa hcap
  unfold Rcd.agg at hDk ⊢
  dsimp only at hDk ⊢
  obtain ⟨w1, hw1⟩ : ∃ wx, wx = w.alloc (.cells #[.int .i64 xa.kind, .int .i64 xa.birth, .int .i64 xa.prev, .int .i64 xa.id, .int .i64 xa.page, .int .i64 xa.frm, .slice pba xa.before.length cba, .slice paa xa.after.length caa, .int .i64 xa.next, .slice pra xa.rows.length cra, .slice pda xa.dirty.length cda] 26) := ⟨_, rfl⟩
  have k1 : Kept [] w w1 := by rw [hw1]; exact (Kept.refl [] w).alloc _
  have Ba : Blk w1 w.heap.size 26 [.int .i64 xa.kind, .int .i64 xa.birth, .int .i64 xa.prev, .int .i64 xa.id, .int .i64 xa.page, .int .i64 xa.frm, .slice pba xa.before.length cba, .slice paa xa.after.length caa, .int .i64 xa.next, .slice pra xa.rows.length cra, .slice pda xa.dirty.length cda] := by rw [hw1]; exact Blk.new w _ _
  go_enter Try.func6, Try.ntmps6
  go_upto_region 1 with fail
  rw [← hw1]
  clear hw1
  go_wp2_with fail
  refine (alive_any _).mono ?_
  rintro e w2 ⟨rfl, k2⟩
  have K2 := k1.then k2
  have Ba2 := Ba.kept k2 (by simp)
  have ca0 := Ba2.cell (j := 0) rfl
  have ca1 := Ba2.cell (j := 1) rfl
  have ca2 := Ba2.cell (j := 2) rfl
  have ca3 := Ba2.cell (j := 3) rfl
  have ca4 := Ba2.cell (j := 4) rfl
  have ca5 := Ba2.cell (j := 5) rfl
  have ca6 := Ba2.cell (j := 6) rfl
  have ca7 := Ba2.cell (j := 7) rfl
  have ca8 := Ba2.cell (j := 8) rfl
  have ca9 := Ba2.cell (j := 9) rfl
  have ca10 := Ba2.cell (j := 10) rfl
  clear Ba k1 k2
  go_wp2_with fail
  refine (hDk _ K2).mono ?_
  clear hDk
  rintro e w3 ⟨pB, cB, pA, cA, pR, cR, pD, cD, rfl, hO, k3⟩
  unfold deskV
  obtain ⟨w4, hw4⟩ : ∃ wx, wx = w3.alloc (.cells #[.int .i64 xa.kind, .int .i64 xa.birth, .int .i64 xa.prev, .int .i64 xa.id, .int .i64 xa.page, .int .i64 xa.frm, .slice pB xa.before.length cB, .slice pA xa.after.length cA, .int .i64 xa.next, .slice pR xa.rows.length cR, .slice pD xa.dirty.length cD, .slice pB (xa.before.length + 120) cB, .slice pA (xa.after.length + 120) cA, .slice pR (xa.rows.length + 40) cR, .slice pD (xa.dirty.length + 40) cD] 42) := ⟨_, rfl⟩
  have k4 : Kept [] w3 w4 := by rw [hw4]; exact (Kept.refl [] w3).alloc _
  have BE : Blk w4 w3.heap.size 42 [.int .i64 xa.kind, .int .i64 xa.birth, .int .i64 xa.prev, .int .i64 xa.id, .int .i64 xa.page, .int .i64 xa.frm, .slice pB xa.before.length cB, .slice pA xa.after.length cA, .int .i64 xa.next, .slice pR xa.rows.length cR, .slice pD xa.dirty.length cD, .slice pB (xa.before.length + 120) cB, .slice pA (xa.after.length + 120) cA, .slice pR (xa.rows.length + 40) cR, .slice pD (xa.dirty.length + 40) cD] := by rw [hw4]; exact Blk.new w3 _ _
  have hD := hO.read.kept k4
  have HO := @hideH _ (And.intro hO k4)
  have K4 := K2.then (k3.then k4)
  have Ba4 := Ba2.kept (k3.then k4) (by simp)
  have HLO := @hideH _ (And.intro K2.size k3.size)
  clear hO Ba2 k3 k4 K2 ca0 ca1 ca2 ca3 ca4 ca5 ca6 ca7 ca8 ca9 ca10
  go_upto_region 4 with fail
  rw [← hw4]
  clear hw4
  have e0 := BE.cell (j := 0) rfl
  have e1 := BE.cell (j := 1) rfl
  have e2 := BE.cell (j := 2) rfl
  have e3 := BE.cell (j := 3) rfl
  have e4 := BE.cell (j := 4) rfl
  have e5 := BE.cell (j := 5) rfl
  have e6 := BE.cell (j := 6) rfl
  have e7 := BE.cell (j := 7) rfl
  have e8 := BE.cell (j := 8) rfl
  have e9 := BE.cell (j := 9) rfl
  have e10 := BE.cell (j := 10) rfl
  have e11 := BE.cell (j := 11) rfl
  have e12 := BE.cell (j := 12) rfl
  have e13 := BE.cell (j := 13) rfl
  have e14 := BE.cell (j := 14) rfl
  have hB := qBytes _ xa w4 hD.see
  unfold Rcd.agg at hB
  dsimp only at hB
  go_wp2_with fail
  refine hB.mono ?_
  clear hB
  rintro e w5 ⟨u5, rfl, a5⟩
  have k5 := a5.2
  have b5 := a5.bs
  have HA5 := @hideH _ a5.1
  obtain ⟨p5, q5, hu5⟩ := own_shape2 a5.1
  subst hu5
  clear a5 e0 e1 e2 e3 e4 e5 e6 e7 e8 e9 e10 e11 e12 e13 e14
  by_cases hR : xa.Right
  rotate_left
  · have eE := errF_f hR
    rw [eE]
    have KE := @hideH _ (K4.then k5)
    clear eE hR b5 K4 k5 hD BE Ba4
    go_wp2_with fail
    refine (rNum _ _).mono ?_
    rintro e wq ⟨rfl, hq⟩
    rw [hq]
    clear hq wq
    go_wp2_with fail
    refine (rNum _ _).mono ?_
    rintro e wq ⟨rfl, hq⟩
    rw [hq]
    clear hq wq
    go_wp2
    go_ret
    exact ⟨by simp, KE.out⟩
  have eE := errF_t hR
  have eB := bytesF_t hR
  rw [eB] at b5 HA5
  rw [eE, eB]
  have HR := @hideH _ hR
  obtain ⟨nn, hnn⟩ : ∃ nn, nn = (bytesR xa).length := ⟨_, rfl⟩
  have HNN := @hideH _ (show nn = (bytesR xa).length ∧ 17 ≤ nn ∧ nn ≤ 371 from ⟨hnn, by rw [hnn, bytesR_length hR]; unfold sizeT; split; omega; split; omega; split; omega; split; omega; omega, by rw [hnn]; exact bytesR_small hR⟩)
  rw [← hnn] at b5 HA5 ⊢
  clear eE eB hR hnn
  go_wp2_with fail
  refine (rNum _ _).mono ?_
  rintro e wq ⟨rfl, hq⟩
  rw [hq]
  clear hq wq
  go_upto_region 9 with (at_builtin; refine wpList_append_bs rfl (.tmp 37) (.tmp 38) 22 rfl w5.heap.size 5 Try.underlying22 (by kernel_rfl) _ _ _ (by rfl) (own_nil w5 w5.heap.size) _ (bytesR xa) (by rfl) b5 (by have := HNN.out; omega) (Nat.le_refl _) ?_; intro v6 w6 o6 g6 at6)
  have k6 : Kept [] w5 w6 := (Kept.refl [] w5).grown g6 (fun y hy => by cases hy)
  rw [← HNN.out.1, Nat.zero_add, show u8s [] ++ u8s (bytesR xa) = u8s (bytesR xa) from rfl] at o6
  obtain ⟨p6, q6, hv6⟩ := own_shape2 o6
  subst hv6
  have b6 : Bs w6 (.slice p6 nn q6) (bytesR xa) := Bs.ofOwn (n := (bytesR xa).length) (by rw [← HNN.out.1]; exact o6)
  have HO6 := @hideH _ (And.intro o6 k6)
  clear o6 g6 at6 b5
  have hP := qParse1 _ (bytesR xa) w6 (b6) (by have := HNN.out; omega)
  go_wp2_with fail
  refine hP.mono ?_
  clear hP
  rintro e w7 ⟨Vf, xf, Ef, rfl, owf, kw7, hf⟩
  obtain ⟨hxf, hEf⟩ := parse_same hf.out (.inl ⟨parseR_of HR.out, rfl⟩)
  replace hxf := hxf.symm
  subst hxf hEf
  have sf := owf.see
  obtain ⟨pbf, cbf, paf, caf, prf, crf, pdf, cdf, hVf⟩ := sf.shapes
  subst hVf
  clear hf
  unfold Rcd.agg
  dsimp only
  obtain ⟨w8, hw8⟩ : ∃ wx, wx = w7.alloc (.cells #[.int .i64 xa.kind, .int .i64 xa.birth, .int .i64 xa.prev, .int .i64 xa.id, .int .i64 xa.page, .int .i64 xa.frm, .slice pbf xa.before.length cbf, .slice paf xa.after.length caf, .int .i64 xa.next, .slice prf xa.rows.length crf, .slice pdf xa.dirty.length cdf] 26) := ⟨_, rfl⟩
  have kw8 : Kept [] w7 w8 := by rw [hw8]; exact (Kept.refl [] w7).alloc _
  have Bf : Blk w8 w7.heap.size 26 [.int .i64 xa.kind, .int .i64 xa.birth, .int .i64 xa.prev, .int .i64 xa.id, .int .i64 xa.page, .int .i64 xa.frm, .slice pbf xa.before.length cbf, .slice paf xa.after.length caf, .int .i64 xa.next, .slice prf xa.rows.length crf, .slice pdf xa.dirty.length cdf] := by rw [hw8]; exact Blk.new w7 _ _
  have HOf := @hideH _ owf
  go_upto_region 10 with fail
  rw [← hw8]
  clear hw8 owf
  have K48 := (k5.then HO6.out.2).then (kw7.then kw8)
  have BE8 := BE.kept K48 (by simp)
  have hD8 := hD.kept K48
  have e0 := BE8.cell (j := 0) rfl
  have e1 := BE8.cell (j := 1) rfl
  have e2 := BE8.cell (j := 2) rfl
  have e3 := BE8.cell (j := 3) rfl
  have e4 := BE8.cell (j := 4) rfl
  have e5 := BE8.cell (j := 5) rfl
  have e6 := BE8.cell (j := 6) rfl
  have e7 := BE8.cell (j := 7) rfl
  have e8 := BE8.cell (j := 8) rfl
  have e9 := BE8.cell (j := 9) rfl
  have e10 := BE8.cell (j := 10) rfl
  have e11 := BE8.cell (j := 11) rfl
  have e12 := BE8.cell (j := 12) rfl
  have e13 := BE8.cell (j := 13) rfl
  have e14 := BE8.cell (j := 14) rfl
  have hB := qBytes _ xa w8 hD8.see
  unfold Rcd.agg at hB
  dsimp only at hB
  go_wp2_with fail
  refine hB.mono ?_
  clear hB
  rintro e w9 ⟨u9, rfl, a9⟩
  have k9 := a9.2
  have o9 := a9.1
  have eE := errF_t HR.out
  have eB := bytesF_t HR.out
  rw [eB, ← HNN.out.1] at o9
  rw [eE]
  obtain ⟨p9, q9, hu9⟩ := own_shape2 o9
  subst hu9
  have HO9 := @hideH _ o9
  clear a9 o9 eE eB BE8 hD8 e0 e1 e2 e3 e4 e5 e6 e7 e8 e9 e10 e11 e12 e13 e14
  have hP := qParse1 _ (bytesR xa) w9 (b6.kept ((kw7.then kw8).then k9)) (by have := HNN.out; omega)
  go_wp2_with fail
  refine hP.mono ?_
  clear hP
  rintro e w10 ⟨Vg, xg, Eg, rfl, owg, kw10, hg⟩
  obtain ⟨hxg, hEg⟩ := parse_same hg.out (.inl ⟨parseR_of HR.out, rfl⟩)
  replace hxg := hxg.symm
  subst hxg hEg
  have sg := owg.see
  obtain ⟨pbg, cbg, pag, cag, prg, crg, pdg, cdg, hVg⟩ := sg.shapes
  subst hVg
  clear hg
  unfold Rcd.agg
  dsimp only
  obtain ⟨w11, hw11⟩ : ∃ wx, wx = w10.alloc (.cells #[.int .i64 xa.kind, .int .i64 xa.birth, .int .i64 xa.prev, .int .i64 xa.id, .int .i64 xa.page, .int .i64 xa.frm, .slice pbg xa.before.length cbg, .slice pag xa.after.length cag, .int .i64 xa.next, .slice prg xa.rows.length crg, .slice pdg xa.dirty.length cdg] 26) := ⟨_, rfl⟩
  have kw11 : Kept [] w10 w11 := by rw [hw11]; exact (Kept.refl [] w10).alloc _
  have Bg : Blk w11 w10.heap.size 26 [.int .i64 xa.kind, .int .i64 xa.birth, .int .i64 xa.prev, .int .i64 xa.id, .int .i64 xa.page, .int .i64 xa.frm, .slice pbg xa.before.length cbg, .slice pag xa.after.length cag, .int .i64 xa.next, .slice prg xa.rows.length crg, .slice pdg xa.dirty.length cdg] := by rw [hw11]; exact Blk.new w10 _ _
  have HOg := @hideH _ owg
  go_upto_region 12 with fail
  rw [← hw11]
  clear hw11 owg
  have K811 := k9.then (kw10.then kw11)
  have Bf11 := Bf.kept K811 (by simp)
  have K411 := K48.then K811
  have Ba11 := Ba4.kept K411 (by simp)
  have hS1 := rSame_self _ _ xa w11 (sf.kept (kw8.then K811)) (HSA.out.kept (K4.then K411))
  have hS2 := fun wz (kz : Kept [] w11 wz) => rSame_self _ _ xa wz (sg.kept (kw11.then kz)) (HSA.out.kept ((K4.then K411).then kz))
  unfold Rcd.agg at hS1 hS2
  dsimp only at hS1 hS2
  have cf0 := Bf11.cell (j := 0) rfl
  have cf1 := Bf11.cell (j := 1) rfl
  have cf2 := Bf11.cell (j := 2) rfl
  have cf3 := Bf11.cell (j := 3) rfl
  have cf4 := Bf11.cell (j := 4) rfl
  have cf5 := Bf11.cell (j := 5) rfl
  have cf6 := Bf11.cell (j := 6) rfl
  have cf7 := Bf11.cell (j := 7) rfl
  have cf8 := Bf11.cell (j := 8) rfl
  have cf9 := Bf11.cell (j := 9) rfl
  have cf10 := Bf11.cell (j := 10) rfl
  have ca0 := Ba11.cell (j := 0) rfl
  have ca1 := Ba11.cell (j := 1) rfl
  have ca2 := Ba11.cell (j := 2) rfl
  have ca3 := Ba11.cell (j := 3) rfl
  have ca4 := Ba11.cell (j := 4) rfl
  have ca5 := Ba11.cell (j := 5) rfl
  have ca6 := Ba11.cell (j := 6) rfl
  have ca7 := Ba11.cell (j := 7) rfl
  have ca8 := Ba11.cell (j := 8) rfl
  have ca9 := Ba11.cell (j := 9) rfl
  have ca10 := Ba11.cell (j := 10) rfl
  have cg0 := Bg.cell (j := 0) rfl
  have cg1 := Bg.cell (j := 1) rfl
  have cg2 := Bg.cell (j := 2) rfl
  have cg3 := Bg.cell (j := 3) rfl
  have cg4 := Bg.cell (j := 4) rfl
  have cg5 := Bg.cell (j := 5) rfl
  have cg6 := Bg.cell (j := 6) rfl
  have cg7 := Bg.cell (j := 7) rfl
  have cg8 := Bg.cell (j := 8) rfl
  have cg9 := Bg.cell (j := 9) rfl
  have cg10 := Bg.cell (j := 10) rfl
  go_wp2_with fail
  refine hS1.mono ?_
  clear hS1
  rintro e w12 ⟨rfl, k12⟩
  replace cf0 := k12.cell cf0 (by simp)
  replace cf1 := k12.cell cf1 (by simp)
  replace cf2 := k12.cell cf2 (by simp)
  replace cf3 := k12.cell cf3 (by simp)
  replace cf4 := k12.cell cf4 (by simp)
  replace cf5 := k12.cell cf5 (by simp)
  replace cf6 := k12.cell cf6 (by simp)
  replace cf7 := k12.cell cf7 (by simp)
  replace cf8 := k12.cell cf8 (by simp)
  replace cf9 := k12.cell cf9 (by simp)
  replace cf10 := k12.cell cf10 (by simp)
  replace ca0 := k12.cell ca0 (by simp)
  replace ca1 := k12.cell ca1 (by simp)
  replace ca2 := k12.cell ca2 (by simp)
  replace ca3 := k12.cell ca3 (by simp)
  replace ca4 := k12.cell ca4 (by simp)
  replace ca5 := k12.cell ca5 (by simp)
  replace ca6 := k12.cell ca6 (by simp)
  replace ca7 := k12.cell ca7 (by simp)
  replace ca8 := k12.cell ca8 (by simp)
  replace ca9 := k12.cell ca9 (by simp)
  replace ca10 := k12.cell ca10 (by simp)
  replace cg0 := k12.cell cg0 (by simp)
  replace cg1 := k12.cell cg1 (by simp)
  replace cg2 := k12.cell cg2 (by simp)
  replace cg3 := k12.cell cg3 (by simp)
  replace cg4 := k12.cell cg4 (by simp)
  replace cg5 := k12.cell cg5 (by simp)
  replace cg6 := k12.cell cg6 (by simp)
  replace cg7 := k12.cell cg7 (by simp)
  replace cg8 := k12.cell cg8 (by simp)
  replace cg9 := k12.cell cg9 (by simp)
  replace cg10 := k12.cell cg10 (by simp)
  go_wp2_with fail
  refine (hS2 _ k12).mono ?_
  clear hS2
  rintro e w13 ⟨rfl, k13⟩
  replace cf0 := k13.cell cf0 (by simp)
  replace cf1 := k13.cell cf1 (by simp)
  replace cf2 := k13.cell cf2 (by simp)
  replace cf3 := k13.cell cf3 (by simp)
  replace cf4 := k13.cell cf4 (by simp)
  replace cf5 := k13.cell cf5 (by simp)
  replace cf6 := k13.cell cf6 (by simp)
  replace cf7 := k13.cell cf7 (by simp)
  replace cf8 := k13.cell cf8 (by simp)
  replace cf9 := k13.cell cf9 (by simp)
  replace cf10 := k13.cell cf10 (by simp)
  replace ca0 := k13.cell ca0 (by simp)
  replace ca1 := k13.cell ca1 (by simp)
  replace ca2 := k13.cell ca2 (by simp)
  replace ca3 := k13.cell ca3 (by simp)
  replace ca4 := k13.cell ca4 (by simp)
  replace ca5 := k13.cell ca5 (by simp)
  replace ca6 := k13.cell ca6 (by simp)
  replace ca7 := k13.cell ca7 (by simp)
  replace ca8 := k13.cell ca8 (by simp)
  replace ca9 := k13.cell ca9 (by simp)
  replace ca10 := k13.cell ca10 (by simp)
  replace cg0 := k13.cell cg0 (by simp)
  replace cg1 := k13.cell cg1 (by simp)
  replace cg2 := k13.cell cg2 (by simp)
  replace cg3 := k13.cell cg3 (by simp)
  replace cg4 := k13.cell cg4 (by simp)
  replace cg5 := k13.cell cg5 (by simp)
  replace cg6 := k13.cell cg6 (by simp)
  replace cg7 := k13.cell cg7 (by simp)
  replace cg8 := k13.cell cg8 (by simp)
  replace cg9 := k13.cell cg9 (by simp)
  replace cg10 := k13.cell cg10 (by simp)
  have K1113 := k12.then k13
  clear k12 k13
  have K513 := HO6.out.2.then (kw7.then (kw8.then (K811.then K1113)))
  have K713 := kw8.then (K811.then K1113)
  have K913 := (kw10.then kw11).then K1113
  have K1013 := kw11.then K1113
  have F13 : Fam w13 w4.heap.size [Value.slice p5 nn q5, Value.slice pbf xa.before.length cbf, Value.slice paf xa.after.length caf, Value.slice p9 nn q9, Value.slice pbg xa.before.length cbg, Value.slice pag xa.after.length cag] [bytesR xa, xa.before, xa.after, bytesR xa, xa.before, xa.after] := fam_six9 (b0 := w4.heap.size) (b1 := w6.heap.size) (b2 := w8.heap.size) (b3 := w9.heap.size) (Nat.le_trans k5.size HO6.out.2.size) (Nat.le_trans kw7.size kw8.size) k9.size (by rw [← HNN.out.1]; exact own_of_kept HA5.out K513 (by simp)) (fun x hx => Nat.lt_of_lt_of_le (own_lt HA5.out x hx) HO6.out.2.size) (own_of_kept HOf.out.before K713 (by simp)) (own_of_kept HOf.out.after K713 (by simp)) HOf.out.ba (fun x hx => Nat.lt_of_lt_of_le (own_lt HOf.out.before x hx) kw8.size) (fun x hx => Nat.lt_of_lt_of_le (own_lt HOf.out.after x hx) kw8.size) (by rw [← HNN.out.1]; exact own_of_kept HO9.out K913 (by simp)) (fun x hx => own_lt HO9.out x hx) (own_of_kept HOg.out.before K1013 (by simp)) (own_of_kept HOg.out.after K1013 (by simp)) HOg.out.ba
  have s13 := HSA.out.kept ((K4.then K411).then K1113)
  have tb : (Go.convert 22 9 (.slice pba xa.before.length cba)).run Try.prog w13 = .ok (.string ⟨xa.before.toArray⟩) w13 := (s13.before : Bs w13 (.slice pba xa.before.length cba) xa.before).textR
  have ta : (Go.convert 22 9 (.slice paa xa.after.length caa)).run Try.prog w13 = .ok (.string ⟨xa.after.toArray⟩) w13 := (s13.after : Bs w13 (.slice paa xa.after.length caa) xa.after).textR
  have tm : ∀ o1, (Go.convert 22 9 (.slice p6 nn q6)).run Try.prog (w13.alloc o1) = .ok (.string ⟨(bytesR xa).toArray⟩) (w13.alloc o1) := fun o1 => (b6.kept ((kw7.then (kw8.then (K811.then K1113))).alloc o1)).textR
  go_wp2_with fail
  obtain ⟨wx, hwx⟩ : ∃ wx, wx = (w13.alloc (.cells #[.slice p5 nn q5, .slice pbf xa.before.length cbf, .slice paf xa.after.length caf, .slice p9 nn q9, .slice pbg xa.before.length cbg, .slice pag xa.after.length cag] 22)).alloc (.cells #[.string ⟨(bytesR xa).toArray⟩, .string ⟨xa.before.toArray⟩, .string ⟨xa.after.toArray⟩, .string ⟨(bytesR xa).toArray⟩, .string ⟨xa.before.toArray⟩, .string ⟨xa.after.toArray⟩] 9) := ⟨_, rfl⟩
  have kx : Kept [] w13 wx := by rw [hwx]; exact ((Kept.refl [] w13).alloc _).alloc _
  have OX : wx.ownsRow w4.heap.size 22 1 (.slice (some ⟨w13.heap.size, 0, none⟩) 6 6) 6 [Value.slice p5 nn q5, Value.slice pbf xa.before.length cbf, Value.slice paf xa.after.length caf, Value.slice p9 nn q9, Value.slice pbg xa.before.length cbg, Value.slice pag xa.after.length cag] := by rw [hwx]; exact own_of_kept (own_of_slices9 w13 22 w4.heap.size [Value.slice p5 nn q5, Value.slice pbf xa.before.length cbf, Value.slice paf xa.after.length caf, Value.slice p9 nn q9, Value.slice pbg xa.before.length cbg, Value.slice pag xa.after.length cag] 6 rfl (K411.then K1113).size (by decide) _ rfl) ((Kept.refl [] _).alloc _) (by simp)
  have SX : ∀ (j : Nat) l, ([bytesR xa, xa.before, xa.after, bytesR xa, xa.before, xa.after] : List (List UInt8))[j]? = some l → wx.cell? ⟨w13.heap.size + 1, j, none⟩ = some (.string ⟨l.toArray⟩) := by rw [hwx]; exact strs_at9 _ 9 _ [bytesR xa, xa.before, xa.after, bytesR xa, xa.before, xa.after] rfl _ (by simp)
  have FX := F13.kept kx (by simp)
  have hap := apart_any w13.heap.size 6 6 (w13.heap.size + 1) 6 _ _ w4.heap.size wx OX FX SX rfl (by decide) ((K411.then K1113).then kx).size (keeps_nn9 _ _ _ (by have := HNN.out; omega) (copyCap_right HR.out).2.1 (copyCap_right HR.out).2.2.1)
  rw [← hwx]
  clear hwx OX SX FX F13 tb ta tm
  refine hap.mono ?_
  clear hap
  rintro e w14 ⟨rfl, k14⟩
  obtain ⟨M14, T14, TT, hs14⟩ := keeps_apart k5 HA5.out HO6.out.2 HO6.out.1 kw7 HOf.out kw8 Bf k9 HO9.out kw10 HOg.out kw11 Bg (K1113.then kx) k14
  have hT := tables_any _ _ xa xa xa.rows.length xa.dirty.length w4.heap.size w14 hs14 sf sg rfl rfl rfl rfl (copyCap_right HR.out).2.2.2 T14
  unfold Rcd.agg at hT
  dsimp only at hT
  clear k14 kx K1113 K513 K713 K913 K1013 s13 T14 hs14 HOf HOg HO6 HO9 HA5 K48 K411 K811 Bf11 Ba11 Bf Bg kw7 kw8 kw10 kw11 k5 k9 b6 sf sg cf0 cf1 cf2 cf3 cf4 cf5 cf6 cf7 cf8 cf9 cf10 ca0 ca1 ca2 ca3 ca4 ca5 ca6 ca7 ca8 ca9 ca10 cg0 cg1 cg2 cg3 cg4 cg5 cg6 cg7 cg8 cg9 cg10
  have cf0 := M14.bf.cell (j := 0) rfl
  have cf1 := M14.bf.cell (j := 1) rfl
  have cf2 := M14.bf.cell (j := 2) rfl
  have cf3 := M14.bf.cell (j := 3) rfl
  have cf4 := M14.bf.cell (j := 4) rfl
  have cf5 := M14.bf.cell (j := 5) rfl
  have cf6 := M14.bf.cell (j := 6) rfl
  have cf7 := M14.bf.cell (j := 7) rfl
  have cf8 := M14.bf.cell (j := 8) rfl
  have cf9 := M14.bf.cell (j := 9) rfl
  have cf10 := M14.bf.cell (j := 10) rfl
  have cg0 := M14.bg.cell (j := 0) rfl
  have cg1 := M14.bg.cell (j := 1) rfl
  have cg2 := M14.bg.cell (j := 2) rfl
  have cg3 := M14.bg.cell (j := 3) rfl
  have cg4 := M14.bg.cell (j := 4) rfl
  have cg5 := M14.bg.cell (j := 5) rfl
  have cg6 := M14.bg.cell (j := 6) rfl
  have cg7 := M14.bg.cell (j := 7) rfl
  have cg8 := M14.bg.cell (j := 8) rfl
  have cg9 := M14.bg.cell (j := 9) rfl
  have cg10 := M14.bg.cell (j := 10) rfl
  go_wp2_with fail
  refine hT.mono ?_
  clear hT
  rintro e w15 ⟨rfl, k15⟩
  have M15 := keeps_tables M14 TT k15
  clear M14 TT k15 cf0 cf1 cf2 cf3 cf4 cf5 cf6 cf7 cf8 cf9 cf10 cg0 cg1 cg2 cg3 cg4 cg5 cg6 cg7 cg8 cg9 cg10
  have BE15 := BE.kept M15.kept (by simp)
  have Ba15 := Ba4.kept M15.kept (by simp)
  have e0 := BE15.cell (j := 0) rfl
  have e1 := BE15.cell (j := 1) rfl
  have e2 := BE15.cell (j := 2) rfl
  have e3 := BE15.cell (j := 3) rfl
  have e4 := BE15.cell (j := 4) rfl
  have e5 := BE15.cell (j := 5) rfl
  have e6 := BE15.cell (j := 6) rfl
  have e7 := BE15.cell (j := 7) rfl
  have e8 := BE15.cell (j := 8) rfl
  have e9 := BE15.cell (j := 9) rfl
  have e10 := BE15.cell (j := 10) rfl
  have e11 := BE15.cell (j := 11) rfl
  have e12 := BE15.cell (j := 12) rfl
  have e13 := BE15.cell (j := 13) rfl
  have e14 := BE15.cell (j := 14) rfl
  have ca0 := Ba15.cell (j := 0) rfl
  have ca1 := Ba15.cell (j := 1) rfl
  have ca2 := Ba15.cell (j := 2) rfl
  have ca3 := Ba15.cell (j := 3) rfl
  have ca4 := Ba15.cell (j := 4) rfl
  have ca5 := Ba15.cell (j := 5) rfl
  have ca6 := Ba15.cell (j := 6) rfl
  have ca7 := Ba15.cell (j := 7) rfl
  have ca8 := Ba15.cell (j := 8) rfl
  have ca9 := Ba15.cell (j := 9) rfl
  have ca10 := Ba15.cell (j := 10) rfl
  have hSt := stays_any _ xa pB cB pA cA pR cR pD cD w15 (HSA.out.kept (K4.then M15.kept)) (hD.kept M15.kept) HCAP.out
  unfold deskV Rcd.agg at hSt
  dsimp only at hSt
  go_wp2_with fail
  refine hSt.mono ?_
  clear hSt
  rintro e w16 ⟨rfl, k16⟩
  have HM := @hideH _ (M15.then k16)
  clear M15 k16 BE15 Ba15 hD HSA HCAP Ba4 ca0 ca1 ca2 ca3 ca4 ca5 ca6 ca7 ca8 ca9 ca10 e0 e1 e2 e3 e4 e5 e6 e7 e8 e9 e10 e11 e12 e13 e14
  obtain ⟨gA, dA, eA, hgA, -⟩ := own_at9 HO.out.1.fa (by omega)
  simp only [Value.slice.injEq] at eA
  obtain ⟨eA, -, -⟩ := eA
  subst eA
  have HAA := @hideH _ (show w.heap.size ≤ w2.heap.size ∧ w2.heap.size ≤ gA ∧ gA < w3.heap.size from ⟨HLO.out.1, hgA, own_lt HO.out.1.fa gA rfl⟩)
  clear hgA
  have HT0 := @hideH _ (Trn.start HO.out.1.fa (HO.out.2.then HM.out.kept))
  have HK4 := @hideH _ K4
  have HBE := @hideH _ BE
  have HLN := @hideH _ (copyCap_right HR.out).2
  clear K4 BE HLO
  go_wp2
  go_loopw [17] (fun vi wr => ∃ k : Nat, k ≤ xa.after.length ∧ vi = .int .i64 k ∧ Hid (Trn w16 wr w2.heap.size gA cA xa.after k)) (fun vi _ => xa.after.length - (intOf vi).toNat)
  case atStart => exact ⟨0, Nat.zero_le _, rfl, HT0.out⟩
  case round =>
    clear HT0
    obtain ⟨k, hk, rfl, hh⟩ := hrel
    have HA := @hideH _ (keeps_turned HAA.out.1 HAA.out.2 HK4.out HBE.out HM.out hh.out)
    have e7 := HA.out.be.cell (j := 7) rfl
    by_cases hkl : k < xa.after.length
    · have hkl' : (k : Int) < (xa.after.length : Int) := by omega
      have hk0 : (0 : Int) ≤ (k : Int) := by omega
      have wk : IntKind.i64.wrap ((k : Int) + 1) = (k : Int) + 1 := wrap_i64_of (by omega) (by have := HLN.out; omega)
      obtain ⟨y, hy⟩ : ∃ y, xa.after[k]? = some y := ⟨_, List.getElem?_eq_getElem hkl⟩
      go_upto_region 21 with fail
      obtain ⟨wd, hwd⟩ : ∃ wx, wx = wr.drew := ⟨_, rfl⟩
      have kd : Kept [] wr wd := by rw [hwd]; exact (Kept.refl [] wr).drew
      have td := hh.out.then kd
      obtain ⟨cy, fy⟩ := td.cell hy
      have tn := td.set hy
      obtain ⟨yv, hyv⟩ : ∃ yv : Int, yv = ((y ^^^ 0x10).toNat : Int) := ⟨_, rfl⟩
      have hxx : bits .xor .u8 (y.toNat : Int) 16 = yv := by rw [hyv]; exact xor16 y
      obtain ⟨wn, hwn⟩ : ∃ wx, wx = wd.setCell ⟨gA, k, none⟩ (.int .u8 yv) := ⟨_, rfl⟩
      rw [← hyv, ← hwn] at tn
      clear hyv
      have HTN := @hideH _ tn
      clear tn td hy hh
      refine wp_region_late (fun w' => w'.cell? ⟨w3.heap.size, 7, none⟩ = some (.slice (some ⟨gA, 0, none⟩) xa.after.length cA) ∧ w'.cell? ⟨gA, k, none⟩ = some (.int .u8 (y.toNat : Int))) 12 (by kernel_rfl) ?_
      rw [← hwd]
      clear hwd
      have hS : wd.cell? ⟨w3.heap.size, 7, none⟩ = some (.slice (some ⟨gA, 0, none⟩) xa.after.length cA) ∧ wd.cell? ⟨gA, k, none⟩ = some (.int .u8 (y.toNat : Int)) := ⟨kd.cell e7 (by simp), cy⟩
      refine wpAnyZ_take 0 (v := ?v_0) rfl (by kernel_rfl) (by kernel_rfl) (by kernel_rfl) (by kernel_rfl) (fun _ _ _ h => h) (by rfl) ?hy_0 hS ?rest_0
      case hy_0 => (intro wx hSx; obtain ⟨hs1, hs2⟩ := hSx; go_simp; (try with_reducible rfl))
      (try simp only [Act.put, List.setIfInBounds_toArray, List.set_cons_zero, List.set_cons_succ])
      refine wpAnyZ_take 1 (v := ?v_1) rfl (by kernel_rfl) (by kernel_rfl) (by kernel_rfl) (by kernel_rfl) (fun _ _ _ h => h) (by rfl) ?hy_1 hS ?rest_1
      case hy_1 => (intro wx hSx; obtain ⟨hs1, hs2⟩ := hSx; go_simp; (try with_reducible rfl))
      (try simp only [Act.put, List.setIfInBounds_toArray, List.set_cons_zero, List.set_cons_succ])
      refine wpAnyZ_take 2 (v := ?v_2) rfl (by kernel_rfl) (by kernel_rfl) (by kernel_rfl) (by kernel_rfl) (fun _ _ _ h => h) (by rfl) ?hy_2 hS ?rest_2
      case hy_2 => (intro wx hSx; obtain ⟨hs1, hs2⟩ := hSx; go_simp; (try with_reducible rfl))
      (try simp only [Act.put, List.setIfInBounds_toArray, List.set_cons_zero, List.set_cons_succ])
      refine wpAnyZ_take 3 (v := ?v_3) rfl (by kernel_rfl) (by kernel_rfl) (by kernel_rfl) (by kernel_rfl) (fun _ _ _ h => h) (by rfl) ?hy_3 hS ?rest_3
      case hy_3 => (intro wx hSx; obtain ⟨hs1, hs2⟩ := hSx; go_simp; (try with_reducible rfl))
      (try simp only [Act.put, List.setIfInBounds_toArray, List.set_cons_zero, List.set_cons_succ])
      refine wpAnyZ_take 4 (v := ?v_4) rfl (by kernel_rfl) (by kernel_rfl) (by kernel_rfl) (by kernel_rfl) (fun _ _ _ h => h) (by rfl) ?hy_4 hS ?rest_4
      case hy_4 => (intro wx hSx; obtain ⟨hs1, hs2⟩ := hSx; go_simp; (try with_reducible rfl))
      (try simp only [Act.put, List.setIfInBounds_toArray, List.set_cons_zero, List.set_cons_succ])
      refine wpAnyZ_take 5 (v := ?v_5) rfl (by kernel_rfl) (by kernel_rfl) (by kernel_rfl) (by kernel_rfl) (fun _ _ _ h => h) (by rfl) ?hy_5 hS ?rest_5
      case hy_5 => (intro wx hSx; obtain ⟨hs1, hs2⟩ := hSx; go_simp; (try with_reducible rfl))
      (try simp only [Act.put, List.setIfInBounds_toArray, List.set_cons_zero, List.set_cons_succ])
      refine wpAnyZ_take 6 (v := ?v_6) rfl (by kernel_rfl) (by kernel_rfl) (by kernel_rfl) (by kernel_rfl) (fun _ _ _ h => h) (by rfl) ?hy_6 hS ?rest_6
      case hy_6 => (intro wx hSx; obtain ⟨hs1, hs2⟩ := hSx; go_simp; (try with_reducible rfl))
      (try simp only [Act.put, List.setIfInBounds_toArray, List.set_cons_zero, List.set_cons_succ])
      refine wpAnyZ_take 7 (v := ?v_7) rfl (by kernel_rfl) (by kernel_rfl) (by kernel_rfl) (by kernel_rfl) (fun _ _ _ h => h) (by rfl) ?hy_7 hS ?rest_7
      case hy_7 => (intro wx hSx; obtain ⟨hs1, hs2⟩ := hSx; go_simp; (try with_reducible rfl))
      (try simp only [Act.put, List.setIfInBounds_toArray, List.set_cons_zero, List.set_cons_succ])
      refine wpAnyZ_take 8 (v := ?v_8) rfl (by kernel_rfl) (by kernel_rfl) (by kernel_rfl) (by kernel_rfl) (fun _ _ _ h => h) (by rfl) ?hy_8 hS ?rest_8
      case hy_8 => (intro wx hSx; obtain ⟨hs1, hs2⟩ := hSx; go_simp; (try with_reducible rfl))
      (try simp only [Act.put, List.setIfInBounds_toArray, List.set_cons_zero, List.set_cons_succ])
      refine wpAnyZ_take 9 (v := ?v_9) rfl (by kernel_rfl) (by kernel_rfl) (by kernel_rfl) (by kernel_rfl) (fun _ _ _ h => h) (by rfl) ?hy_9 hS ?rest_9
      case hy_9 => (intro wx hSx; obtain ⟨hs1, hs2⟩ := hSx; go_simp; (try with_reducible rfl))
      (try simp only [Act.put, List.setIfInBounds_toArray, List.set_cons_zero, List.set_cons_succ])
      refine wpAnyZ_take 10 (v := ?v_10) rfl (by kernel_rfl) (by kernel_rfl) (by kernel_rfl) (by kernel_rfl) (fun _ _ _ h => h) (by rfl) ?hy_10 hS ?rest_10
      case hy_10 => (intro wx hSx; obtain ⟨hs1, hs2⟩ := hSx; go_simp; (try with_reducible rfl))
      (try simp only [Act.put, List.setIfInBounds_toArray, List.set_cons_zero, List.set_cons_succ])
      refine wpAnyZ_take 11 (v := ?v_11) rfl (by kernel_rfl) (by kernel_rfl) (by kernel_rfl) (by kernel_rfl) (fun _ _ _ h => h) (by rfl) ?hy_11 hS ?rest_11
      case hy_11 => (intro wx hSx; obtain ⟨hs1, hs2⟩ := hSx; go_simp; (try with_reducible rfl))
      (try simp only [Act.put, List.setIfInBounds_toArray, List.set_cons_zero, List.set_cons_succ])
      refine wpAnyZ_one 12 rfl (by kernel_rfl) (fun K hK => ?_)
      go_simp
      refine hK _ _ (fun h => absurd rfl h) ?_
      clear hK K
      (try simp only [Act.put, List.setIfInBounds_toArray, List.set_cons_zero, List.set_cons_succ])
      refine wpAnyZ_done (by kernel_rfl) ?_ _
      rw [← hwn]
      clear hwn hS cy fy kd e7 hxx
      go_wp2
      go_roundw
      case rel => exact ⟨k + 1, by omega, by go_num, HTN.out⟩
      case measure => simp [intOf]; omega
    · have ek : k = xa.after.length := by omega
      subst ek
      obtain ⟨lf, hlf⟩ : ∃ lf, lf = turn9 xa.after xa.after.length := ⟨_, rfl⟩
      have hll : lf.length = xa.after.length := by rw [hlf, turn9_length]
      have see := desk_turned HO.out.1 (HO.out.2.then HM.out.kept) hh.out lf hlf
      rw [hll] at see
      clear hlf hh e7 hkl hk HM HO HK4 HBE
      have hCp := copied_any _ (⟨xa.kind, xa.birth, xa.prev, xa.id, xa.page, xa.frm, xa.before, lf, xa.next, xa.rows, xa.dirty⟩ : Rcd) wr see (by have q := (copyCap_right HR.out).1; unfold CopyCap at q ⊢; dsimp only; rw [hll]; exact q)
      obtain ⟨EE, hEE⟩ : ∃ z, z = errF (⟨xa.kind, xa.birth, xa.prev, xa.id, xa.page, xa.frm, xa.before, lf, xa.next, xa.rows, xa.dirty⟩ : Rcd) := ⟨_, rfl⟩
      obtain ⟨lb, hlb⟩ : ∃ l, l = bytesF (⟨xa.kind, xa.birth, xa.prev, xa.id, xa.page, xa.frm, xa.before, lf, xa.next, xa.rows, xa.dirty⟩ : Rcd) := ⟨_, rfl⟩
      have hB1 := fun wz (kz : Kept [] wr wz) => qBytes _ (⟨xa.kind, xa.birth, xa.prev, xa.id, xa.page, xa.frm, xa.before, lf, xa.next, xa.rows, xa.dirty⟩ : Rcd) wz (see.kept kz)
      rw [← hEE, ← hlb] at hB1
      unfold Rcd.agg at hCp hB1
      dsimp only at hCp hB1
      clear see
      have e0 := HA.out.be.cell (j := 0) rfl
      have e1 := HA.out.be.cell (j := 1) rfl
      have e2 := HA.out.be.cell (j := 2) rfl
      have e3 := HA.out.be.cell (j := 3) rfl
      have e4 := HA.out.be.cell (j := 4) rfl
      have e5 := HA.out.be.cell (j := 5) rfl
      have e6 := HA.out.be.cell (j := 6) rfl
      have e7 := HA.out.be.cell (j := 7) rfl
      have e8 := HA.out.be.cell (j := 8) rfl
      have e9 := HA.out.be.cell (j := 9) rfl
      have e10 := HA.out.be.cell (j := 10) rfl
      go_wp2_with fail
      refine hCp.mono ?_
      clear hCp
      rintro e w17 ⟨Vo, rfl, oo, k17⟩
      obtain ⟨pbo, cbo, pao, cao, pro, cro, pdo, cdo, hVo⟩ := oo.see.shapes
      dsimp only at hVo
      rw [hll] at hVo
      subst hVo
      clear hll
      dsimp only
      obtain ⟨w18, hw18⟩ : ∃ wx, wx = w17.alloc (.cells #[.int .i64 xa.kind, .int .i64 xa.birth, .int .i64 xa.prev, .int .i64 xa.id, .int .i64 xa.page, .int .i64 xa.frm, .slice pbo xa.before.length cbo, .slice pao xa.after.length cao, .int .i64 xa.next, .slice pro xa.rows.length cro, .slice pdo xa.dirty.length cdo] 26) := ⟨_, rfl⟩
      have k18 : Kept [] w17 w18 := by rw [hw18]; exact (Kept.refl [] w17).alloc _
      have Bo : Blk w18 w17.heap.size 26 [.int .i64 xa.kind, .int .i64 xa.birth, .int .i64 xa.prev, .int .i64 xa.id, .int .i64 xa.page, .int .i64 xa.frm, .slice pbo xa.before.length cbo, .slice pao xa.after.length cao, .int .i64 xa.next, .slice pro xa.rows.length cro, .slice pdo xa.dirty.length cdo] := by rw [hw18]; exact Blk.new w17 _ _
      go_upto_region 23 with fail
      rw [← hw18]
      clear hw18 e0 e1 e2 e3 e4 e5 e6 e7 e8 e9 e10
      have HA18 := @hideH _ (HA.out.then (k17.then k18))
      have hB2 := fun wz (kz : Kept [] w18 wz) => qBytes _ (⟨xa.kind, xa.birth, xa.prev, xa.id, xa.page, xa.frm, xa.before, lf, xa.next, xa.rows, xa.dirty⟩ : Rcd) wz ((oo.see.kept k18).kept kz)
      rw [← hEE, ← hlb] at hB2
      unfold Rcd.agg at hB2
      dsimp only at hB2
      have hB := hB1 w18 (k17.then k18)
      clear hB1 hEE hlb HA oo k17 k18
      have e0 := HA18.out.be.cell (j := 0) rfl
      have e1 := HA18.out.be.cell (j := 1) rfl
      have e2 := HA18.out.be.cell (j := 2) rfl
      have e3 := HA18.out.be.cell (j := 3) rfl
      have e4 := HA18.out.be.cell (j := 4) rfl
      have e5 := HA18.out.be.cell (j := 5) rfl
      have e6 := HA18.out.be.cell (j := 6) rfl
      have e7 := HA18.out.be.cell (j := 7) rfl
      have e8 := HA18.out.be.cell (j := 8) rfl
      have e9 := HA18.out.be.cell (j := 9) rfl
      have e10 := HA18.out.be.cell (j := 10) rfl
      go_wp2_with fail
      refine hB.mono ?_
      clear hB
      rintro e w19 ⟨u19, rfl, a19⟩
      have k19 := a19.2
      have b19 := a19.bs
      obtain ⟨p19, q19, hu⟩ := own_shape2 a19.1
      subst hu
      have HA19 := @hideH _ (HA18.out.then k19)
      have Bo19 := Bo.kept k19 (by simp)
      have hB := hB2 w19 k19
      clear hB2 a19 k19 HA18 Bo e0 e1 e2 e3 e4 e5 e6 e7 e8 e9 e10
      have co0 := Bo19.cell (j := 0) rfl
      have co1 := Bo19.cell (j := 1) rfl
      have co2 := Bo19.cell (j := 2) rfl
      have co3 := Bo19.cell (j := 3) rfl
      have co4 := Bo19.cell (j := 4) rfl
      have co5 := Bo19.cell (j := 5) rfl
      have co6 := Bo19.cell (j := 6) rfl
      have co7 := Bo19.cell (j := 7) rfl
      have co8 := Bo19.cell (j := 8) rfl
      have co9 := Bo19.cell (j := 9) rfl
      have co10 := Bo19.cell (j := 10) rfl
      go_wp2_with fail
      refine hB.mono ?_
      clear hB
      rintro e w20 ⟨u20, rfl, a20⟩
      have k20 := a20.2
      have b20 := a20.bs
      obtain ⟨p20, q20, hu⟩ := own_shape2 a20.1
      subst hu
      have HA20 := @hideH _ (HA19.out.then k20)
      have t19 := (b19.kept k20).textR
      have t20 := b20.textR
      clear a20 k20 b19 b20 HA19 Bo19 co0 co1 co2 co3 co4 co5 co6 co7 co8 co9 co10
      go_wp2_with fail
      refine (rNum _ _).mono ?_
      rintro e wq ⟨rfl, hq⟩
      rw [hq]
      clear hq wq
      go_wp2_with fail
      refine (rNum _ _).mono ?_
      rintro e wq ⟨rfl, hq⟩
      rw [hq]
      clear hq wq
      have mz : 0 < nn := by have := HNN.out; omega
      have nz : (0 : Int) < (nn : Int) := by omega
      obtain ⟨g6, d6, e6, hg6, hc6⟩ := own_at9 HA20.out.mine mz
      simp only [Value.slice.injEq] at e6
      obtain ⟨e61, -, e62⟩ := e6
      subst e61 e62
      obtain ⟨y0, hy0⟩ : ∃ y, (bytesR xa)[0]? = some y := ⟨_, List.getElem?_eq_getElem (by have := HNN.out; omega)⟩
      obtain ⟨c0, f0⟩ := hc6 0 _ (show (u8s (bytesR xa))[0]? = some (.int .u8 (y0.toNat : Int)) by simp [u8s, hy0])
      clear hc6 hg6 hy0
      obtain ⟨yv, hyv⟩ : ∃ yv : Int, yv = ((y0 ^^^ x).toNat : Int) := ⟨_, rfl⟩
      have hxx : bits .xor .u8 (y0.toNat : Int) (x.toNat : Int) = yv := by rw [hyv]; exact xorB y0 x
      have A21 := HA20.out.first (y0 ^^^ x)
      rw [← hyv] at A21
      obtain ⟨w21, hw21⟩ : ∃ wx, wx = w20.setCell ⟨g6, 0, none⟩ (.int .u8 yv) := ⟨_, rfl⟩
      rw [← hw21] at A21
      obtain ⟨lm, hlm⟩ : ∃ lm, lm = (bytesR xa).set 0 (y0 ^^^ x) := ⟨_, rfl⟩
      rw [← hlm] at A21
      have HLM := @hideH _ (show lm.length = nn by rw [hlm, List.length_set]; exact HNN.out.1.symm)
      have HA21 := @hideH _ A21
      clear A21 hyv hlm HA20
      go_upto_region 28 with fail
      rw [← hw21]
      clear hw21 t19 t20 c0 f0 hxx
      have hP := qParse1 _ lm w21 (Bs.ofOwn HA21.out.mine) (by have e1 := HLM.out; have e2 := HNN.out; omega)
      go_wp2_with fail
      refine hP.mono ?_
      clear hP
      rintro e w22 ⟨Vh, xh, Eh, rfl, owh, kw22, hh⟩
      have sh := owh.see
      obtain ⟨pbh, cbh, pah, cah, prh, crh, pdh, cdh, hVh⟩ := sh.shapes
      subst hVh
      unfold Rcd.agg
      dsimp only
      have A := HA21.out.then kw22
      have z0 := A.bf.cell (j := 0) rfl
      have z1 := A.bf.cell (j := 1) rfl
      have z2 := A.bf.cell (j := 2) rfl
      have z3 := A.bf.cell (j := 3) rfl
      have z4 := A.bf.cell (j := 4) rfl
      have z5 := A.bf.cell (j := 5) rfl
      have z6 := A.bf.cell (j := 6) rfl
      have z7 := A.bf.cell (j := 7) rfl
      have z8 := A.bf.cell (j := 8) rfl
      have z9 := A.bf.cell (j := 9) rfl
      have z10 := A.bf.cell (j := 10) rfl
      have t0 := A.bf.free 0
      have t1 := A.bf.free 1
      have t2 := A.bf.free 2
      have t3 := A.bf.free 3
      have t4 := A.bf.free 4
      have t5 := A.bf.free 5
      have t6 := A.bf.free 6
      have t7 := A.bf.free 7
      have t8 := A.bf.free 8
      have t9 := A.bf.free 9
      have t10 := A.bf.free 10
      obtain ⟨bF, kF⟩ := Blk.fill11 A.bf (.int .i64 xh.kind) (.int .i64 xh.birth) (.int .i64 xh.prev) (.int .i64 xh.id) (.int .i64 xh.page) (.int .i64 xh.frm) (.slice pbh xh.before.length cbh) (.slice pah xh.after.length cah) (.int .i64 xh.next) (.slice prh xh.rows.length crh) (.slice pdh xh.dirty.length cdh)
      obtain ⟨w23, hw23⟩ : ∃ wx, wx = (((((((((((w22.setCell ⟨w7.heap.size, 0, none⟩ (.int .i64 xh.kind)).setCell ⟨w7.heap.size, 1, none⟩ (.int .i64 xh.birth)).setCell ⟨w7.heap.size, 2, none⟩ (.int .i64 xh.prev)).setCell ⟨w7.heap.size, 3, none⟩ (.int .i64 xh.id)).setCell ⟨w7.heap.size, 4, none⟩ (.int .i64 xh.page)).setCell ⟨w7.heap.size, 5, none⟩ (.int .i64 xh.frm)).setCell ⟨w7.heap.size, 6, none⟩ (.slice pbh xh.before.length cbh)).setCell ⟨w7.heap.size, 7, none⟩ (.slice pah xh.after.length cah)).setCell ⟨w7.heap.size, 8, none⟩ (.int .i64 xh.next)).setCell ⟨w7.heap.size, 9, none⟩ (.slice prh xh.rows.length crh)).setCell ⟨w7.heap.size, 10, none⟩ (.slice pdh xh.dirty.length cdh)) := ⟨_, rfl⟩
      rw [← hw23] at bF kF
      have Hw23 := @hideH _ (A.boxF bF kF)
      have soh := (owh.past kF HA21.out.bf.lt).see
      have KF := @hideH _ kF
      clear bF kF A
      have HHI := @hideH _ (show ∀ y, hasB (⟨.slice pbh xh.before.length cbh, .slice pah xh.after.length cah, .slice prh xh.rows.length crh, .slice pdh xh.dirty.length cdh⟩ : RV) y → w10.heap.size < y from fun y hy => Nat.lt_of_lt_of_le HA21.out.bg.lt (owh.ge hy).1)
      go_upto_region 29 with fail
      rw [← hw23]
      clear hw23 sh owh z0 t0 z1 t1 z2 t2 z3 t3 z4 t4 z5 t5 z6 t6 z7 t7 z8 t8 z9 t9 z10 t10
      have hh2 := hh
      clear hh KF
      have b23 : Bs w23 (.slice (some ⟨g6, 0, none⟩) nn q6) lm := Bs.ofOwn Hw23.out.mine
      go_upto_region 31 with (at_builtin; refine wpList_append_bs rfl (.tmp 164) (.tmp 165) 22 rfl w23.heap.size 5 Try.underlying22 (by kernel_rfl) _ _ _ (by rfl) (own_nil w23 w23.heap.size) _ lm (by rfl) b23 (by have e1 := HLM.out; have e2 := HNN.out; omega) (Nat.le_refl _) ?_; intro v24 w24 o24 g24 at24)
      have k24 : Kept [] w23 w24 := (Kept.refl [] w23).grown g24 (fun y hy => by cases hy)
      rw [HLM.out, Nat.zero_add, show u8s [] ++ u8s lm = u8s lm from rfl] at o24
      obtain ⟨p24, q24, hv24⟩ := own_shape2 o24
      subst hv24
      have b24 : Bs w24 (.slice p24 nn q24) lm := Bs.ofOwn o24
      have HA24 := @hideH _ (Hw23.out.then k24)
      have so24 := soh.kept k24
      clear o24 g24 at24 b23 k24 soh Hw23
      have hP := qParse1 _ lm w24 (b24) (by have e1 := HLM.out; have e2 := HNN.out; omega)
      go_wp2_with fail
      refine hP.mono ?_
      clear hP
      rintro e w25 ⟨Vi, xi, Ei, rfl, owi, kw25, hi⟩
      obtain ⟨hx2, hE2⟩ := parse_same hi.out hh2.out
      subst hx2 hE2
      have si := owi.see
      obtain ⟨pbi, cbi, pai, cai, pri, cri, pdi, cdi, hVi⟩ := si.shapes
      subst hVi
      unfold Rcd.agg
      dsimp only
      have A := HA24.out.then kw25
      have z0 := A.bg.cell (j := 0) rfl
      have z1 := A.bg.cell (j := 1) rfl
      have z2 := A.bg.cell (j := 2) rfl
      have z3 := A.bg.cell (j := 3) rfl
      have z4 := A.bg.cell (j := 4) rfl
      have z5 := A.bg.cell (j := 5) rfl
      have z6 := A.bg.cell (j := 6) rfl
      have z7 := A.bg.cell (j := 7) rfl
      have z8 := A.bg.cell (j := 8) rfl
      have z9 := A.bg.cell (j := 9) rfl
      have z10 := A.bg.cell (j := 10) rfl
      have t0 := A.bg.free 0
      have t1 := A.bg.free 1
      have t2 := A.bg.free 2
      have t3 := A.bg.free 3
      have t4 := A.bg.free 4
      have t5 := A.bg.free 5
      have t6 := A.bg.free 6
      have t7 := A.bg.free 7
      have t8 := A.bg.free 8
      have t9 := A.bg.free 9
      have t10 := A.bg.free 10
      obtain ⟨bF, kF⟩ := Blk.fill11 A.bg (.int .i64 xi.kind) (.int .i64 xi.birth) (.int .i64 xi.prev) (.int .i64 xi.id) (.int .i64 xi.page) (.int .i64 xi.frm) (.slice pbi xi.before.length cbi) (.slice pai xi.after.length cai) (.int .i64 xi.next) (.slice pri xi.rows.length cri) (.slice pdi xi.dirty.length cdi)
      obtain ⟨w26, hw26⟩ : ∃ wx, wx = (((((((((((w25.setCell ⟨w10.heap.size, 0, none⟩ (.int .i64 xi.kind)).setCell ⟨w10.heap.size, 1, none⟩ (.int .i64 xi.birth)).setCell ⟨w10.heap.size, 2, none⟩ (.int .i64 xi.prev)).setCell ⟨w10.heap.size, 3, none⟩ (.int .i64 xi.id)).setCell ⟨w10.heap.size, 4, none⟩ (.int .i64 xi.page)).setCell ⟨w10.heap.size, 5, none⟩ (.int .i64 xi.frm)).setCell ⟨w10.heap.size, 6, none⟩ (.slice pbi xi.before.length cbi)).setCell ⟨w10.heap.size, 7, none⟩ (.slice pai xi.after.length cai)).setCell ⟨w10.heap.size, 8, none⟩ (.int .i64 xi.next)).setCell ⟨w10.heap.size, 9, none⟩ (.slice pri xi.rows.length cri)).setCell ⟨w10.heap.size, 10, none⟩ (.slice pdi xi.dirty.length cdi)) := ⟨_, rfl⟩
      rw [← hw26] at bF kF
      have Hw26 := @hideH _ (A.boxG bF kF)
      have soi := (owi.past kF HA24.out.bg.lt).see
      have KF := @hideH _ kF
      clear bF kF A
      go_upto_region 32 with fail
      rw [← hw26]
      clear hw26 si owi z0 t0 z1 t1 z2 t2 z3 t3 z4 t4 z5 t5 z6 t6 z7 t7 z8 t8 z9 t9 z10 t10
      have soh := so24.kept kw25
      have soH := soh.keptS KF.out (fun y hy hm => by simp only [List.mem_singleton] at hm; have e1 := HHI.out y hy; omega)
      have hS := rSame_self _ _ xi w26 soH soi
      unfold Rcd.agg at hS
      dsimp only at hS
      clear soh soH so24 soi KF
      have ch0 := Hw26.out.bf.cell (j := 0) rfl
      have ch1 := Hw26.out.bf.cell (j := 1) rfl
      have ch2 := Hw26.out.bf.cell (j := 2) rfl
      have ch3 := Hw26.out.bf.cell (j := 3) rfl
      have ch4 := Hw26.out.bf.cell (j := 4) rfl
      have ch5 := Hw26.out.bf.cell (j := 5) rfl
      have ch6 := Hw26.out.bf.cell (j := 6) rfl
      have ch7 := Hw26.out.bf.cell (j := 7) rfl
      have ch8 := Hw26.out.bf.cell (j := 8) rfl
      have ch9 := Hw26.out.bf.cell (j := 9) rfl
      have ch10 := Hw26.out.bf.cell (j := 10) rfl
      have ci0 := Hw26.out.bg.cell (j := 0) rfl
      have ci1 := Hw26.out.bg.cell (j := 1) rfl
      have ci2 := Hw26.out.bg.cell (j := 2) rfl
      have ci3 := Hw26.out.bg.cell (j := 3) rfl
      have ci4 := Hw26.out.bg.cell (j := 4) rfl
      have ci5 := Hw26.out.bg.cell (j := 5) rfl
      have ci6 := Hw26.out.bg.cell (j := 6) rfl
      have ci7 := Hw26.out.bg.cell (j := 7) rfl
      have ci8 := Hw26.out.bg.cell (j := 8) rfl
      have ci9 := Hw26.out.bg.cell (j := 9) rfl
      have ci10 := Hw26.out.bg.cell (j := 10) rfl
      go_wp2_with fail
      refine (rNum _ _).mono ?_
      rintro e wq ⟨rfl, hq⟩
      rw [hq]
      clear hq wq
      go_wp2_with fail
      refine (rNum _ _).mono ?_
      rintro e wq ⟨rfl, hq⟩
      rw [hq]
      clear hq wq
      go_wp2_with fail
      refine hS.mono ?_
      clear hS
      rintro e w27 ⟨rfl, k27⟩
      have KE := @hideH _ (Hw26.out.kept.then k27)
      clear k27 Hw26 ch0 ch1 ch2 ch3 ch4 ch5 ch6 ch7 ch8 ch9 ch10 ci0 ci1 ci2 ci3 ci4 ci5 ci6 ci7 ci8 ci9 ci10
      go_wp2
      go_ret
      exact ⟨by simp, KE.out⟩
end Go.Proofs.Ytebcmcmboomgfaa

