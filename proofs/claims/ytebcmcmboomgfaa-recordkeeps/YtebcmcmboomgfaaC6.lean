import Derived.Test.YtebcmcmboomgfaaC5
/-
  OWN WORK (by mklw4.py). The law: desked.
-/
namespace Go.Proofs.Ytebcmcmboomgfaa
open Go.RowKit
set_option linter.unusedVariables false
set_option linter.unusedSimpArgs false

theorem Blk.fill15 {w : World} {g : Nat} {t : TypeId} {z0 z1 z2 z3 z4 z5 z6 z7 z8 z9 z10 z11 z12 z13 z14 : Value} (h : Blk w g t [z0, z1, z2, z3, z4, z5, z6, z7, z8, z9, z10, z11, z12, z13, z14]) (v0 v1 v2 v3 v4 v5 v6 v7 v8 v9 v10 v11 v12 v13 v14 : Value) : Blk (((((((((((((((w.setCell ⟨g, 0, none⟩ v0).setCell ⟨g, 1, none⟩ v1).setCell ⟨g, 2, none⟩ v2).setCell ⟨g, 3, none⟩ v3).setCell ⟨g, 4, none⟩ v4).setCell ⟨g, 5, none⟩ v5).setCell ⟨g, 6, none⟩ v6).setCell ⟨g, 7, none⟩ v7).setCell ⟨g, 8, none⟩ v8).setCell ⟨g, 9, none⟩ v9).setCell ⟨g, 10, none⟩ v10).setCell ⟨g, 11, none⟩ v11).setCell ⟨g, 12, none⟩ v12).setCell ⟨g, 13, none⟩ v13).setCell ⟨g, 14, none⟩ v14) g t [v0, v1, v2, v3, v4, v5, v6, v7, v8, v9, v10, v11, v12, v13, v14] ∧ Kept [g] w (((((((((((((((w.setCell ⟨g, 0, none⟩ v0).setCell ⟨g, 1, none⟩ v1).setCell ⟨g, 2, none⟩ v2).setCell ⟨g, 3, none⟩ v3).setCell ⟨g, 4, none⟩ v4).setCell ⟨g, 5, none⟩ v5).setCell ⟨g, 6, none⟩ v6).setCell ⟨g, 7, none⟩ v7).setCell ⟨g, 8, none⟩ v8).setCell ⟨g, 9, none⟩ v9).setCell ⟨g, 10, none⟩ v10).setCell ⟨g, 11, none⟩ v11).setCell ⟨g, 12, none⟩ v12).setCell ⟨g, 13, none⟩ v13).setCell ⟨g, 14, none⟩ v14) := by
  obtain ⟨b0, k0⟩ := h.set 0 v0
  obtain ⟨b1, k1⟩ := b0.set 1 v1
  obtain ⟨b2, k2⟩ := b1.set 2 v2
  obtain ⟨b3, k3⟩ := b2.set 3 v3
  obtain ⟨b4, k4⟩ := b3.set 4 v4
  obtain ⟨b5, k5⟩ := b4.set 5 v5
  obtain ⟨b6, k6⟩ := b5.set 6 v6
  obtain ⟨b7, k7⟩ := b6.set 7 v7
  obtain ⟨b8, k8⟩ := b7.set 8 v8
  obtain ⟨b9, k9⟩ := b8.set 9 v9
  obtain ⟨b10, k10⟩ := b9.set 10 v10
  obtain ⟨b11, k11⟩ := b10.set 11 v11
  obtain ⟨b12, k12⟩ := b11.set 12 v12
  obtain ⟨b13, k13⟩ := b12.set 13 v13
  obtain ⟨b14, k14⟩ := b13.set 14 v14
  exact ⟨b14, ((((((((((((((k0.trans k1 (fun x hx => .inl hx)).trans k2 (fun x hx => .inl hx)).trans k3 (fun x hx => .inl hx)).trans k4 (fun x hx => .inl hx)).trans k5 (fun x hx => .inl hx)).trans k6 (fun x hx => .inl hx)).trans k7 (fun x hx => .inl hx)).trans k8 (fun x hx => .inl hx)).trans k9 (fun x hx => .inl hx)).trans k10 (fun x hx => .inl hx)).trans k11 (fun x hx => .inl hx)).trans k12 (fun x hx => .inl hx)).trans k13 (fun x hx => .inl hx)).trans k14 (fun x hx => .inl hx))⟩
theorem Blk.fill11of15 {w : World} {g : Nat} {t : TypeId} {z0 z1 z2 z3 z4 z5 z6 z7 z8 z9 z10 z11 z12 z13 z14 : Value} (h : Blk w g t [z0, z1, z2, z3, z4, z5, z6, z7, z8, z9, z10, z11, z12, z13, z14]) (v0 v1 v2 v3 v4 v5 v6 v7 v8 v9 v10 : Value) : Blk (((((((((((w.setCell ⟨g, 0, none⟩ v0).setCell ⟨g, 1, none⟩ v1).setCell ⟨g, 2, none⟩ v2).setCell ⟨g, 3, none⟩ v3).setCell ⟨g, 4, none⟩ v4).setCell ⟨g, 5, none⟩ v5).setCell ⟨g, 6, none⟩ v6).setCell ⟨g, 7, none⟩ v7).setCell ⟨g, 8, none⟩ v8).setCell ⟨g, 9, none⟩ v9).setCell ⟨g, 10, none⟩ v10) g t [v0, v1, v2, v3, v4, v5, v6, v7, v8, v9, v10, z11, z12, z13, z14] ∧ Kept [g] w (((((((((((w.setCell ⟨g, 0, none⟩ v0).setCell ⟨g, 1, none⟩ v1).setCell ⟨g, 2, none⟩ v2).setCell ⟨g, 3, none⟩ v3).setCell ⟨g, 4, none⟩ v4).setCell ⟨g, 5, none⟩ v5).setCell ⟨g, 6, none⟩ v6).setCell ⟨g, 7, none⟩ v7).setCell ⟨g, 8, none⟩ v8).setCell ⟨g, 9, none⟩ v9).setCell ⟨g, 10, none⟩ v10) := by
  obtain ⟨b0, k0⟩ := h.set 0 v0
  obtain ⟨b1, k1⟩ := b0.set 1 v1
  obtain ⟨b2, k2⟩ := b1.set 2 v2
  obtain ⟨b3, k3⟩ := b2.set 3 v3
  obtain ⟨b4, k4⟩ := b3.set 4 v4
  obtain ⟨b5, k5⟩ := b4.set 5 v5
  obtain ⟨b6, k6⟩ := b5.set 6 v6
  obtain ⟨b7, k7⟩ := b6.set 7 v7
  obtain ⟨b8, k8⟩ := b7.set 8 v8
  obtain ⟨b9, k9⟩ := b8.set 9 v9
  obtain ⟨b10, k10⟩ := b9.set 10 v10
  exact ⟨b10, ((((((((((k0.trans k1 (fun x hx => .inl hx)).trans k2 (fun x hx => .inl hx)).trans k3 (fun x hx => .inl hx)).trans k4 (fun x hx => .inl hx)).trans k5 (fun x hx => .inl hx)).trans k6 (fun x hx => .inl hx)).trans k7 (fun x hx => .inl hx)).trans k8 (fun x hx => .inl hx)).trans k9 (fun x hx => .inl hx)).trans k10 (fun x hx => .inl hx))⟩
def deskV (r : Rcd) (pB : Option Addr) (cB : Nat) (pA : Option Addr) (cA : Nat) (pR : Option Addr) (cR : Nat) (pD : Option Addr) (cD : Nat) : Value := .agg #[.int .i64 r.kind, .int .i64 r.birth, .int .i64 r.prev, .int .i64 r.id, .int .i64 r.page, .int .i64 r.frm, .slice pB r.before.length cB, .slice pA r.after.length cA, .int .i64 r.next, .slice pR r.rows.length cR, .slice pD r.dirty.length cD, .slice pB (r.before.length + 120) cB, .slice pA (r.after.length + 120) cA, .slice pR (r.rows.length + 40) cR, .slice pD (r.dirty.length + 40) cD]
def DeskCap (r : Rcd) : Prop := r.before.length + 120 ≤ 140737488355328 ∧ r.after.length + 120 ≤ 140737488355328 ∧ (r.rows.length + 40) * 40 ≤ 140737488355328 ∧ (r.dirty.length + 40) * 16 ≤ 140737488355328
/-- the desk with its two rows of bytes -/
structure Dk0 (wa wx : World) (D : Nat) (r : Rcd) (pB : Option Addr) (cB : Nat) (pA : Option Addr) (cA : Nat) : Prop where
  blk : Blk wx D 42 [.int .i64 0, .int .i64 0, .int .i64 0, .int .i64 0, .int .i64 0, .int .i64 0, .slice none 0 0, .slice none 0 0, .int .i64 0, .slice none 0 0, .slice none 0 0, .slice pB (r.before.length + 120) cB, .slice pA (r.after.length + 120) cA, .slice none 0 0, .slice none 0 0]
  fb : wx.ownsRow wa.heap.size 5 1 (.slice pB (r.before.length + 120) cB) (r.before.length + 120) (u8s (r.before ++ lent9))
  fa : wx.ownsRow wa.heap.size 5 1 (.slice pA (r.after.length + 120) cA) (r.after.length + 120) (u8s (r.after ++ lent9))
  ab : Apartv (.slice pA (r.after.length + 120) cA) (.slice pB (r.before.length + 120) cB)
  kept : Kept [] wa wx
  loD : wa.heap.size ≤ D
set_option maxRecDepth 40000 in
set_option maxHeartbeats 12800000 in
theorem desked_any (Va : RV) (xa : Rcd) (w : World) (sa : SeeR w Va xa) (hcap : DeskCap xa) : Calls Try.prog 17 #[xa.agg Va] w fun e w' => ∃ (pB : Option Addr) (cB : Nat) (pA : Option Addr) (cA : Nat) (pR : Option Addr) (cR : Nat) (pD : Option Addr) (cD : Nat), e = .returned (deskV xa pB cB pA cA pR cR pD cD) ∧ DeskO w.heap.size w' xa pB cB pA cA pR cR pD cD ∧ Kept [] w w' := by
  have hL1 := fun wz (kz : Kept [] w wz) => lent_any _ xa.before wz (sa.before.kept kz) hcap.1
  have hL2 := fun wz (kz : Kept [] w wz) => lent_any _ xa.after wz (sa.after.kept kz) hcap.2.1
  obtain ⟨pba, cba, paa, caa, pra, cra, pda, cda, hVa⟩ := sa.shapes
  subst hVa
  have HSA := @hideH _ sa
  have HCAP := @hideH _ hcap
  clear sa hcap
  unfold Rcd.agg
  dsimp only at hL1 hL2 ⊢
  obtain ⟨wa, hwa⟩ : ∃ wa, wa = (w.alloc (.cells #[.int .i64 xa.kind, .int .i64 xa.birth, .int .i64 xa.prev, .int .i64 xa.id, .int .i64 xa.page, .int .i64 xa.frm, .slice pba xa.before.length cba, .slice paa xa.after.length caa, .int .i64 xa.next, .slice pra xa.rows.length cra, .slice pda xa.dirty.length cda] 26)).alloc (.cells #[.int .i64 0, .int .i64 0, .int .i64 0, .int .i64 0, .int .i64 0, .int .i64 0, .slice none 0 0, .slice none 0 0, .int .i64 0, .slice none 0 0, .slice none 0 0, .slice none 0 0, .slice none 0 0, .slice none 0 0, .slice none 0 0] 42) := ⟨_, rfl⟩
  have KA : Kept [] w wa := by rw [hwa]; exact ((Kept.refl [] w).alloc _).alloc _
  have Ba : Blk wa w.heap.size 26 [.int .i64 xa.kind, .int .i64 xa.birth, .int .i64 xa.prev, .int .i64 xa.id, .int .i64 xa.page, .int .i64 xa.frm, .slice pba xa.before.length cba, .slice paa xa.after.length caa, .int .i64 xa.next, .slice pra xa.rows.length cra, .slice pda xa.dirty.length cda] := by rw [hwa]; exact (Blk.new w _ _).kept ((Kept.refl [] _).alloc _) (by simp)
  have BO : Blk wa (w.heap.size + 1) 42 [.int .i64 0, .int .i64 0, .int .i64 0, .int .i64 0, .int .i64 0, .int .i64 0, .slice none 0 0, .slice none 0 0, .int .i64 0, .slice none 0 0, .slice none 0 0, .slice none 0 0, .slice none 0 0, .slice none 0 0, .slice none 0 0] := by rw [hwa]; have q := Blk.new (w.alloc (.cells #[.int .i64 xa.kind, .int .i64 xa.birth, .int .i64 xa.prev, .int .i64 xa.id, .int .i64 xa.page, .int .i64 xa.frm, .slice pba xa.before.length cba, .slice paa xa.after.length caa, .int .i64 xa.next, .slice pra xa.rows.length cra, .slice pda xa.dirty.length cda] 26)) 42 [.int .i64 0, .int .i64 0, .int .i64 0, .int .i64 0, .int .i64 0, .int .i64 0, .slice none 0 0, .slice none 0 0, .int .i64 0, .slice none 0 0, .slice none 0 0, .slice none 0 0, .slice none 0 0, .slice none 0 0, .slice none 0 0]; rw [World.size_alloc] at q; exact q
  have HBA := @hideH _ Ba
  have HBO := @hideH _ BO
  have c6 := Ba.cell (j := 6) rfl
  have c7 := Ba.cell (j := 7) rfl
  have HKA := @hideH _ KA
  clear Ba BO
  replace hL1 := fun wz (kz : Kept [] wa wz) => hL1 wz (KA.then kz)
  replace hL2 := fun wz (kz : Kept [] wa wz) => hL2 wz (KA.then kz)
  clear KA
  go_enter Try.func17, Try.ntmps17
  go_upto_region 1 with fail
  rw [← hwa]
  clear hwa
  go_cut [3] (fun s wx => ∃ (D : Nat) (pB : Option Addr) (cB : Nat) (pA : Option Addr) (cA : Nat), s = .pointer (some ⟨D, 0, none⟩) ∧ Hid (Dk0 wa wx D xa pB cB pA cA))
  case first =>
    refine wp_region_late (fun w' => w'.cell? ⟨w.heap.size, 6, none⟩ = some (.slice pba xa.before.length cba) ∧ w'.cell? ⟨w.heap.size, 7, none⟩ = some (.slice paa xa.after.length caa)) 8 (by kernel_rfl) ?_
    obtain ⟨wd, hwd⟩ : ∃ wd, wd = wa.drew := ⟨_, rfl⟩
    have K0 : Kept [] wa wd := by rw [hwd]; exact (Kept.refl [] wa).drew
    rw [← hwd]
    clear hwd
    have hS : wd.cell? ⟨w.heap.size, 6, none⟩ = some (.slice pba xa.before.length cba) ∧ wd.cell? ⟨w.heap.size, 7, none⟩ = some (.slice paa xa.after.length caa) := ⟨K0.cell c6 (by simp), K0.cell c7 (by simp)⟩
    refine wpAnyZ_take 0 (v := ?v0) rfl (by kernel_rfl) (by kernel_rfl) (by kernel_rfl) (by kernel_rfl) (fun _ _ _ h => h) (by rfl) ?hy0 hS ?rest0
    case hy0 => (intro wx hSx; obtain ⟨hs1, hs2⟩ := hSx; go_simp; (try with_reducible rfl))
    (try simp only [Act.put, List.setIfInBounds_toArray, List.set_cons_zero, List.set_cons_succ])
    refine wpAnyZ_take 1 (v := ?v1) rfl (by kernel_rfl) (by kernel_rfl) (by kernel_rfl) (by kernel_rfl) (fun _ _ _ h => h) (by rfl) ?hy1 hS ?rest1
    case hy1 => (intro wx hSx; obtain ⟨hs1, hs2⟩ := hSx; go_simp; (try with_reducible rfl))
    (try simp only [Act.put, List.setIfInBounds_toArray, List.set_cons_zero, List.set_cons_succ])
    refine wpAnyZ_take 3 (v := ?v3) rfl (by kernel_rfl) (by kernel_rfl) (by kernel_rfl) (by kernel_rfl) (fun _ _ _ h => h) (by rfl) ?hy3 hS ?rest3
    case hy3 => (intro wx hSx; obtain ⟨hs1, hs2⟩ := hSx; go_simp; (try with_reducible rfl))
    (try simp only [Act.put, List.setIfInBounds_toArray, List.set_cons_zero, List.set_cons_succ])
    refine wpAnyZ_take 4 (v := ?v4) rfl (by kernel_rfl) (by kernel_rfl) (by kernel_rfl) (by kernel_rfl) (fun _ _ _ h => h) (by rfl) ?hy4 hS ?rest4
    case hy4 => (intro wx hSx; obtain ⟨hs1, hs2⟩ := hSx; go_simp; (try with_reducible rfl))
    (try simp only [Act.put, List.setIfInBounds_toArray, List.set_cons_zero, List.set_cons_succ])
    refine wpAnyZ_two 2 7 rfl rfl (by kernel_rfl) (fun K hK => ?_) (fun K hK => ?_)
    · skip
      go_simp
      refine (hL1 _ K0).mono ?_
      rintro e y1 ⟨vB, rfl, oBy1, ky1⟩
      obtain ⟨pB, cB, hvB⟩ := own_shape2 oBy1
      subst hvB
      have Ky1 := K0.then ky1
      have Sy1 : y1.cell? ⟨w.heap.size, 6, none⟩ = some (.slice pba xa.before.length cba) ∧ y1.cell? ⟨w.heap.size, 7, none⟩ = some (.slice paa xa.after.length caa) := ⟨Ky1.cell c6 (by simp), Ky1.cell c7 (by simp)⟩
      dsimp only
      refine hK _ _ (fun _ => Sy1) ?_
      clear hK K
      (try simp only [Act.put, List.setIfInBounds_toArray, List.set_cons_zero, List.set_cons_succ])
      refine wpAnyZ_two 5 7 rfl rfl (by kernel_rfl) (fun K hK => ?_) (fun K hK => ?_)
      · skip
        go_simp
        refine (hL2 _ Ky1).mono ?_
        rintro e y2 ⟨vA, rfl, oAy2, ky2⟩
        obtain ⟨pA, cA, hvA⟩ := own_shape2 oAy2
        subst hvA
        have Ky2 := Ky1.then ky2
        have oBy2 := own_of_kept oBy1 ky2 (by simp)
        have ab : Apartv (.slice pA (xa.after.length + 120) cA) (.slice pB (xa.before.length + 120) cB) := fun y h1 h2 => by have e1 := own_ge oAy2 y h1; have e2 := own_lt oBy1 y h2; omega
        have Sy2 : y2.cell? ⟨w.heap.size, 6, none⟩ = some (.slice pba xa.before.length cba) ∧ y2.cell? ⟨w.heap.size, 7, none⟩ = some (.slice paa xa.after.length caa) := ⟨Ky2.cell c6 (by simp), Ky2.cell c7 (by simp)⟩
        dsimp only
        refine hK _ _ (fun _ => Sy2) ?_
        clear hK K
        (try simp only [Act.put, List.setIfInBounds_toArray, List.set_cons_zero, List.set_cons_succ])
        refine wpAnyZ_two 6 7 rfl rfl (by kernel_rfl) (fun K hK => ?_) (fun K hK => ?_)
        · skip
          go_simp
          refine hK _ _ (fun _ => Sy2) ?_
          clear hK K
          (try simp only [Act.put, List.setIfInBounds_toArray, List.set_cons_zero, List.set_cons_succ])
          refine wpAnyZ_one 7 rfl (by kernel_rfl) (fun K hK => ?_)
          go_simp
          obtain ⟨y4, hy4⟩ : ∃ wx, wx = y2.alloc (.cells #[.int .i64 0, .int .i64 0, .int .i64 0, .int .i64 0, .int .i64 0, .int .i64 0, .slice none 0 0, .slice none 0 0, .int .i64 0, .slice none 0 0, .slice none 0 0, .slice none 0 0, .slice none 0 0, .slice none 0 0, .slice none 0 0] 42) := ⟨_, rfl⟩
          have ky4 : Kept [] y2 y4 := by rw [hy4]; exact (Kept.refl [] _).alloc _
          have Dy4 : Blk y4 y2.heap.size 42 [.int .i64 0, .int .i64 0, .int .i64 0, .int .i64 0, .int .i64 0, .int .i64 0, .slice none 0 0, .slice none 0 0, .int .i64 0, .slice none 0 0, .slice none 0 0, .slice none 0 0, .slice none 0 0, .slice none 0 0, .slice none 0 0] := by rw [hy4]; exact Blk.new _ _ _
          have Ky4 := Ky2.then ky4
          have hD : wa.heap.size ≤ y2.heap.size := Ky2.size
          have oBy4 := own_of_kept oBy2 ky4 (by simp)
          have oAy4 := own_of_kept oAy2 ky4 (by simp)
          have Sy4 : y4.cell? ⟨w.heap.size, 6, none⟩ = some (.slice pba xa.before.length cba) ∧ y4.cell? ⟨w.heap.size, 7, none⟩ = some (.slice paa xa.after.length caa) := ⟨Ky4.cell c6 (by simp), Ky4.cell c7 (by simp)⟩
          rw [← hy4]
          refine hK _ _ (fun _ => Sy4) ?_
          clear hK K hy4
          (try simp only [Act.put, List.setIfInBounds_toArray, List.set_cons_zero, List.set_cons_succ])
          refine wpAnyZ_one 8 rfl (by kernel_rfl) (fun K hK => ?_)
          have z0 := Dy4.cell (j := 0) rfl
          have z1 := Dy4.cell (j := 1) rfl
          have z2 := Dy4.cell (j := 2) rfl
          have z3 := Dy4.cell (j := 3) rfl
          have z4 := Dy4.cell (j := 4) rfl
          have z5 := Dy4.cell (j := 5) rfl
          have z6 := Dy4.cell (j := 6) rfl
          have z7 := Dy4.cell (j := 7) rfl
          have z8 := Dy4.cell (j := 8) rfl
          have z9 := Dy4.cell (j := 9) rfl
          have z10 := Dy4.cell (j := 10) rfl
          have z11 := Dy4.cell (j := 11) rfl
          have z12 := Dy4.cell (j := 12) rfl
          have z13 := Dy4.cell (j := 13) rfl
          have z14 := Dy4.cell (j := 14) rfl
          have t0 := Dy4.free 0
          have t1 := Dy4.free 1
          have t2 := Dy4.free 2
          have t3 := Dy4.free 3
          have t4 := Dy4.free 4
          have t5 := Dy4.free 5
          have t6 := Dy4.free 6
          have t7 := Dy4.free 7
          have t8 := Dy4.free 8
          have t9 := Dy4.free 9
          have t10 := Dy4.free 10
          have t11 := Dy4.free 11
          have t12 := Dy4.free 12
          have t13 := Dy4.free 13
          have t14 := Dy4.free 14
          obtain ⟨bF, kF⟩ := Dy4.fill15 (.int .i64 0) (.int .i64 0) (.int .i64 0) (.int .i64 0) (.int .i64 0) (.int .i64 0) (.slice none 0 0) (.slice none 0 0) (.int .i64 0) (.slice none 0 0) (.slice none 0 0) (.slice pB (xa.before.length + 120) cB) (.slice pA (xa.after.length + 120) cA) (.slice none 0 0) (.slice none 0 0)
          have oBF := own_of_kept oBy4 kF (fun y hy hm => by simp at hm; subst hm; exact own_blk_ne9 oBy4 Dy4 (by decide) hy)
          have oAF := own_of_kept oAy4 kF (fun y hy hm => by simp at hm; subst hm; exact own_blk_ne9 oAy4 Dy4 (by decide) hy)
          have ZF := @hideH _ (Dk0.mk bF (own_mono oBF K0.size) (own_mono oAF Ky1.size) ab (Ky4.trans kF (fun y hy => .inr (by simp at hy; omega))) hD)
          go_simp
          refine hK _ _ (fun h => absurd rfl h) ?_
          clear hK K bF kF oBF oAF z0 t0 z1 t1 z2 t2 z3 t3 z4 t4 z5 t5 z6 t6 z7 t7 z8 t8 z9 t9 z10 t10 z11 t11 z12 t12 z13 t13 z14 t14
          (try simp only [Act.put, List.setIfInBounds_toArray, List.set_cons_zero, List.set_cons_succ])
          refine wpAnyZ_done (by kernel_rfl) ?_ _
          go_wp2_with fail
          go_meet
          exact ⟨_, pB, cB, pA, cA, rfl, ZF⟩
        · skip
          go_simp
          obtain ⟨y6, hy6⟩ : ∃ wx, wx = y2.alloc (.cells #[.int .i64 0, .int .i64 0, .int .i64 0, .int .i64 0, .int .i64 0, .int .i64 0, .slice none 0 0, .slice none 0 0, .int .i64 0, .slice none 0 0, .slice none 0 0, .slice none 0 0, .slice none 0 0, .slice none 0 0, .slice none 0 0] 42) := ⟨_, rfl⟩
          have ky6 : Kept [] y2 y6 := by rw [hy6]; exact (Kept.refl [] _).alloc _
          have Dy6 : Blk y6 y2.heap.size 42 [.int .i64 0, .int .i64 0, .int .i64 0, .int .i64 0, .int .i64 0, .int .i64 0, .slice none 0 0, .slice none 0 0, .int .i64 0, .slice none 0 0, .slice none 0 0, .slice none 0 0, .slice none 0 0, .slice none 0 0, .slice none 0 0] := by rw [hy6]; exact Blk.new _ _ _
          have Ky6 := Ky2.then ky6
          have hD : wa.heap.size ≤ y2.heap.size := Ky2.size
          have oBy6 := own_of_kept oBy2 ky6 (by simp)
          have oAy6 := own_of_kept oAy2 ky6 (by simp)
          have Sy6 : y6.cell? ⟨w.heap.size, 6, none⟩ = some (.slice pba xa.before.length cba) ∧ y6.cell? ⟨w.heap.size, 7, none⟩ = some (.slice paa xa.after.length caa) := ⟨Ky6.cell c6 (by simp), Ky6.cell c7 (by simp)⟩
          rw [← hy6]
          refine hK _ _ (fun _ => Sy6) ?_
          clear hK K hy6
          (try simp only [Act.put, List.setIfInBounds_toArray, List.set_cons_zero, List.set_cons_succ])
          refine wpAnyZ_one 6 rfl (by kernel_rfl) (fun K hK => ?_)
          go_simp
          refine hK _ _ (fun _ => Sy6) ?_
          clear hK K
          (try simp only [Act.put, List.setIfInBounds_toArray, List.set_cons_zero, List.set_cons_succ])
          refine wpAnyZ_one 8 rfl (by kernel_rfl) (fun K hK => ?_)
          have z0 := Dy6.cell (j := 0) rfl
          have z1 := Dy6.cell (j := 1) rfl
          have z2 := Dy6.cell (j := 2) rfl
          have z3 := Dy6.cell (j := 3) rfl
          have z4 := Dy6.cell (j := 4) rfl
          have z5 := Dy6.cell (j := 5) rfl
          have z6 := Dy6.cell (j := 6) rfl
          have z7 := Dy6.cell (j := 7) rfl
          have z8 := Dy6.cell (j := 8) rfl
          have z9 := Dy6.cell (j := 9) rfl
          have z10 := Dy6.cell (j := 10) rfl
          have z11 := Dy6.cell (j := 11) rfl
          have z12 := Dy6.cell (j := 12) rfl
          have z13 := Dy6.cell (j := 13) rfl
          have z14 := Dy6.cell (j := 14) rfl
          have t0 := Dy6.free 0
          have t1 := Dy6.free 1
          have t2 := Dy6.free 2
          have t3 := Dy6.free 3
          have t4 := Dy6.free 4
          have t5 := Dy6.free 5
          have t6 := Dy6.free 6
          have t7 := Dy6.free 7
          have t8 := Dy6.free 8
          have t9 := Dy6.free 9
          have t10 := Dy6.free 10
          have t11 := Dy6.free 11
          have t12 := Dy6.free 12
          have t13 := Dy6.free 13
          have t14 := Dy6.free 14
          obtain ⟨bF, kF⟩ := Dy6.fill15 (.int .i64 0) (.int .i64 0) (.int .i64 0) (.int .i64 0) (.int .i64 0) (.int .i64 0) (.slice none 0 0) (.slice none 0 0) (.int .i64 0) (.slice none 0 0) (.slice none 0 0) (.slice pB (xa.before.length + 120) cB) (.slice pA (xa.after.length + 120) cA) (.slice none 0 0) (.slice none 0 0)
          have oBF := own_of_kept oBy6 kF (fun y hy hm => by simp at hm; subst hm; exact own_blk_ne9 oBy6 Dy6 (by decide) hy)
          have oAF := own_of_kept oAy6 kF (fun y hy hm => by simp at hm; subst hm; exact own_blk_ne9 oAy6 Dy6 (by decide) hy)
          have ZF := @hideH _ (Dk0.mk bF (own_mono oBF K0.size) (own_mono oAF Ky1.size) ab (Ky6.trans kF (fun y hy => .inr (by simp at hy; omega))) hD)
          go_simp
          refine hK _ _ (fun h => absurd rfl h) ?_
          clear hK K bF kF oBF oAF z0 t0 z1 t1 z2 t2 z3 t3 z4 t4 z5 t5 z6 t6 z7 t7 z8 t8 z9 t9 z10 t10 z11 t11 z12 t12 z13 t13 z14 t14
          (try simp only [Act.put, List.setIfInBounds_toArray, List.set_cons_zero, List.set_cons_succ])
          refine wpAnyZ_done (by kernel_rfl) ?_ _
          go_wp2_with fail
          go_meet
          exact ⟨_, pB, cB, pA, cA, rfl, ZF⟩
      · skip
        go_simp
        obtain ⟨y9, hy9⟩ : ∃ wx, wx = y1.alloc (.cells #[.int .i64 0, .int .i64 0, .int .i64 0, .int .i64 0, .int .i64 0, .int .i64 0, .slice none 0 0, .slice none 0 0, .int .i64 0, .slice none 0 0, .slice none 0 0, .slice none 0 0, .slice none 0 0, .slice none 0 0, .slice none 0 0] 42) := ⟨_, rfl⟩
        have ky9 : Kept [] y1 y9 := by rw [hy9]; exact (Kept.refl [] _).alloc _
        have Dy9 : Blk y9 y1.heap.size 42 [.int .i64 0, .int .i64 0, .int .i64 0, .int .i64 0, .int .i64 0, .int .i64 0, .slice none 0 0, .slice none 0 0, .int .i64 0, .slice none 0 0, .slice none 0 0, .slice none 0 0, .slice none 0 0, .slice none 0 0, .slice none 0 0] := by rw [hy9]; exact Blk.new _ _ _
        have Ky9 := Ky1.then ky9
        have hD : wa.heap.size ≤ y1.heap.size := Ky1.size
        have oBy9 := own_of_kept oBy1 ky9 (by simp)
        have Sy9 : y9.cell? ⟨w.heap.size, 6, none⟩ = some (.slice pba xa.before.length cba) ∧ y9.cell? ⟨w.heap.size, 7, none⟩ = some (.slice paa xa.after.length caa) := ⟨Ky9.cell c6 (by simp), Ky9.cell c7 (by simp)⟩
        rw [← hy9]
        refine hK _ _ (fun _ => Sy9) ?_
        clear hK K hy9
        (try simp only [Act.put, List.setIfInBounds_toArray, List.set_cons_zero, List.set_cons_succ])
        refine wpAnyZ_one 5 rfl (by kernel_rfl) (fun K hK => ?_)
        go_simp
        refine (hL2 _ Ky9).mono ?_
        rintro e y10 ⟨vA, rfl, oAy10, ky10⟩
        obtain ⟨pA, cA, hvA⟩ := own_shape2 oAy10
        subst hvA
        have Ky10 := Ky9.then ky10
        have Dy10 := Dy9.kept ky10 (by simp)
        have oBy10 := own_of_kept oBy9 ky10 (by simp)
        have ab : Apartv (.slice pA (xa.after.length + 120) cA) (.slice pB (xa.before.length + 120) cB) := fun y h1 h2 => by have e1 := own_ge oAy10 y h1; have e2 := own_lt oBy9 y h2; omega
        have Sy10 : y10.cell? ⟨w.heap.size, 6, none⟩ = some (.slice pba xa.before.length cba) ∧ y10.cell? ⟨w.heap.size, 7, none⟩ = some (.slice paa xa.after.length caa) := ⟨Ky10.cell c6 (by simp), Ky10.cell c7 (by simp)⟩
        dsimp only
        refine hK _ _ (fun _ => Sy10) ?_
        clear hK K
        (try simp only [Act.put, List.setIfInBounds_toArray, List.set_cons_zero, List.set_cons_succ])
        refine wpAnyZ_one 6 rfl (by kernel_rfl) (fun K hK => ?_)
        go_simp
        refine hK _ _ (fun _ => Sy10) ?_
        clear hK K
        (try simp only [Act.put, List.setIfInBounds_toArray, List.set_cons_zero, List.set_cons_succ])
        refine wpAnyZ_one 8 rfl (by kernel_rfl) (fun K hK => ?_)
        have z0 := Dy10.cell (j := 0) rfl
        have z1 := Dy10.cell (j := 1) rfl
        have z2 := Dy10.cell (j := 2) rfl
        have z3 := Dy10.cell (j := 3) rfl
        have z4 := Dy10.cell (j := 4) rfl
        have z5 := Dy10.cell (j := 5) rfl
        have z6 := Dy10.cell (j := 6) rfl
        have z7 := Dy10.cell (j := 7) rfl
        have z8 := Dy10.cell (j := 8) rfl
        have z9 := Dy10.cell (j := 9) rfl
        have z10 := Dy10.cell (j := 10) rfl
        have z11 := Dy10.cell (j := 11) rfl
        have z12 := Dy10.cell (j := 12) rfl
        have z13 := Dy10.cell (j := 13) rfl
        have z14 := Dy10.cell (j := 14) rfl
        have t0 := Dy10.free 0
        have t1 := Dy10.free 1
        have t2 := Dy10.free 2
        have t3 := Dy10.free 3
        have t4 := Dy10.free 4
        have t5 := Dy10.free 5
        have t6 := Dy10.free 6
        have t7 := Dy10.free 7
        have t8 := Dy10.free 8
        have t9 := Dy10.free 9
        have t10 := Dy10.free 10
        have t11 := Dy10.free 11
        have t12 := Dy10.free 12
        have t13 := Dy10.free 13
        have t14 := Dy10.free 14
        obtain ⟨bF, kF⟩ := Dy10.fill15 (.int .i64 0) (.int .i64 0) (.int .i64 0) (.int .i64 0) (.int .i64 0) (.int .i64 0) (.slice none 0 0) (.slice none 0 0) (.int .i64 0) (.slice none 0 0) (.slice none 0 0) (.slice pB (xa.before.length + 120) cB) (.slice pA (xa.after.length + 120) cA) (.slice none 0 0) (.slice none 0 0)
        have oBF := own_of_kept oBy10 kF (fun y hy hm => by simp at hm; subst hm; exact own_blk_ne9 oBy10 Dy10 (by decide) hy)
        have oAF := own_of_kept oAy10 kF (fun y hy hm => by simp at hm; subst hm; exact own_blk_ne9 oAy10 Dy10 (by decide) hy)
        have ZF := @hideH _ (Dk0.mk bF (own_mono oBF K0.size) (own_mono oAF Ky9.size) ab (Ky10.trans kF (fun y hy => .inr (by simp at hy; omega))) hD)
        go_simp
        refine hK _ _ (fun h => absurd rfl h) ?_
        clear hK K bF kF oBF oAF z0 t0 z1 t1 z2 t2 z3 t3 z4 t4 z5 t5 z6 t6 z7 t7 z8 t8 z9 t9 z10 t10 z11 t11 z12 t12 z13 t13 z14 t14
        (try simp only [Act.put, List.setIfInBounds_toArray, List.set_cons_zero, List.set_cons_succ])
        refine wpAnyZ_done (by kernel_rfl) ?_ _
        go_wp2_with fail
        go_meet
        exact ⟨_, pB, cB, pA, cA, rfl, ZF⟩
    · skip
      go_simp
      obtain ⟨y13, hy13⟩ : ∃ wx, wx = wd.alloc (.cells #[.int .i64 0, .int .i64 0, .int .i64 0, .int .i64 0, .int .i64 0, .int .i64 0, .slice none 0 0, .slice none 0 0, .int .i64 0, .slice none 0 0, .slice none 0 0, .slice none 0 0, .slice none 0 0, .slice none 0 0, .slice none 0 0] 42) := ⟨_, rfl⟩
      have ky13 : Kept [] wd y13 := by rw [hy13]; exact (Kept.refl [] _).alloc _
      have Dy13 : Blk y13 wd.heap.size 42 [.int .i64 0, .int .i64 0, .int .i64 0, .int .i64 0, .int .i64 0, .int .i64 0, .slice none 0 0, .slice none 0 0, .int .i64 0, .slice none 0 0, .slice none 0 0, .slice none 0 0, .slice none 0 0, .slice none 0 0, .slice none 0 0] := by rw [hy13]; exact Blk.new _ _ _
      have Ky13 := K0.then ky13
      have hD : wa.heap.size ≤ wd.heap.size := K0.size
      have Sy13 : y13.cell? ⟨w.heap.size, 6, none⟩ = some (.slice pba xa.before.length cba) ∧ y13.cell? ⟨w.heap.size, 7, none⟩ = some (.slice paa xa.after.length caa) := ⟨Ky13.cell c6 (by simp), Ky13.cell c7 (by simp)⟩
      rw [← hy13]
      refine hK _ _ (fun _ => Sy13) ?_
      clear hK K hy13
      (try simp only [Act.put, List.setIfInBounds_toArray, List.set_cons_zero, List.set_cons_succ])
      refine wpAnyZ_one 2 rfl (by kernel_rfl) (fun K hK => ?_)
      go_simp
      refine (hL1 _ Ky13).mono ?_
      rintro e y14 ⟨vB, rfl, oBy14, ky14⟩
      obtain ⟨pB, cB, hvB⟩ := own_shape2 oBy14
      subst hvB
      have Ky14 := Ky13.then ky14
      have Dy14 := Dy13.kept ky14 (by simp)
      have Sy14 : y14.cell? ⟨w.heap.size, 6, none⟩ = some (.slice pba xa.before.length cba) ∧ y14.cell? ⟨w.heap.size, 7, none⟩ = some (.slice paa xa.after.length caa) := ⟨Ky14.cell c6 (by simp), Ky14.cell c7 (by simp)⟩
      dsimp only
      refine hK _ _ (fun _ => Sy14) ?_
      clear hK K
      (try simp only [Act.put, List.setIfInBounds_toArray, List.set_cons_zero, List.set_cons_succ])
      refine wpAnyZ_one 5 rfl (by kernel_rfl) (fun K hK => ?_)
      go_simp
      refine (hL2 _ Ky14).mono ?_
      rintro e y15 ⟨vA, rfl, oAy15, ky15⟩
      obtain ⟨pA, cA, hvA⟩ := own_shape2 oAy15
      subst hvA
      have Ky15 := Ky14.then ky15
      have Dy15 := Dy14.kept ky15 (by simp)
      have oBy15 := own_of_kept oBy14 ky15 (by simp)
      have ab : Apartv (.slice pA (xa.after.length + 120) cA) (.slice pB (xa.before.length + 120) cB) := fun y h1 h2 => by have e1 := own_ge oAy15 y h1; have e2 := own_lt oBy14 y h2; omega
      have Sy15 : y15.cell? ⟨w.heap.size, 6, none⟩ = some (.slice pba xa.before.length cba) ∧ y15.cell? ⟨w.heap.size, 7, none⟩ = some (.slice paa xa.after.length caa) := ⟨Ky15.cell c6 (by simp), Ky15.cell c7 (by simp)⟩
      dsimp only
      refine hK _ _ (fun _ => Sy15) ?_
      clear hK K
      (try simp only [Act.put, List.setIfInBounds_toArray, List.set_cons_zero, List.set_cons_succ])
      refine wpAnyZ_one 6 rfl (by kernel_rfl) (fun K hK => ?_)
      go_simp
      refine hK _ _ (fun _ => Sy15) ?_
      clear hK K
      (try simp only [Act.put, List.setIfInBounds_toArray, List.set_cons_zero, List.set_cons_succ])
      refine wpAnyZ_one 8 rfl (by kernel_rfl) (fun K hK => ?_)
      have z0 := Dy15.cell (j := 0) rfl
      have z1 := Dy15.cell (j := 1) rfl
      have z2 := Dy15.cell (j := 2) rfl
      have z3 := Dy15.cell (j := 3) rfl
      have z4 := Dy15.cell (j := 4) rfl
      have z5 := Dy15.cell (j := 5) rfl
      have z6 := Dy15.cell (j := 6) rfl
      have z7 := Dy15.cell (j := 7) rfl
      have z8 := Dy15.cell (j := 8) rfl
      have z9 := Dy15.cell (j := 9) rfl
      have z10 := Dy15.cell (j := 10) rfl
      have z11 := Dy15.cell (j := 11) rfl
      have z12 := Dy15.cell (j := 12) rfl
      have z13 := Dy15.cell (j := 13) rfl
      have z14 := Dy15.cell (j := 14) rfl
      have t0 := Dy15.free 0
      have t1 := Dy15.free 1
      have t2 := Dy15.free 2
      have t3 := Dy15.free 3
      have t4 := Dy15.free 4
      have t5 := Dy15.free 5
      have t6 := Dy15.free 6
      have t7 := Dy15.free 7
      have t8 := Dy15.free 8
      have t9 := Dy15.free 9
      have t10 := Dy15.free 10
      have t11 := Dy15.free 11
      have t12 := Dy15.free 12
      have t13 := Dy15.free 13
      have t14 := Dy15.free 14
      obtain ⟨bF, kF⟩ := Dy15.fill15 (.int .i64 0) (.int .i64 0) (.int .i64 0) (.int .i64 0) (.int .i64 0) (.int .i64 0) (.slice none 0 0) (.slice none 0 0) (.int .i64 0) (.slice none 0 0) (.slice none 0 0) (.slice pB (xa.before.length + 120) cB) (.slice pA (xa.after.length + 120) cA) (.slice none 0 0) (.slice none 0 0)
      have oBF := own_of_kept oBy15 kF (fun y hy hm => by simp at hm; subst hm; exact own_blk_ne9 oBy15 Dy15 (by decide) hy)
      have oAF := own_of_kept oAy15 kF (fun y hy hm => by simp at hm; subst hm; exact own_blk_ne9 oAy15 Dy15 (by decide) hy)
      have ZF := @hideH _ (Dk0.mk bF (own_mono oBF Ky13.size) (own_mono oAF Ky14.size) ab (Ky15.trans kF (fun y hy => .inr (by simp at hy; omega))) hD)
      go_simp
      refine hK _ _ (fun h => absurd rfl h) ?_
      clear hK K bF kF oBF oAF z0 t0 z1 t1 z2 t2 z3 t3 z4 t4 z5 t5 z6 t6 z7 t7 z8 t8 z9 t9 z10 t10 z11 t11 z12 t12 z13 t13 z14 t14
      (try simp only [Act.put, List.setIfInBounds_toArray, List.set_cons_zero, List.set_cons_succ])
      refine wpAnyZ_done (by kernel_rfl) ?_ _
      go_wp2_with fail
      go_meet
      exact ⟨_, pB, cB, pA, cA, rfl, ZF⟩
  case rest =>
    obtain ⟨D, pB, cB, pA, cA, rfl, hC⟩ := hcut
    clear hL1 hL2 c6 c7
    have d0 : Dk wa wc D wc.heap.size xa pB cB pA cA [] none 0 [] none 0 := ⟨hC.out.blk, hC.out.fb, hC.out.fa, Row.nil _ _ _, Row.nil _ _ _, hC.out.ab, .nil_l _, hC.out.kept, ⟨hC.out.loD, hC.out.blk.lt⟩, fun x hx => own_lt hC.out.fb x hx, fun x hx => own_lt hC.out.fa x hx, Nat.le_refl _⟩
    clear hC
    obtain ⟨inf, hin1, hin2, hin3, hin4⟩ := info_parts3 (show (Try.prog.info? 66).map (fun i => (i.zero, i.size, i.bytes)) = some (some (.agg #[.int .i64 0, .int .i64 0, .int .i64 0, .int .i64 0, .int .i64 0]), 5, 40) by kernel_rfl)
    have HI := @hideH _ (And.intro hin1 (And.intro hin2 (And.intro hin3 hin4)))
    obtain ⟨inf2, hjn1, hjn2, hjn3, hjn4⟩ := info_parts3 (show (Try.prog.info? 68).map (fun i => (i.zero, i.size, i.bytes)) = some (some (.agg #[.int .i64 0, .int .i64 0]), 2, 16) by kernel_rfl)
    have HI2 := @hideH _ (And.intro hjn1 (And.intro hjn2 (And.intro hjn3 hjn4)))
    clear hin1 hin2 hin3 hin4 hjn1 hjn2 hjn3 hjn4
    have c9 := (HBA.out.kept d0.kept (by simp)).cell (j := 9) rfl
    have e13 : wc.cell? ⟨D, 13, none⟩ = some (.slice none 0 0) := d0.blk.cell (j := 13) rfl
    have srcR := Src.ofCs (P := Try.prog) Try.underlying23 ((HSA.out.rows.kept HKA.out).kept d0.kept)
    go_upto_region 3 with (at_builtin; refine wpList_append_row rfl (.tmp 13) (.tmp 15) 23 rfl wc.heap.size 66 inf (.agg #[.int .i64 0, .int .i64 0, .int .i64 0, .int .i64 0, .int .i64 0]) 5 40 Try.underlying23 HI.out.1 HI.out.2.1 HI.out.2.2.1 HI.out.2.2.2 rfl _ 0 ([]) (by rfl) d0.rr _ xa.rows.length (rcells xa.rows) (by rfl) srcR (by have := HCAP.out.2.2.1; omega) (by have := HCAP.out.2.2.1; unfold maxLen; omega) (by have := HCAP.out.2.2.1; omega) (Nat.le_refl _) ?_; intro v1 y1 r1 k1 at1; obtain ⟨p1, c1, hv1, b1, d1⟩ := d0.addR (Kept.refl [] wc) rfl r1 k1 at1; rw [List.length_nil, Nat.zero_add] at hv1; rw [List.length_nil, Nat.zero_add, List.nil_append] at d1; subst hv1; have cw := b1.cell (j := 13) rfl; have fw := b1.free 13; obtain ⟨x1, hx1⟩ : ∃ x1, x1 = y1.setCell ⟨D, 13, none⟩ (.slice p1 xa.rows.length c1) := ⟨_, rfl⟩; rw [← hx1] at d1)
    rw [← hx1]
    clear hx1 cw fw b1 r1 k1 at1 srcR c9 e13 d0
    have c10 := (HBA.out.kept d1.kept (by simp)).cell (j := 10) rfl
    have e14 : x1.cell? ⟨D, 14, none⟩ = some (.slice none 0 0) := d1.blk.cell (j := 14) rfl
    have srcD := Src.ofCs (P := Try.prog) Try.underlying24 ((HSA.out.dirty.kept HKA.out).kept d1.kept)
    go_upto_region 4 with (at_builtin; refine wpList_append_row rfl (.tmp 19) (.tmp 21) 24 rfl wc.heap.size 68 inf2 (.agg #[.int .i64 0, .int .i64 0]) 2 16 Try.underlying24 HI2.out.1 HI2.out.2.1 HI2.out.2.2.1 HI2.out.2.2.2 rfl _ 0 ([]) (by rfl) d1.rd _ xa.dirty.length (dcells xa.dirty) (by rfl) srcD (by have := HCAP.out.2.2.2; omega) (by have := HCAP.out.2.2.2; unfold maxLen; omega) (by have := HCAP.out.2.2.2; omega) d1.hb ?_; intro v2 y2 r2 k2 at2; obtain ⟨p2, c2, hv2, b2, d2⟩ := d1.addD (Kept.refl [] x1) rfl r2 k2 at2; rw [List.length_nil, Nat.zero_add] at hv2; rw [List.length_nil, Nat.zero_add, List.nil_append] at d2; subst hv2; have cw := b2.cell (j := 14) rfl; have fw := b2.free 14; obtain ⟨x2, hx2⟩ : ∃ x2, x2 = y2.setCell ⟨D, 14, none⟩ (.slice p2 xa.dirty.length c2) := ⟨_, rfl⟩; rw [← hx2] at d2)
    rw [← hx2]
    clear hx2 cw fw b2 r2 k2 at2 srcD c10 e14 d1
    have D0 := @hideH _ d2
    clear d2
    go_wp2
    go_loopw [4] (fun vi wr => ∃ (k : Nat) (lR : List RowR) (lD : List RecR) (pR : Option Addr) (cR : Nat) (pD : Option Addr) (cD : Nat), k ≤ 40 ∧ vi = .int .i64 k ∧ Hid ((lR = xa.rows ++ marksR k ∧ lD = xa.dirty ++ marksD k) ∧ Dk wa wr D wc.heap.size xa pB cB pA cA lR pR cR lD pD cD)) (fun vi _ => 40 - (intOf vi).toNat)
    case atStart => exact ⟨0, xa.rows, xa.dirty, p1, c1, p2, c2, Nat.zero_le _, rfl, ⟨by simp [marksR], by simp [marksD]⟩, D0.out⟩
    case round =>
      clear D0
      obtain ⟨k, lR, lD, pR, cR, pD, cD, hk, rfl, hh⟩ := hrel
      by_cases hkl : k < 40
      · have hkl' : (k : Int) < 40 := by omega
        have wk : IntKind.i64.wrap ((k : Int) + 1) = (k : Int) + 1 := wrap_i64_of (by omega) (by omega)
        have dR := hh.out.2
        have HEQ := @hideH _ hh.out.1
        clear hh
        have nR := @hideH _ (show lR.length = xa.rows.length + k by rw [HEQ.out.1, List.length_append, marksR_length])
        have nD := @hideH _ (show lD.length = xa.dirty.length + k by rw [HEQ.out.2, List.length_append, marksD_length])
        have e13 : wr.cell? ⟨D, 13, none⟩ = some (.slice pR lR.length cR) := dR.blk.cell (j := 13) rfl
        have hsrc := src_row (P := Try.prog) wr 23 66 Try.underlying23 (markR k)
        unfold markR at hsrc
        dsimp only at hsrc
        go_upto_region 8 with (at_builtin; refine wpList_append_row rfl (.tmp 29) (.tmp 32) 23 rfl wc.heap.size 66 inf (.agg #[.int .i64 0, .int .i64 0, .int .i64 0, .int .i64 0, .int .i64 0]) 5 40 Try.underlying23 HI.out.1 HI.out.2.1 HI.out.2.2.1 HI.out.2.2.2 rfl _ lR.length (rcells lR) (by rfl) (dR.rr.kept ((Kept.refl [] wr).alloc _) (by simp)) _ 1 (rcells [(⟨-5, (k : Int), 0, 0, 0⟩ : RowR)]) (by rfl) hsrc (by have e1 := HCAP.out.2.2.1; have e2 := nR.out; omega) (by have e1 := HCAP.out.2.2.1; have e2 := nR.out; unfold maxLen; omega) (by have e1 := HCAP.out.2.2.1; have e2 := nR.out; omega) (by have := dR.hb; rw [World.size_alloc]; omega) ?_; intro v1 y1 r1 k1 at1; obtain ⟨p1, c1, hv1, b1, d1⟩ := dR.addR (new := [(⟨-5, (k : Int), 0, 0, 0⟩ : RowR)]) (m := 1) ((Kept.refl [] wr).alloc _) rfl r1 k1 at1; subst hv1; have cw := b1.cell (j := 13) rfl; have fw := b1.free 13; obtain ⟨x1, hx1⟩ : ∃ x1, x1 = y1.setCell ⟨D, 13, none⟩ (.slice p1 (lR.length + 1) c1) := ⟨_, rfl⟩; rw [← hx1] at d1)
        rw [← hx1]
        clear hx1 cw fw b1 r1 k1 at1 hsrc e13 dR
        have e14 : x1.cell? ⟨D, 14, none⟩ = some (.slice pD lD.length cD) := d1.blk.cell (j := 14) rfl
        have hsrc := src_rec (P := Try.prog) x1 24 68 Try.underlying24 (markD k)
        unfold markD at hsrc
        dsimp only at hsrc
        go_upto_region 6 with (at_builtin; refine wpList_append_row rfl (.tmp 36) (.tmp 39) 24 rfl wc.heap.size 68 inf2 (.agg #[.int .i64 0, .int .i64 0]) 2 16 Try.underlying24 HI2.out.1 HI2.out.2.1 HI2.out.2.2.1 HI2.out.2.2.2 rfl _ lD.length (dcells lD) (by rfl) (d1.rd.kept ((Kept.refl [] x1).alloc _) (by simp)) _ 1 (dcells [(⟨-7, (k : Int)⟩ : RecR)]) (by rfl) hsrc (by have e1 := HCAP.out.2.2.2; have e2 := nD.out; omega) (by have e1 := HCAP.out.2.2.2; have e2 := nD.out; unfold maxLen; omega) (by have e1 := HCAP.out.2.2.2; have e2 := nD.out; omega) (by have := d1.hb; rw [World.size_alloc]; omega) ?_; intro v2 y2 r2 k2 at2; obtain ⟨p2, c2, hv2, b2, d2⟩ := d1.addD (new := [(⟨-7, (k : Int)⟩ : RecR)]) (m := 1) ((Kept.refl [] x1).alloc _) rfl r2 k2 at2; subst hv2; have cw := b2.cell (j := 14) rfl; have fw := b2.free 14; obtain ⟨x2, hx2⟩ : ∃ x2, x2 = y2.setCell ⟨D, 14, none⟩ (.slice p2 (lD.length + 1) c2) := ⟨_, rfl⟩; rw [← hx2] at d2)
        rw [← hx2]
        clear hx2 cw fw b2 r2 k2 at2 hsrc e14 d1
        have REL := @hideH _ (And.intro (show lR ++ [(⟨-5, (k : Int), 0, 0, 0⟩ : RowR)] = xa.rows ++ marksR (k + 1) ∧ lD ++ [(⟨-7, (k : Int)⟩ : RecR)] = xa.dirty ++ marksD (k + 1) from ⟨by rw [HEQ.out.1, marksR_next, List.append_assoc]; rfl, by rw [HEQ.out.2, marksD_next, List.append_assoc]; rfl⟩) d2)
        clear d2 HEQ nR nD
        go_wp2
        go_roundw
        case rel => exact ⟨k + 1, _, _, p1, c1, p2, c2, by omega, by go_num, REL⟩
        case measure => simp [intOf]; omega
      · have hkl' : ¬ (k : Int) < 40 := by omega
        obtain rfl : k = 40 := by omega
        obtain ⟨⟨hlR, hlD⟩, dR⟩ := hh.out
        subst hlR hlD
        clear hh
        have lenR : (xa.rows ++ marksR 40).length = xa.rows.length + 40 := by rw [List.length_append, marksR_length]
        have lenD : (xa.dirty ++ marksD 40).length = xa.dirty.length + 40 := by rw [List.length_append, marksD_length]
        have bD := dR.blk
        have rr := dR.rr
        have rd := dR.rd
        rw [lenR, lenD] at bD
        rw [lenR] at rr
        rw [lenD] at rd
        have HR9 := @hideH _ (And.intro rr (And.intro rd (And.intro dR.fb (And.intro dR.fa (And.intro dR.ab (And.intro dR.kept (And.intro dR.loD (And.intro dR.loA bD))))))))
        have Ba := HBA.out.kept dR.kept (by simp)
        have lB : xa.before.length ≤ cB := by obtain ⟨p', c', e, q1, _⟩ := bs_own9 dR.fb (by rw [List.length_append, lent9_length]); simp only [Value.slice.injEq] at e; rw [← e.2.2, List.length_append] at q1; omega
        have lA : xa.after.length ≤ cA := by obtain ⟨p', c', e, q1, _⟩ := bs_own9 dR.fa (by rw [List.length_append, lent9_length]); simp only [Value.slice.injEq] at e; rw [← e.2.2, List.length_append] at q1; omega
        have lR9 : xa.rows.length ≤ cR := by obtain ⟨_, _, e, q1, _⟩ := rr.shape; cases e; omega
        have lD9 : xa.dirty.length ≤ cD := by obtain ⟨_, _, e, q1, _⟩ := rd.shape; cases e; omega
        have h6 := fun u => run_cut_to (P := Try.prog) u 22 5 Try.underlying22 sz8 pB (xa.before.length + 120) cB xa.before.length lB
        have h7 := fun u => run_cut_to (P := Try.prog) u 22 5 Try.underlying22 sz8 pA (xa.after.length + 120) cA xa.after.length lA
        have h9 := fun u => run_cut_to_sz (P := Try.prog) u 23 66 5 Try.underlying23 (by kernel_rfl) pR (xa.rows.length + 40) cR xa.rows.length lR9
        have h10 := fun u => run_cut_to_sz (P := Try.prog) u 24 68 2 Try.underlying24 (by kernel_rfl) pD (xa.dirty.length + 40) cD xa.dirty.length lD9
        have bA := HBO.out.kept dR.kept (by simp)
        have sA : w.heap.size + 1 < wa.heap.size := HBO.out.lt
        have nDA : w.heap.size + 1 ∉ [D] := fun hm => by simp at hm; have := dR.loD; omega
        have nDB : w.heap.size ∉ [D] := fun hm => by simp at hm; have := dR.loD; omega
        clear dR rr rd lB lA lR9 lD9 lenR lenD
        have c0 := Ba.cell (j := 0) rfl
        have c1 := Ba.cell (j := 1) rfl
        have c2 := Ba.cell (j := 2) rfl
        have c3 := Ba.cell (j := 3) rfl
        have c4 := Ba.cell (j := 4) rfl
        have c5 := Ba.cell (j := 5) rfl
        have c6 := Ba.cell (j := 6) rfl
        have c7 := Ba.cell (j := 7) rfl
        have c8 := Ba.cell (j := 8) rfl
        have c9 := Ba.cell (j := 9) rfl
        have c10 := Ba.cell (j := 10) rfl
        have z0 := bD.cell (j := 0) rfl
        have z1 := bD.cell (j := 1) rfl
        have z2 := bD.cell (j := 2) rfl
        have z3 := bD.cell (j := 3) rfl
        have z4 := bD.cell (j := 4) rfl
        have z5 := bD.cell (j := 5) rfl
        have z6 := bD.cell (j := 6) rfl
        have z7 := bD.cell (j := 7) rfl
        have z8 := bD.cell (j := 8) rfl
        have z9 := bD.cell (j := 9) rfl
        have z10 := bD.cell (j := 10) rfl
        have z11 := bD.cell (j := 11) rfl
        have z12 := bD.cell (j := 12) rfl
        have z13 := bD.cell (j := 13) rfl
        have z14 := bD.cell (j := 14) rfl
        have t0 := bD.free 0
        have t1 := bD.free 1
        have t2 := bD.free 2
        have t3 := bD.free 3
        have t4 := bD.free 4
        have t5 := bD.free 5
        have t6 := bD.free 6
        have t7 := bD.free 7
        have t8 := bD.free 8
        have t9 := bD.free 9
        have t10 := bD.free 10
        have t11 := bD.free 11
        have t12 := bD.free 12
        have t13 := bD.free 13
        have t14 := bD.free 14
        obtain ⟨b9, k9⟩ := bD.fill11of15 (.int .i64 xa.kind) (.int .i64 xa.birth) (.int .i64 xa.prev) (.int .i64 xa.id) (.int .i64 xa.page) (.int .i64 xa.frm) (.slice pba xa.before.length cba) (.slice paa xa.after.length caa) (.int .i64 xa.next) (.slice pra xa.rows.length cra) (.slice pda xa.dirty.length cda)
        obtain ⟨x9, hx9⟩ : ∃ wx, wx = (((((((((((wr.setCell ⟨D, 0, none⟩ (.int .i64 xa.kind)).setCell ⟨D, 1, none⟩ (.int .i64 xa.birth)).setCell ⟨D, 2, none⟩ (.int .i64 xa.prev)).setCell ⟨D, 3, none⟩ (.int .i64 xa.id)).setCell ⟨D, 4, none⟩ (.int .i64 xa.page)).setCell ⟨D, 5, none⟩ (.int .i64 xa.frm)).setCell ⟨D, 6, none⟩ (.slice pba xa.before.length cba)).setCell ⟨D, 7, none⟩ (.slice paa xa.after.length caa)).setCell ⟨D, 8, none⟩ (.int .i64 xa.next)).setCell ⟨D, 9, none⟩ (.slice pra xa.rows.length cra)).setCell ⟨D, 10, none⟩ (.slice pda xa.dirty.length cda)) := ⟨_, rfl⟩
        rw [← hx9] at b9 k9
        go_upto_region 10 with fail
        rw [← hx9]
        clear hx9 bD z0 t0 z1 t1 z2 t2 z3 t3 z4 t4 z5 t5 z6 t6 z7 t7 z8 t8 z9 t9 z10 t10 z11 t11 z12 t12 z13 t13 z14 t14
        replace c0 := k9.cell c0 nDB
        replace c1 := k9.cell c1 nDB
        replace c2 := k9.cell c2 nDB
        replace c3 := k9.cell c3 nDB
        replace c4 := k9.cell c4 nDB
        replace c5 := k9.cell c5 nDB
        replace c6 := k9.cell c6 nDB
        replace c7 := k9.cell c7 nDB
        replace c8 := k9.cell c8 nDB
        replace c9 := k9.cell c9 nDB
        replace c10 := k9.cell c10 nDB
        have zs := b9.cell (j := 11) rfl
        have zt := b9.cell (j := 6) rfl
        have ft := b9.free 6
        obtain ⟨b10, kk10⟩ := b9.set 6 (.slice pB xa.before.length cB)
        obtain ⟨x10, hx10⟩ : ∃ wx, wx = x9.setCell ⟨D, 6, none⟩ (.slice pB xa.before.length cB) := ⟨_, rfl⟩
        rw [← hx10] at b10 kk10
        have k10 := k9.trans kk10 (fun x hx => .inl hx)
        go_upto_region 11 with fail
        rw [← hx10]
        clear hx10 zs zt ft b9 h6 k9
        replace c0 := kk10.cell c0 nDB
        replace c1 := kk10.cell c1 nDB
        replace c2 := kk10.cell c2 nDB
        replace c3 := kk10.cell c3 nDB
        replace c4 := kk10.cell c4 nDB
        replace c5 := kk10.cell c5 nDB
        replace c6 := kk10.cell c6 nDB
        replace c7 := kk10.cell c7 nDB
        replace c8 := kk10.cell c8 nDB
        replace c9 := kk10.cell c9 nDB
        replace c10 := kk10.cell c10 nDB
        clear kk10
        dsimp only [List.set] at b10
        have zs := b10.cell (j := 12) rfl
        have zt := b10.cell (j := 7) rfl
        have ft := b10.free 7
        obtain ⟨b11, kk11⟩ := b10.set 7 (.slice pA xa.after.length cA)
        obtain ⟨x11, hx11⟩ : ∃ wx, wx = x10.setCell ⟨D, 7, none⟩ (.slice pA xa.after.length cA) := ⟨_, rfl⟩
        rw [← hx11] at b11 kk11
        have k11 := k10.trans kk11 (fun x hx => .inl hx)
        go_upto_region 12 with fail
        rw [← hx11]
        clear hx11 zs zt ft b10 h7 k10
        replace c0 := kk11.cell c0 nDB
        replace c1 := kk11.cell c1 nDB
        replace c2 := kk11.cell c2 nDB
        replace c3 := kk11.cell c3 nDB
        replace c4 := kk11.cell c4 nDB
        replace c5 := kk11.cell c5 nDB
        replace c6 := kk11.cell c6 nDB
        replace c7 := kk11.cell c7 nDB
        replace c8 := kk11.cell c8 nDB
        replace c9 := kk11.cell c9 nDB
        replace c10 := kk11.cell c10 nDB
        clear kk11
        dsimp only [List.set] at b11
        have zs := b11.cell (j := 13) rfl
        have zt := b11.cell (j := 9) rfl
        have ft := b11.free 9
        obtain ⟨b12, kk12⟩ := b11.set 9 (.slice pR xa.rows.length cR)
        obtain ⟨x12, hx12⟩ : ∃ wx, wx = x11.setCell ⟨D, 9, none⟩ (.slice pR xa.rows.length cR) := ⟨_, rfl⟩
        rw [← hx12] at b12 kk12
        have k12 := k11.trans kk12 (fun x hx => .inl hx)
        go_upto_region 13 with fail
        rw [← hx12]
        clear hx12 zs zt ft b11 h9 k11
        replace c0 := kk12.cell c0 nDB
        replace c1 := kk12.cell c1 nDB
        replace c2 := kk12.cell c2 nDB
        replace c3 := kk12.cell c3 nDB
        replace c4 := kk12.cell c4 nDB
        replace c5 := kk12.cell c5 nDB
        replace c6 := kk12.cell c6 nDB
        replace c7 := kk12.cell c7 nDB
        replace c8 := kk12.cell c8 nDB
        replace c9 := kk12.cell c9 nDB
        replace c10 := kk12.cell c10 nDB
        clear kk12
        dsimp only [List.set] at b12
        have zs := b12.cell (j := 14) rfl
        have zt := b12.cell (j := 10) rfl
        have ft := b12.free 10
        obtain ⟨b13, kk13⟩ := b12.set 10 (.slice pD xa.dirty.length cD)
        obtain ⟨x13, hx13⟩ : ∃ wx, wx = x12.setCell ⟨D, 10, none⟩ (.slice pD xa.dirty.length cD) := ⟨_, rfl⟩
        rw [← hx13] at b13 kk13
        have k13 := k12.trans kk13 (fun x hx => .inl hx)
        go_upto_region 14 with fail
        rw [← hx13]
        clear hx13 zs zt ft b12 h10 k12
        replace c0 := kk13.cell c0 nDB
        replace c1 := kk13.cell c1 nDB
        replace c2 := kk13.cell c2 nDB
        replace c3 := kk13.cell c3 nDB
        replace c4 := kk13.cell c4 nDB
        replace c5 := kk13.cell c5 nDB
        replace c6 := kk13.cell c6 nDB
        replace c7 := kk13.cell c7 nDB
        replace c8 := kk13.cell c8 nDB
        replace c9 := kk13.cell c9 nDB
        replace c10 := kk13.cell c10 nDB
        clear kk13
        dsimp only [List.set] at b13
        have bA13 := bA.kept k13 nDA
        have z0 := b13.cell (j := 0) rfl
        have z1 := b13.cell (j := 1) rfl
        have z2 := b13.cell (j := 2) rfl
        have z3 := b13.cell (j := 3) rfl
        have z4 := b13.cell (j := 4) rfl
        have z5 := b13.cell (j := 5) rfl
        have z6 := b13.cell (j := 6) rfl
        have z7 := b13.cell (j := 7) rfl
        have z8 := b13.cell (j := 8) rfl
        have z9 := b13.cell (j := 9) rfl
        have z10 := b13.cell (j := 10) rfl
        have z11 := b13.cell (j := 11) rfl
        have z12 := b13.cell (j := 12) rfl
        have z13 := b13.cell (j := 13) rfl
        have z14 := b13.cell (j := 14) rfl
        have a0 := bA13.cell (j := 0) rfl
        have a1 := bA13.cell (j := 1) rfl
        have a2 := bA13.cell (j := 2) rfl
        have a3 := bA13.cell (j := 3) rfl
        have a4 := bA13.cell (j := 4) rfl
        have a5 := bA13.cell (j := 5) rfl
        have a6 := bA13.cell (j := 6) rfl
        have a7 := bA13.cell (j := 7) rfl
        have a8 := bA13.cell (j := 8) rfl
        have a9 := bA13.cell (j := 9) rfl
        have a10 := bA13.cell (j := 10) rfl
        have a11 := bA13.cell (j := 11) rfl
        have a12 := bA13.cell (j := 12) rfl
        have a13 := bA13.cell (j := 13) rfl
        have a14 := bA13.cell (j := 14) rfl
        have t0 := bA13.free 0
        have t1 := bA13.free 1
        have t2 := bA13.free 2
        have t3 := bA13.free 3
        have t4 := bA13.free 4
        have t5 := bA13.free 5
        have t6 := bA13.free 6
        have t7 := bA13.free 7
        have t8 := bA13.free 8
        have t9 := bA13.free 9
        have t10 := bA13.free 10
        have t11 := bA13.free 11
        have t12 := bA13.free 12
        have t13 := bA13.free 13
        have t14 := bA13.free 14
        obtain ⟨bO, kO⟩ := bA13.fill15 (.int .i64 xa.kind) (.int .i64 xa.birth) (.int .i64 xa.prev) (.int .i64 xa.id) (.int .i64 xa.page) (.int .i64 xa.frm) (.slice pB xa.before.length cB) (.slice pA xa.after.length cA) (.int .i64 xa.next) (.slice pR xa.rows.length cR) (.slice pD xa.dirty.length cD) (.slice pB (xa.before.length + 120) cB) (.slice pA (xa.after.length + 120) cA) (.slice pR (xa.rows.length + 40) cR) (.slice pD (xa.dirty.length + 40) cD)
        obtain ⟨xF, hxF⟩ : ∃ wx, wx = (((((((((((((((x13.setCell ⟨w.heap.size + 1, 0, none⟩ (.int .i64 xa.kind)).setCell ⟨w.heap.size + 1, 1, none⟩ (.int .i64 xa.birth)).setCell ⟨w.heap.size + 1, 2, none⟩ (.int .i64 xa.prev)).setCell ⟨w.heap.size + 1, 3, none⟩ (.int .i64 xa.id)).setCell ⟨w.heap.size + 1, 4, none⟩ (.int .i64 xa.page)).setCell ⟨w.heap.size + 1, 5, none⟩ (.int .i64 xa.frm)).setCell ⟨w.heap.size + 1, 6, none⟩ (.slice pB xa.before.length cB)).setCell ⟨w.heap.size + 1, 7, none⟩ (.slice pA xa.after.length cA)).setCell ⟨w.heap.size + 1, 8, none⟩ (.int .i64 xa.next)).setCell ⟨w.heap.size + 1, 9, none⟩ (.slice pR xa.rows.length cR)).setCell ⟨w.heap.size + 1, 10, none⟩ (.slice pD xa.dirty.length cD)).setCell ⟨w.heap.size + 1, 11, none⟩ (.slice pB (xa.before.length + 120) cB)).setCell ⟨w.heap.size + 1, 12, none⟩ (.slice pA (xa.after.length + 120) cA)).setCell ⟨w.heap.size + 1, 13, none⟩ (.slice pR (xa.rows.length + 40) cR)).setCell ⟨w.heap.size + 1, 14, none⟩ (.slice pD (xa.dirty.length + 40) cD)) := ⟨_, rfl⟩
        rw [← hxF] at bO kO
        obtain ⟨rr, rd, fb, fa, ab, kp, loD, loA, bD⟩ := HR9.out
        have two : ∀ {v : Value} {m : Nat} {xs : List Value}, wr.ownsRow wa.heap.size 5 1 v m xs → xF.ownsRow w.heap.size 5 1 v m xs := fun {v m xs} h => own_mono (own_of_kept (own_of_kept h k13 (fun y hy hm => by simp at hm; subst hm; exact own_blk_ne9 h bD (by decide) hy)) kO (fun y hy hm => by simp at hm; have e1 := own_ge h y hy; omega)) HKA.out.size
        have twoR : ∀ {v : Value} {m sz : Nat} {xs : List Value}, Row wr wc.heap.size sz v m xs → Row xF w.heap.size sz v m xs := fun {v m sz xs} h => ((h.kept k13 (fun y hy hm => by simp at hm; have e1 := (h.lt y hy).1; omega)).kept kO (fun y hy hm => by simp at hm; have e1 := (h.lt y hy).1; omega)).mono (by have e1 := HKA.out.size; omega)
        have FIN := @hideH _ (And.intro (show DeskO w.heap.size xF xa pB cB pA cA pR cR pD cD from ⟨two fb, two fa, twoR rr, twoR rd, ab, fun y h1 h2 => by have e1 := loA y h1; have e2 := (rr.lt y h2).1; omega, fun y h1 h2 => by have e1 := loA y h1; have e2 := (rd.lt y h2).1; omega⟩) (show Kept [] w xF from ((HKA.out.then kp).trans k13 (fun y hy => .inr (by simp at hy; have e1 := HKA.out.size; omega))).trans kO (fun y hy => .inr (by simp at hy; omega))))
        clear two twoR rr rd fb fa ab kp loD loA bD k13 kO HR9 b13 bA bA13 Ba c0 c1 c2 c3 c4 c5 c6 c7 c8 c9 c10
        go_wp2
        rw [← hxF]
        clear hxF z0 a0 t0 z1 a1 t1 z2 a2 t2 z3 a3 t3 z4 a4 t4 z5 a5 t5 z6 a6 t6 z7 a7 t7 z8 a8 t8 z9 a9 t9 z10 a10 t10 z11 a11 t11 z12 a12 t12 z13 a13 t13 z14 a14 t14
        have q0 := bO.cell (j := 0) rfl
        have q1 := bO.cell (j := 1) rfl
        have q2 := bO.cell (j := 2) rfl
        have q3 := bO.cell (j := 3) rfl
        have q4 := bO.cell (j := 4) rfl
        have q5 := bO.cell (j := 5) rfl
        have q6 := bO.cell (j := 6) rfl
        have q7 := bO.cell (j := 7) rfl
        have q8 := bO.cell (j := 8) rfl
        have q9 := bO.cell (j := 9) rfl
        have q10 := bO.cell (j := 10) rfl
        have q11 := bO.cell (j := 11) rfl
        have q12 := bO.cell (j := 12) rfl
        have q13 := bO.cell (j := 13) rfl
        have q14 := bO.cell (j := 14) rfl
        clear bO
        refine bodyPost_ret (by simp [results, Try.results17, go_sem, q0, q1, q2, q3, q4, q5, q6, q7, q8, q9, q10, q11, q12, q13, q14]; try rfl) rfl ?_
        exact ⟨pB, cB, pA, cA, pR, cR, pD, cD, rfl, FIN.out⟩
end Go.Proofs.Ytebcmcmboomgfaa

