import Derived.Lib.SlBytesConst
import Derived.Test.YtebcmcmboomgfaaRows
import Derived.Test.YtebcmcmboomgfaaC6
/-
  OWN WORK. The laws of record: whole, grown, full.
-/
namespace Go.Proofs.Ytebcmcmboomgfaa
open Go.RowKit
set_option linter.unusedVariables false
set_option linter.unusedSimpArgs false

set_option maxRecDepth 20000 in
set_option maxHeartbeats 3200000 in
theorem whole_any (u v : Value) (L b : List UInt8) (w : World) (hu : Bs w u L) (hv : Bs w v b) (hcap : b.length + 120 ≤ 140737488355328) :
    Calls Try.prog 24 #[u, v] w fun e w' => e = .returned (.bool (bl (L = b ++ lent9))) ∧ Kept [] w w' := by
  obtain ⟨pu, cu, rfl, -⟩ := id hu
  obtain ⟨pv, cv, rfl, -⟩ := id hv
  have HU := @hideH _ hu
  have HV := @hideH _ hv
  have HC := @hideH _ hcap
  have kx : Kept [] w w.drew := (Kept.refl [] w).drew
  obtain ⟨M, hM⟩ : ∃ M, M = b ++ lent9 := ⟨_, rfl⟩
  have HM := @hideH _ hM
  rw [← hM]
  clear hu hv hcap hM
  by_cases he : L = M
  · rw [bl_t he]
    subst he
    go_enter Try.func24, Try.ntmps24
    go_upto_region 1 with fail
    refine wp_region_late (fun w' => (Go.convert 22 9 (.slice pu L.length cu)).run Try.prog w' = .ok (.string ⟨L.toArray⟩) w') 6 (by kernel_rfl) ?_
    have hS : (Go.convert 22 9 (.slice pu L.length cu)).run Try.prog w.drew = .ok (.string ⟨L.toArray⟩) w.drew := (HU.out.kept kx).textR
    refine wpAnyZ_take 0 (v := ?v0) rfl (by kernel_rfl) (by kernel_rfl) (by kernel_rfl) (by kernel_rfl) (fun _ _ _ h => h) (by rfl) ?hy0 hS ?rest0
    case hy0 => (intro wx hSx; (try dsimp only at hSx); go_simp; (try with_reducible rfl))
    (try simp only [Act.put, List.setIfInBounds_toArray, List.set_cons_zero, List.set_cons_succ])
    refine wpAnyZ_take 1 (v := ?v1) rfl (by kernel_rfl) (by kernel_rfl) (by kernel_rfl) (by kernel_rfl) (fun _ _ _ h => h) (by rfl) ?hy1 hS ?rest1
    case hy1 => (intro wx hSx; (try dsimp only at hSx); go_simp; (try with_reducible rfl))
    (try simp only [Act.put, List.setIfInBounds_toArray, List.set_cons_zero, List.set_cons_succ])
    refine wpAnyZ_take 2 (v := ?v2) rfl (by kernel_rfl) (by kernel_rfl) (by kernel_rfl) (by kernel_rfl) (fun _ _ _ h => h) (by rfl) ?hy2 hS ?rest2
    case hy2 => (intro wx hSx; (try dsimp only at hSx); go_simp; (try with_reducible rfl))
    (try simp only [Act.put, List.setIfInBounds_toArray, List.set_cons_zero, List.set_cons_succ])
    refine wpAnyZ_one 3 rfl (by kernel_rfl) (fun K hK => ?_)
    go_simp
    refine (lent_any _ b _ (HV.out.kept kx) HC.out).mono ?_
    rintro e w5 ⟨v5, rfl, o5, kn⟩
    rw [← HM.out] at o5
    have t5 := (Bs.ofOwn o5).textR
    obtain ⟨p5, c5, rfl⟩ := own_shape2 o5
    have K5 := @hideH _ (kx.then kn)
    have hS3 : (Go.convert 22 9 (.slice pu L.length cu)).run Try.prog w5 = .ok (.string ⟨L.toArray⟩) w5 := (HU.out.kept K5.out).textR
    dsimp only
    refine hK _ _ (fun _ => hS3) ?_
    clear hK K hS kn kx
    (try simp only [Act.put, List.setIfInBounds_toArray, List.set_cons_zero, List.set_cons_succ])
    refine wpAnyZ_one 4 rfl (by kernel_rfl) (fun K hK => ?_)
    go_simp
    refine hK _ _ (fun _ => hS3) ?_
    clear hK K
    (try simp only [Act.put, List.setIfInBounds_toArray, List.set_cons_zero, List.set_cons_succ])
    refine wpAnyZ_one 5 rfl (by kernel_rfl) (fun K hK => ?_)
    go_simp
    refine hK _ _ (fun _ => hS3) ?_
    clear hK K
    (try simp only [Act.put, List.setIfInBounds_toArray, List.set_cons_zero, List.set_cons_succ])
    refine wpAnyZ_one 6 rfl (by kernel_rfl) (fun K hK => ?_)
    go_simp
    refine hK _ _ (fun h => absurd rfl h) ?_
    clear hK K
    (try simp only [Act.put, List.setIfInBounds_toArray, List.set_cons_zero, List.set_cons_succ])
    refine wpAnyZ_done (by kernel_rfl) ?_ _
    clear hS3 t5 o5
    go_wp2
    go_ret
    exact ⟨by simp, K5.out⟩
  · rw [bl_f he]
    go_enter Try.func24, Try.ntmps24
    go_upto_region 1 with fail
    refine wp_region_late (fun w' => (Go.convert 22 9 (.slice pu L.length cu)).run Try.prog w' = .ok (.string ⟨L.toArray⟩) w') 6 (by kernel_rfl) ?_
    have hS : (Go.convert 22 9 (.slice pu L.length cu)).run Try.prog w.drew = .ok (.string ⟨L.toArray⟩) w.drew := (HU.out.kept kx).textR
    refine wpAnyZ_take 0 (v := ?vb0) rfl (by kernel_rfl) (by kernel_rfl) (by kernel_rfl) (by kernel_rfl) (fun _ _ _ h => h) (by rfl) ?hyb0 hS ?restb0
    case hyb0 => (intro wx hSx; (try dsimp only at hSx); go_simp; (try with_reducible rfl))
    (try simp only [Act.put, List.setIfInBounds_toArray, List.set_cons_zero, List.set_cons_succ])
    refine wpAnyZ_take 1 (v := ?vb1) rfl (by kernel_rfl) (by kernel_rfl) (by kernel_rfl) (by kernel_rfl) (fun _ _ _ h => h) (by rfl) ?hyb1 hS ?restb1
    case hyb1 => (intro wx hSx; (try dsimp only at hSx); go_simp; (try with_reducible rfl))
    (try simp only [Act.put, List.setIfInBounds_toArray, List.set_cons_zero, List.set_cons_succ])
    refine wpAnyZ_take 2 (v := ?vb2) rfl (by kernel_rfl) (by kernel_rfl) (by kernel_rfl) (by kernel_rfl) (fun _ _ _ h => h) (by rfl) ?hyb2 hS ?restb2
    case hyb2 => (intro wx hSx; (try dsimp only at hSx); go_simp; (try with_reducible rfl))
    (try simp only [Act.put, List.setIfInBounds_toArray, List.set_cons_zero, List.set_cons_succ])
    refine wpAnyZ_one 3 rfl (by kernel_rfl) (fun K hK => ?_)
    go_simp
    refine (lent_any _ b _ (HV.out.kept kx) HC.out).mono ?_
    rintro e w5 ⟨v5, rfl, o5, kn⟩
    rw [← HM.out] at o5
    have t5 := (Bs.ofOwn o5).textR
    obtain ⟨p5, c5, rfl⟩ := own_shape2 o5
    have K5 := @hideH _ (kx.then kn)
    have hS3 : (Go.convert 22 9 (.slice pu L.length cu)).run Try.prog w5 = .ok (.string ⟨L.toArray⟩) w5 := (HU.out.kept K5.out).textR
    dsimp only
    refine hK _ _ (fun _ => hS3) ?_
    clear hK K hS kn kx
    (try simp only [Act.put, List.setIfInBounds_toArray, List.set_cons_zero, List.set_cons_succ])
    refine wpAnyZ_one 4 rfl (by kernel_rfl) (fun K hK => ?_)
    go_simp
    refine hK _ _ (fun _ => hS3) ?_
    clear hK K
    (try simp only [Act.put, List.setIfInBounds_toArray, List.set_cons_zero, List.set_cons_succ])
    refine wpAnyZ_one 5 rfl (by kernel_rfl) (fun K hK => ?_)
    go_simp
    refine hK _ _ (fun _ => hS3) ?_
    clear hK K
    (try simp only [Act.put, List.setIfInBounds_toArray, List.set_cons_zero, List.set_cons_succ])
    refine wpAnyZ_one 6 rfl (by kernel_rfl) (fun K hK => ?_)
    go_simp
    refine hK _ _ (fun h => absurd rfl h) ?_
    clear hK K
    (try simp only [Act.put, List.setIfInBounds_toArray, List.set_cons_zero, List.set_cons_succ])
    refine wpAnyZ_done (by kernel_rfl) ?_ _
    clear hS3 t5 o5
    go_wp2
    go_ret
    exact ⟨by simp [he], K5.out⟩
/-- eighty marks behind -/
theorem grown_any (u : Value) (b : List UInt8) (m : UInt8) (base : Nat) (w : World) (hu : w.ownsRow base 5 1 u b.length (u8s b)) (hcap : b.length + 80 ≤ 140737488355328) (hb : base ≤ w.heap.size) :
    Calls Try.prog 35 #[u, .int .u8 (m.toNat : Int)] w fun e w' => ∃ v, e = .returned v ∧ w'.ownsRow base 5 1 v (b.length + 80) (u8s (b ++ List.replicate 80 m)) ∧ Kept u.ownBlock.toList w w' ∧ ∀ y, v.ownBlock = some y → u.ownBlock = some y ∨ w.heap.size ≤ y := by
  obtain ⟨p0, c0, rfl⟩ := own_shape2 hu
  have HB := @hideH _ hb
  have HC := @hideH _ hcap
  have HU := @hideH _ hu
  clear hb hcap hu
  go_enter Try.func35, Try.ntmps35
  go_wp2
  go_loopw [0, 5] (fun l i wr => ∃ k : Nat, k ≤ 80 ∧ i = .int .i64 k ∧ Hid (wr.ownsRow base 5 1 l (b.length + k) (u8s (b ++ List.replicate k m)) ∧ Kept (Value.slice p0 b.length c0).ownBlock.toList w wr ∧ ∀ y, l.ownBlock = some y → (Value.slice p0 b.length c0).ownBlock = some y ∨ w.heap.size ≤ y)) (fun _ i _ => 80 - (intOf i).toNat)
  case atStart => exact ⟨0, Nat.zero_le _, rfl, by simpa using HU.out, Kept.refl _ _, fun y hy => .inl hy⟩
  case round =>
    clear HU
    obtain ⟨k, hk, rfl, hh⟩ := hrel
    obtain ⟨p, c, rfl⟩ := own_shape2 hh.out.1
    by_cases hkl : k < 80
    · have hkl' : (k : Int) < 80 := by omega
      have wk : IntKind.i64.wrap ((k : Int) + 1) = (k : Int) + 1 := wrap_i64_of (by omega) (by omega)
      have ha := @hideH _ (hh.out.1.alloc (.cells #[.int .u8 (m.toNat : Int)] 5))
      have bc := byte_cell wr 5 _ m rfl
      go_wp2_with (at_builtin; refine wpList_append_byte rfl (.tmp 10) (.tmp 12) 22 rfl base 5 Try.underlying22 (by kernel_rfl) _ _ _ (by rfl) ha.out ⟨wr.heap.size, 0, none⟩ 1 m (by rfl) bc (by have e1 := HC.out; omega) (by have e1 := HB.out; have e2 := hh.out.2.1.size; simp; omega) ?_; intro v2 w2 o2 g2 at2; have k2 : Kept (Value.slice p0 b.length c0).ownBlock.toList w w2 := (hh.out.2.1.alloc _).grown g2 (fun y hy => (hh.out.2.2 y hy).elim (fun e => .inl (by simp [e])) .inr); have REL := @hideH _ (And.intro (show w2.ownsRow base 5 1 v2 (b.length + (k + 1)) (u8s (b ++ List.replicate (k + 1) m)) by rw [List.replicate_succ', ← List.append_assoc]; exact o2) (And.intro k2 (show ∀ y, v2.ownBlock = some y → (Value.slice p0 b.length c0).ownBlock = some y ∨ w.heap.size ≤ y from fun y hy => by rcases at2 with e | e; (exact hh.out.2.2 y (by rw [← e]; exact hy)); (have e2 := hh.out.2.1.size; rw [e.1] at hy; simp at hy; right; omega)))); clear o2 g2 at2 k2)
      clear ha bc hh
      go_roundw
      case rel => exact ⟨k + 1, by omega, by go_num, REL⟩
      case measure => simp [intOf]; omega
    · obtain rfl : k = 80 := by omega
      have FIN := hh
      clear hh
      go_wp2
      go_ret
      exact ⟨_, rfl, FIN.out⟩
end Go.Proofs.Ytebcmcmboomgfaa

/-
  OWN WORK (by mklw5.py). The law: stays.
-/
namespace Go.Proofs.Ytebcmcmboomgfaa
open Go.RowKit
set_option linter.unusedVariables false
set_option linter.unusedSimpArgs false

set_option maxRecDepth 40000 in
set_option maxHeartbeats 12800000 in
theorem stays_any (Va : RV) (xa : Rcd) (pB : Option Addr) (cB : Nat) (pA : Option Addr) (cA : Nat) (pR : Option Addr) (cR : Nat) (pD : Option Addr) (cD : Nat) (w : World) (sa : SeeR w Va xa) (hd : DeskR w xa pB cB pA cA pR cR pD cD) (hcap : DeskCap xa) : Calls Try.prog 20 #[deskV xa pB cB pA cA pR cR pD cD, xa.agg Va] w fun e w' => e = .returned (.bool true) ∧ Kept [] w w' := by
  haveI HNE : ∀ w2, Nonempty (Calm w2) := calmNe
  have hDk := fun wz (kz : Kept [] w wz) => desked_any _ xa wz (sa.kept kz) hcap
  have hSm := fun wz (kz : Kept [] w wz) => rSame _ _ xa xa wz (hd.kept kz).see (sa.kept kz)
  simp only [bl_t] at hSm
  have hWb := fun wz (kz : Kept [] w wz) => whole_any _ _ (xa.before ++ lent9) xa.before wz (hd.kept kz).fb (sa.before.kept kz) hcap.1
  have hWa := fun wz (kz : Kept [] w wz) => whole_any _ _ (xa.after ++ lent9) xa.after wz (hd.kept kz).fa (sa.after.kept kz) hcap.2.1
  simp only [bl_t] at hWb hWa
  obtain ⟨pba, cba, paa, caa, pra, cra, pda, cda, hVa⟩ := sa.shapes
  subst hVa
  obtain ⟨NR, hNR⟩ : ∃ NR, NR = xa.rows.length + 40 := ⟨_, rfl⟩
  obtain ⟨ND, hND⟩ : ∃ ND, ND = xa.dirty.length + 40 := ⟨_, rfl⟩
  obtain ⟨lR, hlR⟩ : ∃ lR, lR = xa.rows ++ marksR 40 := ⟨_, rfl⟩
  obtain ⟨lD, hlD⟩ : ∃ lD, lD = xa.dirty ++ marksD 40 := ⟨_, rfl⟩
  have eR : NR = lR.length := by rw [hNR, hlR, List.length_append, marksR_length]
  have eD : ND = lD.length := by rw [hND, hlD, List.length_append, marksD_length]
  have HLIM := @hideH _ (show NR ≤ 9223372036854775 ∧ ND ≤ 9223372036854775 by have e1 := hcap.2.2.1; have e2 := hcap.2.2.2; omega)
  have FR := @hideH _ (show Cs w 5 (.slice pR NR cR) lR.length (rcells lR) by have q := hd.fr; rw [← hNR, eR, ← hlR] at q; rw [eR]; exact q)
  have FD := @hideH _ (show Cs w 2 (.slice pD ND cD) lD.length (dcells lD) by have q := hd.fd; rw [← hND, eD, ← hlD] at q; rw [eD]; exact q)
  have HN := @hideH _ (And.intro hNR (And.intro hND (And.intro hlR (And.intro hlD (And.intro eR eD)))))
  unfold deskV Rcd.agg at *
  dsimp only at hDk hSm hWb hWa ⊢
  rw [← hNR, ← hND]
  clear hNR hND hlR hlD eR eD sa hd hcap
  obtain ⟨w1, hw1⟩ : ∃ wx, wx = (w.alloc (.cells #[.int .i64 xa.kind, .int .i64 xa.birth, .int .i64 xa.prev, .int .i64 xa.id, .int .i64 xa.page, .int .i64 xa.frm, .slice pB xa.before.length cB, .slice pA xa.after.length cA, .int .i64 xa.next, .slice pR xa.rows.length cR, .slice pD xa.dirty.length cD, .slice pB (xa.before.length + 120) cB, .slice pA (xa.after.length + 120) cA, .slice pR NR cR, .slice pD ND cD] 42)).alloc (.cells #[.int .i64 xa.kind, .int .i64 xa.birth, .int .i64 xa.prev, .int .i64 xa.id, .int .i64 xa.page, .int .i64 xa.frm, .slice pba xa.before.length cba, .slice paa xa.after.length caa, .int .i64 xa.next, .slice pra xa.rows.length cra, .slice pda xa.dirty.length cda] 26) := ⟨_, rfl⟩
  have k1 : Kept [] w w1 := by rw [hw1]; exact ((Kept.refl [] w).alloc _).alloc _
  have BD : Blk w1 w.heap.size 42 [.int .i64 xa.kind, .int .i64 xa.birth, .int .i64 xa.prev, .int .i64 xa.id, .int .i64 xa.page, .int .i64 xa.frm, .slice pB xa.before.length cB, .slice pA xa.after.length cA, .int .i64 xa.next, .slice pR xa.rows.length cR, .slice pD xa.dirty.length cD, .slice pB (xa.before.length + 120) cB, .slice pA (xa.after.length + 120) cA, .slice pR NR cR, .slice pD ND cD] := by rw [hw1]; exact (Blk.new w _ _).kept ((Kept.refl [] _).alloc _) (by simp)
  have BR : Blk w1 (w.heap.size + 1) 26 [.int .i64 xa.kind, .int .i64 xa.birth, .int .i64 xa.prev, .int .i64 xa.id, .int .i64 xa.page, .int .i64 xa.frm, .slice pba xa.before.length cba, .slice paa xa.after.length caa, .int .i64 xa.next, .slice pra xa.rows.length cra, .slice pda xa.dirty.length cda] := by rw [hw1]; have q := Blk.new (w.alloc (.cells #[.int .i64 xa.kind, .int .i64 xa.birth, .int .i64 xa.prev, .int .i64 xa.id, .int .i64 xa.page, .int .i64 xa.frm, .slice pB xa.before.length cB, .slice pA xa.after.length cA, .int .i64 xa.next, .slice pR xa.rows.length cR, .slice pD xa.dirty.length cD, .slice pB (xa.before.length + 120) cB, .slice pA (xa.after.length + 120) cA, .slice pR NR cR, .slice pD ND cD] 42)) 26 [.int .i64 xa.kind, .int .i64 xa.birth, .int .i64 xa.prev, .int .i64 xa.id, .int .i64 xa.page, .int .i64 xa.frm, .slice pba xa.before.length cba, .slice paa xa.after.length caa, .int .i64 xa.next, .slice pra xa.rows.length cra, .slice pda xa.dirty.length cda]; rw [World.size_alloc] at q; exact q
  go_enter Try.func20, Try.ntmps20
  go_upto_region 1 with fail
  rw [← hw1]
  clear hw1
  have r0 := BR.cell (j := 0) rfl
  have r1 := BR.cell (j := 1) rfl
  have r2 := BR.cell (j := 2) rfl
  have r3 := BR.cell (j := 3) rfl
  have r4 := BR.cell (j := 4) rfl
  have r5 := BR.cell (j := 5) rfl
  have r6 := BR.cell (j := 6) rfl
  have r7 := BR.cell (j := 7) rfl
  have r8 := BR.cell (j := 8) rfl
  have r9 := BR.cell (j := 9) rfl
  have r10 := BR.cell (j := 10) rfl
  go_wp2_with fail
  refine (hDk _ k1).mono ?_
  clear hDk
  rintro e w2 ⟨pBe, cBe, pAe, cAe, pRe, cRe, pDe, cDe, rfl, hO, k2⟩
  rw [← HN.out.1, ← HN.out.2.1]
  obtain ⟨w3, hw3⟩ : ∃ wx, wx = w2.alloc (.cells #[.int .i64 xa.kind, .int .i64 xa.birth, .int .i64 xa.prev, .int .i64 xa.id, .int .i64 xa.page, .int .i64 xa.frm, .slice pBe xa.before.length cBe, .slice pAe xa.after.length cAe, .int .i64 xa.next, .slice pRe xa.rows.length cRe, .slice pDe xa.dirty.length cDe, .slice pBe (xa.before.length + 120) cBe, .slice pAe (xa.after.length + 120) cAe, .slice pRe NR cRe, .slice pDe ND cDe] 42) := ⟨_, rfl⟩
  have k3 : Kept [] w2 w3 := by rw [hw3]; exact (Kept.refl [] w2).alloc _
  have BE : Blk w3 w2.heap.size 42 [.int .i64 xa.kind, .int .i64 xa.birth, .int .i64 xa.prev, .int .i64 xa.id, .int .i64 xa.page, .int .i64 xa.frm, .slice pBe xa.before.length cBe, .slice pAe xa.after.length cAe, .int .i64 xa.next, .slice pRe xa.rows.length cRe, .slice pDe xa.dirty.length cDe, .slice pBe (xa.before.length + 120) cBe, .slice pAe (xa.after.length + 120) cAe, .slice pRe NR cRe, .slice pDe ND cDe] := by rw [hw3]; exact Blk.new w2 _ _
  have hE := hO.read.kept k3
  have GR := @hideH _ (show Cs w3 5 (.slice pRe NR cRe) lR.length (rcells lR) by have q := hE.fr; rw [← HN.out.1, HN.out.2.2.2.2.1, ← HN.out.2.2.1] at q; rw [HN.out.2.2.2.2.1]; exact q)
  have GD := @hideH _ (show Cs w3 2 (.slice pDe ND cDe) lD.length (dcells lD) by have q := hE.fd; rw [← HN.out.2.1, HN.out.2.2.2.2.2, ← HN.out.2.2.2.1] at q; rw [HN.out.2.2.2.2.2]; exact q)
  have K3 := k1.then (k2.then k3)
  have BD3 := BD.kept (k2.then k3) (by simp)
  have BR3 := BR.kept (k2.then k3) (by simp)
  clear hO hE k1 BD BR k2 k3 r0 r1 r2 r3 r4 r5 r6 r7 r8 r9 r10
  go_upto_region 2 with fail
  rw [← hw3]
  clear hw3
  have r0 := BR3.cell (j := 0) rfl
  have r1 := BR3.cell (j := 1) rfl
  have r2 := BR3.cell (j := 2) rfl
  have r3 := BR3.cell (j := 3) rfl
  have r4 := BR3.cell (j := 4) rfl
  have r5 := BR3.cell (j := 5) rfl
  have r6 := BR3.cell (j := 6) rfl
  have r7 := BR3.cell (j := 7) rfl
  have r8 := BR3.cell (j := 8) rfl
  have r9 := BR3.cell (j := 9) rfl
  have r10 := BR3.cell (j := 10) rfl
  have d0 := BD3.cell (j := 0) rfl
  have d1 := BD3.cell (j := 1) rfl
  have d2 := BD3.cell (j := 2) rfl
  have d3 := BD3.cell (j := 3) rfl
  have d4 := BD3.cell (j := 4) rfl
  have d5 := BD3.cell (j := 5) rfl
  have d6 := BD3.cell (j := 6) rfl
  have d7 := BD3.cell (j := 7) rfl
  have d8 := BD3.cell (j := 8) rfl
  have d9 := BD3.cell (j := 9) rfl
  have d10 := BD3.cell (j := 10) rfl
  have d11 := BD3.cell (j := 11) rfl
  have d12 := BD3.cell (j := 12) rfl
  have d13 := BD3.cell (j := 13) rfl
  have d14 := BD3.cell (j := 14) rfl
  have e0 := BE.cell (j := 0) rfl
  have e1 := BE.cell (j := 1) rfl
  have e2 := BE.cell (j := 2) rfl
  have e3 := BE.cell (j := 3) rfl
  have e4 := BE.cell (j := 4) rfl
  have e5 := BE.cell (j := 5) rfl
  have e6 := BE.cell (j := 6) rfl
  have e7 := BE.cell (j := 7) rfl
  have e8 := BE.cell (j := 8) rfl
  have e9 := BE.cell (j := 9) rfl
  have e10 := BE.cell (j := 10) rfl
  have e11 := BE.cell (j := 11) rfl
  have e12 := BE.cell (j := 12) rfl
  have e13 := BE.cell (j := 13) rfl
  have e14 := BE.cell (j := 14) rfl
  go_wp2_with fail
  refine (hSm _ K3).mono ?_
  clear hSm
  rintro e w4 ⟨rfl, k4⟩
  have K4 := K3.then k4
  replace r0 := k4.cell r0 (by simp)
  replace r1 := k4.cell r1 (by simp)
  replace r2 := k4.cell r2 (by simp)
  replace r3 := k4.cell r3 (by simp)
  replace r4 := k4.cell r4 (by simp)
  replace r5 := k4.cell r5 (by simp)
  replace r6 := k4.cell r6 (by simp)
  replace r7 := k4.cell r7 (by simp)
  replace r8 := k4.cell r8 (by simp)
  replace r9 := k4.cell r9 (by simp)
  replace r10 := k4.cell r10 (by simp)
  replace d0 := k4.cell d0 (by simp)
  replace d1 := k4.cell d1 (by simp)
  replace d2 := k4.cell d2 (by simp)
  replace d3 := k4.cell d3 (by simp)
  replace d4 := k4.cell d4 (by simp)
  replace d5 := k4.cell d5 (by simp)
  replace d6 := k4.cell d6 (by simp)
  replace d7 := k4.cell d7 (by simp)
  replace d8 := k4.cell d8 (by simp)
  replace d9 := k4.cell d9 (by simp)
  replace d10 := k4.cell d10 (by simp)
  replace d11 := k4.cell d11 (by simp)
  replace d12 := k4.cell d12 (by simp)
  replace d13 := k4.cell d13 (by simp)
  replace d14 := k4.cell d14 (by simp)
  replace e0 := k4.cell e0 (by simp)
  replace e1 := k4.cell e1 (by simp)
  replace e2 := k4.cell e2 (by simp)
  replace e3 := k4.cell e3 (by simp)
  replace e4 := k4.cell e4 (by simp)
  replace e5 := k4.cell e5 (by simp)
  replace e6 := k4.cell e6 (by simp)
  replace e7 := k4.cell e7 (by simp)
  replace e8 := k4.cell e8 (by simp)
  replace e9 := k4.cell e9 (by simp)
  replace e10 := k4.cell e10 (by simp)
  replace e11 := k4.cell e11 (by simp)
  replace e12 := k4.cell e12 (by simp)
  replace e13 := k4.cell e13 (by simp)
  replace e14 := k4.cell e14 (by simp)
  go_wp2_with fail
  refine (hWb _ K4).mono ?_
  clear hWb
  rintro e w5 ⟨rfl, k5⟩
  have K5 := K4.then k5
  replace r0 := k5.cell r0 (by simp)
  replace r1 := k5.cell r1 (by simp)
  replace r2 := k5.cell r2 (by simp)
  replace r3 := k5.cell r3 (by simp)
  replace r4 := k5.cell r4 (by simp)
  replace r5 := k5.cell r5 (by simp)
  replace r6 := k5.cell r6 (by simp)
  replace r7 := k5.cell r7 (by simp)
  replace r8 := k5.cell r8 (by simp)
  replace r9 := k5.cell r9 (by simp)
  replace r10 := k5.cell r10 (by simp)
  replace d0 := k5.cell d0 (by simp)
  replace d1 := k5.cell d1 (by simp)
  replace d2 := k5.cell d2 (by simp)
  replace d3 := k5.cell d3 (by simp)
  replace d4 := k5.cell d4 (by simp)
  replace d5 := k5.cell d5 (by simp)
  replace d6 := k5.cell d6 (by simp)
  replace d7 := k5.cell d7 (by simp)
  replace d8 := k5.cell d8 (by simp)
  replace d9 := k5.cell d9 (by simp)
  replace d10 := k5.cell d10 (by simp)
  replace d11 := k5.cell d11 (by simp)
  replace d12 := k5.cell d12 (by simp)
  replace d13 := k5.cell d13 (by simp)
  replace d14 := k5.cell d14 (by simp)
  replace e0 := k5.cell e0 (by simp)
  replace e1 := k5.cell e1 (by simp)
  replace e2 := k5.cell e2 (by simp)
  replace e3 := k5.cell e3 (by simp)
  replace e4 := k5.cell e4 (by simp)
  replace e5 := k5.cell e5 (by simp)
  replace e6 := k5.cell e6 (by simp)
  replace e7 := k5.cell e7 (by simp)
  replace e8 := k5.cell e8 (by simp)
  replace e9 := k5.cell e9 (by simp)
  replace e10 := k5.cell e10 (by simp)
  replace e11 := k5.cell e11 (by simp)
  replace e12 := k5.cell e12 (by simp)
  replace e13 := k5.cell e13 (by simp)
  replace e14 := k5.cell e14 (by simp)
  go_wp2_with fail
  refine (hWa _ K5).mono ?_
  clear hWa
  rintro e w6 ⟨rfl, k6⟩
  have K6 := @hideH _ (K5.then k6)
  replace r0 := k6.cell r0 (by simp)
  replace r1 := k6.cell r1 (by simp)
  replace r2 := k6.cell r2 (by simp)
  replace r3 := k6.cell r3 (by simp)
  replace r4 := k6.cell r4 (by simp)
  replace r5 := k6.cell r5 (by simp)
  replace r6 := k6.cell r6 (by simp)
  replace r7 := k6.cell r7 (by simp)
  replace r8 := k6.cell r8 (by simp)
  replace r9 := k6.cell r9 (by simp)
  replace r10 := k6.cell r10 (by simp)
  replace d0 := k6.cell d0 (by simp)
  replace d1 := k6.cell d1 (by simp)
  replace d2 := k6.cell d2 (by simp)
  replace d3 := k6.cell d3 (by simp)
  replace d4 := k6.cell d4 (by simp)
  replace d5 := k6.cell d5 (by simp)
  replace d6 := k6.cell d6 (by simp)
  replace d7 := k6.cell d7 (by simp)
  replace d8 := k6.cell d8 (by simp)
  replace d9 := k6.cell d9 (by simp)
  replace d10 := k6.cell d10 (by simp)
  replace d11 := k6.cell d11 (by simp)
  replace d12 := k6.cell d12 (by simp)
  replace d13 := k6.cell d13 (by simp)
  replace d14 := k6.cell d14 (by simp)
  replace e0 := k6.cell e0 (by simp)
  replace e1 := k6.cell e1 (by simp)
  replace e2 := k6.cell e2 (by simp)
  replace e3 := k6.cell e3 (by simp)
  replace e4 := k6.cell e4 (by simp)
  replace e5 := k6.cell e5 (by simp)
  replace e6 := k6.cell e6 (by simp)
  replace e7 := k6.cell e7 (by simp)
  replace e8 := k6.cell e8 (by simp)
  replace e9 := k6.cell e9 (by simp)
  replace e10 := k6.cell e10 (by simp)
  replace e11 := k6.cell e11 (by simp)
  replace e12 := k6.cell e12 (by simp)
  replace e13 := k6.cell e13 (by simp)
  replace e14 := k6.cell e14 (by simp)
  have K36 := @hideH _ ((k4.then k5).then k6)
  have HD6 := @hideH _ (((BD3.kept k4 (by simp)).kept k5 (by simp)).kept k6 (by simp))
  have HE6 := @hideH _ (((BE.kept k4 (by simp)).kept k5 (by simp)).kept k6 (by simp))
  clear K3 K4 K5 k4 k5 k6 BD3 BR3 BE
  go_upto_region 4 with fail
  clear r0 r1 r2 r3 r4 r5 r6 r7 r8 r9 r10 d0 e0 d1 e1 d2 e2 d3 e3 d4 e4 d5 e5 d6 e6 d7 e7 d8 e8 d9 e9 d10 e10 d11 e11 d12 e12 d13 e13 d14 e14
  go_wp2
  go_loopw [6] (fun vi wr => ∃ k : Nat, k ≤ NR ∧ vi = .int .i64 k ∧ Hid (Kept [] w6 wr)) (fun vi _ => NR - (intOf vi).toNat)
  case atStart => exact ⟨0, Nat.zero_le _, rfl, Kept.refl [] _⟩
  case round =>
    obtain ⟨k, hk, rfl, hh⟩ := hrel
    have dd : wr.cell? ⟨w.heap.size, 13, none⟩ = some (.slice pR NR cR) := hh.out.cell (HD6.out.cell (j := 13) rfl) (by simp)
    have ee : wr.cell? ⟨w2.heap.size, 13, none⟩ = some (.slice pRe NR cRe) := hh.out.cell (HE6.out.cell (j := 13) rfl) (by simp)
    by_cases hkl : k < NR
    · have hkl' : (k : Int) < (NR : Int) := by omega
      have hk0 : (0 : Int) ≤ (k : Int) := by omega
      have wk : IntKind.i64.wrap ((k : Int) + 1) = (k : Int) + 1 := wrap_i64_of (by omega) (by have := HLIM.out; omega)
      obtain ⟨x, hx⟩ : ∃ x, lR[k]? = some x := ⟨_, List.getElem?_eq_getElem (by have e1 := HN.out.2.2.2.2; omega)⟩
      obtain ⟨b1, o1, c1, ev1, hc1⟩ := (FR.out.kept (K6.out.then hh.out)).rowAt (by have e1 := HN.out.2.2.2.2; omega)
      simp only [Value.slice.injEq] at ev1
      obtain ⟨rfl, -, rfl⟩ := ev1
      obtain ⟨b2, o2, c2, ev2, hc2⟩ := (GR.out.kept (K36.out.then hh.out)).rowAt (by have e1 := HN.out.2.2.2.2; omega)
      simp only [Value.slice.injEq] at ev2
      obtain ⟨rfl, -, rfl⟩ := ev2
      obtain ⟨x0, x1, x2, x3, x4⟩ := hc1 k x hx
      obtain ⟨y0, y1, y2, y3, y4⟩ := hc2 k x hx
      have HK := @hideH _ hh.out
      clear hx hc1 hc2 hh
      go_upto_region 7 with fail
      have s_dd := fun (s : Calm wr) => s.kept.cell dd (by simp)
      have s_ee := fun (s : Calm wr) => s.kept.cell ee (by simp)
      have s_x0 := fun (s : Calm wr) => s.kept.cell x0 (by simp)
      have s_x1 := fun (s : Calm wr) => s.kept.cell x1 (by simp)
      have s_x2 := fun (s : Calm wr) => s.kept.cell x2 (by simp)
      have s_x3 := fun (s : Calm wr) => s.kept.cell x3 (by simp)
      have s_x4 := fun (s : Calm wr) => s.kept.cell x4 (by simp)
      have s_y0 := fun (s : Calm wr) => s.kept.cell y0 (by simp)
      have s_y1 := fun (s : Calm wr) => s.kept.cell y1 (by simp)
      have s_y2 := fun (s : Calm wr) => s.kept.cell y2 (by simp)
      have s_y3 := fun (s : Calm wr) => s.kept.cell y3 (by simp)
      have s_y4 := fun (s : Calm wr) => s.kept.cell y4 (by simp)
      clear dd ee x0 x1 x2 x3 x4 y0 y1 y2 y3 y4
      have KR := @hideH _ (Kept.refl [] wr)
      refine wp_region_calm KR.out (by kernel_rfl) (by kernel_rfl) ?_
      repeat (go_big_quiet_step (fail))
      refine wpQuiet_nil ?_
      intro _ hw'
      obtain ⟨sq, hw''⟩ := hw'
      subst hw''
      have ks := sq.kept
      generalize sq.at = wx at ks ⊢
      clear sq
      have KX := @hideH _ (HK.out.then ks)
      clear KR ks HK s_dd s_ee s_x0 s_x1 s_x2 s_x3 s_x4 s_y0 s_y1 s_y2 s_y3 s_y4
      go_wp2
      go_roundw
      case rel => exact ⟨k + 1, by omega, by go_num, KX.out⟩
      case measure => simp [intOf]; omega
    · have hkl' : ¬ (k : Int) < (NR : Int) := by omega
      obtain rfl : k = NR := by omega
      have KQ := hh
      go_wp2
      go_loopw [7] (fun vi wr => ∃ k : Nat, k ≤ ND ∧ vi = .int .i64 k ∧ Hid (Kept [] w6 wr)) (fun vi _ => ND - (intOf vi).toNat)
      case atStart => exact ⟨0, Nat.zero_le _, rfl, KQ.out⟩
      case round =>
        obtain ⟨k, hk, rfl, hh⟩ := hrel
        have dd : wr.cell? ⟨w.heap.size, 14, none⟩ = some (.slice pD ND cD) := hh.out.cell (HD6.out.cell (j := 14) rfl) (by simp)
        have ee : wr.cell? ⟨w2.heap.size, 14, none⟩ = some (.slice pDe ND cDe) := hh.out.cell (HE6.out.cell (j := 14) rfl) (by simp)
        by_cases hkl : k < ND
        · have hkl' : (k : Int) < (ND : Int) := by omega
          have hk0 : (0 : Int) ≤ (k : Int) := by omega
          have wk : IntKind.i64.wrap ((k : Int) + 1) = (k : Int) + 1 := wrap_i64_of (by omega) (by have := HLIM.out; omega)
          obtain ⟨x, hx⟩ : ∃ x, lD[k]? = some x := ⟨_, List.getElem?_eq_getElem (by have e1 := HN.out.2.2.2.2; omega)⟩
          obtain ⟨b1, o1, c1, ev1, hc1⟩ := (FD.out.kept (K6.out.then hh.out)).recAt (by have e1 := HN.out.2.2.2.2; omega)
          simp only [Value.slice.injEq] at ev1
          obtain ⟨rfl, -, rfl⟩ := ev1
          obtain ⟨b2, o2, c2, ev2, hc2⟩ := (GD.out.kept (K36.out.then hh.out)).recAt (by have e1 := HN.out.2.2.2.2; omega)
          simp only [Value.slice.injEq] at ev2
          obtain ⟨rfl, -, rfl⟩ := ev2
          obtain ⟨x0, x1⟩ := hc1 k x hx
          obtain ⟨y0, y1⟩ := hc2 k x hx
          have HK := @hideH _ hh.out
          clear hx hc1 hc2 hh
          go_upto_region 12 with fail
          have s_dd := fun (s : Calm wr) => s.kept.cell dd (by simp)
          have s_ee := fun (s : Calm wr) => s.kept.cell ee (by simp)
          have s_x0 := fun (s : Calm wr) => s.kept.cell x0 (by simp)
          have s_x1 := fun (s : Calm wr) => s.kept.cell x1 (by simp)
          have s_y0 := fun (s : Calm wr) => s.kept.cell y0 (by simp)
          have s_y1 := fun (s : Calm wr) => s.kept.cell y1 (by simp)
          clear dd ee x0 x1 y0 y1
          have KR := @hideH _ (Kept.refl [] wr)
          refine wp_region_calm KR.out (by kernel_rfl) (by kernel_rfl) ?_
          repeat (go_big_quiet_step (fail))
          refine wpQuiet_nil ?_
          intro _ hw'
          obtain ⟨sq, hw''⟩ := hw'
          subst hw''
          have ks := sq.kept
          generalize sq.at = wx at ks ⊢
          clear sq
          have KX := @hideH _ (HK.out.then ks)
          clear KR ks HK s_dd s_ee s_x0 s_x1 s_y0 s_y1
          go_wp2
          go_roundw
          case rel => exact ⟨k + 1, by omega, by go_num, KX.out⟩
          case measure => simp [intOf]; omega
        · have hkl' : ¬ (k : Int) < (ND : Int) := by omega
          obtain rfl : k = ND := by omega
          have KE := @hideH _ (K6.out.then hh.out)
          clear hh
          go_wp2
          go_ret
          exact ⟨rfl, KE.out⟩
end Go.Proofs.Ytebcmcmboomgfaa

/-
  OWN WORK. '[]byte("..")' of a constant text.
-/
namespace Go.Proofs.Ytebcmcmboomgfaa
open Go.RowKit
set_option linter.unusedVariables false

theorem run_lit {P : Program} (w : World) (t e : TypeId) (C : Array Value) (n c g : Nat) (hg : g = w.heap.size) (ht : P.underlying t = some (.slice e)) (he : P.underlying e = some (.int .u8)) :
    (convert t t (.slice (some ⟨g, 0, none⟩) n c)).run P (w.alloc (.cells C e)) = .ok (.slice (some ⟨g, 0, none⟩) n c) (w.alloc (.cells C e (C.size, C.size + 1))) := by
  subst hg; exact Lib.run_convert_bytes_const w t e C n c ht he
theorem Bs.litF (w : World) (e : TypeId) (l : List UInt8) (cs : Array Value) (fr : Nat × Nat) (hcs : cs = (u8s l).toArray) (hl : l.length ≤ maxLen) (H : Nat) (hH : w.heap.size = H) : Bs (w.alloc (.cells cs e fr)) (.slice (some ⟨H, 0, none⟩) l.length l.length) l := by
  subst hcs
  subst hH
  exact Bs.mk (Nat.le_refl _) hl fun i x hx => by
    have := World.news_of_block (heap_alloc_new w (.cells (u8s l).toArray e fr)) i (.int .u8 (x.toNat : Int)) (by simp [u8s, hx])
    rwa [add_none rfl] at this
end Go.Proofs.Ytebcmcmboomgfaa

/-
  OWN WORK. octet.Put at its four widths.
-/
namespace Go.Proofs.Ytebcmcmboomgfaa
open Go.RowKit
set_option linter.unusedVariables false

set_option maxHeartbeats 800000 in
theorem put8_any (v : Value) (l : List UInt8) (x : Nat) (w : World) (hv : Bs w v l) (hl : l.length ≤ 140737488355000) (hx : (x : Int) < 256) :
    Calls Try.prog 49 #[v, .int .u8 (x : Int)] w fun e w' => ∃ v', e = .returned v' ∧ w'.ownsRow w.heap.size 5 1 v' (l.length + 1) (u8s (l ++ lay 1 x)) ∧ Kept [] w w' := by
  have hmk := fun u => run_make_bs (P := Try.prog) u 22 5 Try.underlying22 (by kernel_rfl) l.length (l.length + 1) (by omega) (by omega)
  have ec : ((l.length + 1 : Nat) : Int) = (l.length : Int) + 1 := by omega
  rw [ec] at hmk
  have hown0 := own_made w 5 w.heap.size l.length (l.length + 1) (Nat.le_refl _) (by omega) (by unfold maxLen; omega)
  have hB : Bs (w.alloc (.cells (madeCells #[.int .u8 0] (l.length + 1)) 5)) v l := hv.kept ((Kept.refl [] w).alloc _)
  have hwr : IntKind.u64.wrap (x : Int) = (x : Int) := by rw [IntKind.wrap_u64]; omega
  clear hx
  obtain ⟨p, c, rfl, h1, h2, h3, h4⟩ := hv
  go_enter Try.func49, Try.ntmps49
  go_wp2_with (first | (go_at_call 68; refine (width8_any _).mono ?_; rintro e w' ⟨rfl, rfl⟩) | (refine wpList_copy_bs rfl (.tmp 16) (.tmp 17) 22 rfl _ 5 Try.underlying22 (by kernel_rfl) _ _ _ (by rfl) hown0 _ l (by rfl) hB rfl ?_; intro w1 hown1 hg1))
  have hk1 : Kept [] w' w1 := ((Kept.refl [] w').alloc _).grown hg1 fun k hk => .inr (own_ge hown0 k hk)
  clear hmk hown0 hB hg1 h3 h4
  go_loopw [6, 20] (fun s i wr => ∃ k : Nat, k ≤ 1 ∧ i = .int .i64 k ∧ wr.ownsRow w'.heap.size 5 1 s (l.length + k) (u8s (l ++ lay k x)) ∧ Kept [] w' wr) (fun _ i _ => 1 - (intOf i).toNat)
  case atStart => exact ⟨0, Nat.zero_le _, rfl, by simpa [lay] using hown1, hk1⟩
  case round =>
    obtain ⟨k, hk, rfl, hown, hkept⟩ := hrel
    have hsz := hkept.size
    clear hown1 hk1 ec
    by_cases hlt : k < 1
    · go_wp2_with (at_builtin; refine wpList_append_bs rfl (.tmp 23) (.tmp 30) 22 rfl w'.heap.size 5 Try.underlying22 (by kernel_rfl) _ _ _ (by rfl) (hown.alloc _) _ [UInt8.ofNat (x / 256 ^ k)] (by rfl) (Bs.one wr 5 _ _ (byte_of x k)) (by simp; omega) (by simp; omega) ?_; intro v2 w2 hown2 hg2 hat2)
      have hk2 : Kept [] w' w2 := (hkept.alloc _).grown hg2 fun j hj => .inr (own_ge hown j hj)
      go_roundw
      case rel => exact ⟨k + 1, by omega, by go_num, by rw [lay_succ, ← List.append_assoc, u8s_append]; exact hown2, hk2⟩
      case measure => simp [intOf]; omega
    · go_wp2
      go_ret
      obtain rfl : k = 1 := by omega
      exact ⟨_, rfl, hown, hkept⟩

set_option maxHeartbeats 800000 in
theorem put16_any (v : Value) (l : List UInt8) (x : Nat) (w : World) (hv : Bs w v l) (hl : l.length ≤ 140737488355000) (hx : (x : Int) < 65536) :
    Calls Try.prog 80 #[v, .int .u16 (x : Int)] w fun e w' => ∃ v', e = .returned v' ∧ w'.ownsRow w.heap.size 5 1 v' (l.length + 2) (u8s (l ++ lay 2 x)) ∧ Kept [] w w' := by
  have hmk := fun u => run_make_bs (P := Try.prog) u 22 5 Try.underlying22 (by kernel_rfl) l.length (l.length + 2) (by omega) (by omega)
  have ec : ((l.length + 2 : Nat) : Int) = (l.length : Int) + 2 := by omega
  rw [ec] at hmk
  have hown0 := own_made w 5 w.heap.size l.length (l.length + 2) (Nat.le_refl _) (by omega) (by unfold maxLen; omega)
  have hB : Bs (w.alloc (.cells (madeCells #[.int .u8 0] (l.length + 2)) 5)) v l := hv.kept ((Kept.refl [] w).alloc _)
  have hwr : IntKind.u64.wrap (x : Int) = (x : Int) := by rw [IntKind.wrap_u64]; omega
  clear hx
  obtain ⟨p, c, rfl, h1, h2, h3, h4⟩ := hv
  go_enter Try.func80, Try.ntmps80
  go_wp2_with (first | (go_at_call 86; refine (width16_any _).mono ?_; rintro e w' ⟨rfl, rfl⟩) | (refine wpList_copy_bs rfl (.tmp 16) (.tmp 17) 22 rfl _ 5 Try.underlying22 (by kernel_rfl) _ _ _ (by rfl) hown0 _ l (by rfl) hB rfl ?_; intro w1 hown1 hg1))
  have hk1 : Kept [] w' w1 := ((Kept.refl [] w').alloc _).grown hg1 fun k hk => .inr (own_ge hown0 k hk)
  clear hmk hown0 hB hg1 h3 h4
  go_loopw [6, 20] (fun s i wr => ∃ k : Nat, k ≤ 2 ∧ i = .int .i64 k ∧ wr.ownsRow w'.heap.size 5 1 s (l.length + k) (u8s (l ++ lay k x)) ∧ Kept [] w' wr) (fun _ i _ => 2 - (intOf i).toNat)
  case atStart => exact ⟨0, Nat.zero_le _, rfl, by simpa [lay] using hown1, hk1⟩
  case round =>
    obtain ⟨k, hk, rfl, hown, hkept⟩ := hrel
    have hsz := hkept.size
    clear hown1 hk1 ec
    by_cases hlt : k < 2
    · go_wp2_with (at_builtin; refine wpList_append_bs rfl (.tmp 23) (.tmp 30) 22 rfl w'.heap.size 5 Try.underlying22 (by kernel_rfl) _ _ _ (by rfl) (hown.alloc _) _ [UInt8.ofNat (x / 256 ^ k)] (by rfl) (Bs.one wr 5 _ _ (byte_of x k)) (by simp; omega) (by simp; omega) ?_; intro v2 w2 hown2 hg2 hat2)
      have hk2 : Kept [] w' w2 := (hkept.alloc _).grown hg2 fun j hj => .inr (own_ge hown j hj)
      go_roundw
      case rel => exact ⟨k + 1, by omega, by go_num, by rw [lay_succ, ← List.append_assoc, u8s_append]; exact hown2, hk2⟩
      case measure => simp [intOf]; omega
    · go_wp2
      go_ret
      obtain rfl : k = 2 := by omega
      exact ⟨_, rfl, hown, hkept⟩

set_option maxHeartbeats 800000 in
theorem put64_any (v : Value) (l : List UInt8) (x : Nat) (w : World) (hv : Bs w v l) (hl : l.length ≤ 140737488355000) (hx : (x : Int) < 18446744073709551616) :
    Calls Try.prog 50 #[v, .int .u64 (x : Int)] w fun e w' => ∃ v', e = .returned v' ∧ w'.ownsRow w.heap.size 5 1 v' (l.length + 8) (u8s (l ++ lay 8 x)) ∧ Kept [] w w' := by
  have hmk := fun u => run_make_bs (P := Try.prog) u 22 5 Try.underlying22 (by kernel_rfl) l.length (l.length + 8) (by omega) (by omega)
  have ec : ((l.length + 8 : Nat) : Int) = (l.length : Int) + 8 := by omega
  rw [ec] at hmk
  have hown0 := own_made w 5 w.heap.size l.length (l.length + 8) (Nat.le_refl _) (by omega) (by unfold maxLen; omega)
  have hB : Bs (w.alloc (.cells (madeCells #[.int .u8 0] (l.length + 8)) 5)) v l := hv.kept ((Kept.refl [] w).alloc _)
  have hwr : IntKind.u64.wrap (x : Int) = (x : Int) := by rw [IntKind.wrap_u64]; omega
  clear hx
  obtain ⟨p, c, rfl, h1, h2, h3, h4⟩ := hv
  go_enter Try.func50, Try.ntmps50
  go_wp2_with (first | (go_at_call 69; refine (width64_any _).mono ?_; rintro e w' ⟨rfl, rfl⟩) | (refine wpList_copy_bs rfl (.tmp 16) (.tmp 17) 22 rfl _ 5 Try.underlying22 (by kernel_rfl) _ _ _ (by rfl) hown0 _ l (by rfl) hB rfl ?_; intro w1 hown1 hg1))
  have hk1 : Kept [] w' w1 := ((Kept.refl [] w').alloc _).grown hg1 fun k hk => .inr (own_ge hown0 k hk)
  clear hmk hown0 hB hg1 h3 h4
  go_loopw [6, 20] (fun s i wr => ∃ k : Nat, k ≤ 8 ∧ i = .int .i64 k ∧ wr.ownsRow w'.heap.size 5 1 s (l.length + k) (u8s (l ++ lay k x)) ∧ Kept [] w' wr) (fun _ i _ => 8 - (intOf i).toNat)
  case atStart => exact ⟨0, Nat.zero_le _, rfl, by simpa [lay] using hown1, hk1⟩
  case round =>
    obtain ⟨k, hk, rfl, hown, hkept⟩ := hrel
    have hsz := hkept.size
    clear hown1 hk1 ec
    by_cases hlt : k < 8
    · go_wp2_with (at_builtin; refine wpList_append_bs rfl (.tmp 23) (.tmp 29) 22 rfl w'.heap.size 5 Try.underlying22 (by kernel_rfl) _ _ _ (by rfl) (hown.alloc _) _ [UInt8.ofNat (x / 256 ^ k)] (by rfl) (Bs.one wr 5 _ _ (byte_of x k)) (by simp; omega) (by simp; omega) ?_; intro v2 w2 hown2 hg2 hat2)
      have hk2 : Kept [] w' w2 := (hkept.alloc _).grown hg2 fun j hj => .inr (own_ge hown j hj)
      go_roundw
      case rel => exact ⟨k + 1, by omega, by go_num, by rw [lay_succ, ← List.append_assoc, u8s_append]; exact hown2, hk2⟩
      case measure => simp [intOf]; omega
    · go_wp2
      go_ret
      obtain rfl : k = 8 := by omega
      exact ⟨_, rfl, hown, hkept⟩
end Go.Proofs.Ytebcmcmboomgfaa

/-
  OWN WORK. octet.Join and the document's Join.
-/
namespace Go.Proofs.Ytebcmcmboomgfaa
open Go.RowKit
set_option linter.unusedVariables false

set_option maxHeartbeats 800000 in
theorem join_any (v : Value) (ls : List (List UInt8)) (w : World) (hv : Bss w v ls) (ht : (flat ls).length ≤ 140737488355328) :
    Calls Try.prog 28 #[v] w fun e w' => ∃ v', e = .returned v' ∧ w'.ownsRow w.heap.size 5 1 v' (flat ls).length (u8s (flat ls)) ∧ Kept [] w w' := by
  have hmk := fun u => run_make_bs (P := Try.prog) u 22 5 Try.underlying22 (by kernel_rfl) 0 (flat ls).length (by omega) (by omega)
  have hown0 := own_made w 5 w.heap.size 0 (flat ls).length (Nat.le_refl _) (by omega) (by unfold maxLen; omega)
  rw [show ((0 : Nat) : Int) = 0 from rfl] at hmk
  by_cases h0 : ls.length = 0
  · obtain rfl : ls = [] := List.eq_nil_of_length_eq_zero h0
    obtain ⟨p, c, rfl, -⟩ := hv
    simp only [flat_nil, List.length_nil] at hmk hown0
    rw [show ((0 : Nat) : Int) = 0 from rfl] at hmk
    go_enter Try.func28, Try.ntmps28
    go_wp2
    refine wp_loop_rounds 1 ?_
    rw [rounds_succ]
    go_wp2
    refine wp_loop_rounds 1 ?_
    rw [rounds_succ]
    go_wp2
    go_ret
    exact ⟨_, rfl, by simpa [u8s, flat_nil] using hown0, (Kept.refl [] w).alloc _⟩
  · obtain ⟨b, o, c, rfl, h1, h2, hb, hcell⟩ := id (hv.pos (by omega))
    have hlen : ls.length ≤ 9223372036854775807 := by unfold maxLen at h2; omega
    go_enter Try.func28, Try.ntmps28
    go_wp2
    go_loop [3, 11] (fun s i => ∃ k : Nat, k ≤ ls.length ∧ i = .int .i64 k ∧ s = .int .i64 ((flat (ls.take k)).length : Int)) (fun _ i => ls.length - (intOf i).toNat)
    case atStart => exact ⟨0, Nat.zero_le _, rfl, rfl⟩
    case round =>
      obtain ⟨k, hk, rfl, rfl⟩ := hrel
      by_cases hlt : k < ls.length
      · obtain ⟨l, hl⟩ : ∃ l, ls[k]? = some l := ⟨_, List.getElem?_eq_getElem hlt⟩
        obtain ⟨q, d, hc, hB⟩ := hcell k l hl
        have hf1 := flat_le ls (k + 1)
        rw [flat_take ls k l hl, List.length_append] at hf1
        have HL : Hid (ls[k]? = some l) := hl
        clear hl
        go_wp2
        go_round
        case rel => exact ⟨k + 1, by omega, by go_num, by rw [flat_take ls k l HL.out, List.length_append]; go_num⟩
        case measure => simp [intOf]; omega
      · have e : ls.take k = ls := List.take_of_length_le (by omega)
        rw [e]
        clear e
        go_wp2
        go_loopw [6, 24] (fun s i wr => ∃ k : Nat, k ≤ ls.length ∧ i = .int .i64 k ∧ wr.ownsRow w.heap.size 5 1 s (flat (ls.take k)).length (u8s (flat (ls.take k))) ∧ Kept [] w wr) (fun _ i _ => ls.length - (intOf i).toNat)
        case atStart => exact ⟨0, Nat.zero_le _, rfl, by simpa [u8s, flat] using hown0, (Kept.refl [] w).alloc _⟩
        case round =>
          obtain ⟨j, hj, rfl, hown, hkept⟩ := hrel
          have hsz := hkept.size
          by_cases hjt : j < ls.length
          · obtain ⟨l, hl⟩ : ∃ l, ls[j]? = some l := ⟨_, List.getElem?_eq_getElem hjt⟩
            obtain ⟨q, d, hc, hB⟩ := hcell j l hl
            have hc' := hkept.cell hc (by simp)
            have hB' := hB.kept hkept
            have hf1 := flat_le ls (j + 1)
            have hf2 := flat_take ls j l hl
            rw [hf2, List.length_append] at hf1
            have HL : Hid (flat (ls.take (j + 1)) = flat (ls.take j) ++ l) := hf2
            clear hl hf2 hc hB hmk hown0
            go_wp2_with (at_builtin; refine wpList_append_bs rfl (.tmp 28) (.tmp 29) 22 rfl w.heap.size 5 Try.underlying22 (by kernel_rfl) _ _ _ (by rfl) hown _ l (by rfl) hB' (by omega) hsz ?_; intro v2 w2 hown2 hg2 hat2)
            have hk2 : Kept [] w w2 := hkept.grown hg2 fun m hm => .inr (own_ge hown m hm)
            go_roundw
            case rel => exact ⟨j + 1, by omega, by go_num, by rw [HL.out, List.length_append, u8s_append]; exact hown2, hk2⟩
            case measure => simp [intOf]; omega
          · have e : ls.take j = ls := List.take_of_length_le (by omega)
            rw [e] at hown
            clear e
            go_wp2
            go_ret
            exact ⟨_, rfl, hown, hkept⟩

end Go.Proofs.Ytebcmcmboomgfaa

/-
  OWN WORK. record: one, two, eight; Join, for rows that are made.
-/
namespace Go.Proofs.Ytebcmcmboomgfaa
open Go.RowKit
set_option linter.unusedVariables false
set_option linter.unusedSimpArgs false

theorem ofNat_mod8 (n : Nat) : UInt8.ofNat (n % 256) = UInt8.ofNat n := by
  apply UInt8.toNat_inj.1
  simp
theorem lay_putN : ∀ (n v : Nat), lay n v = putN n v
  | 0, v => rfl
  | n + 1, v => by
    rw [putN_next, ← lay_putN n v, ofNat_mod8]
    simp [lay, List.range_succ]
theorem qOne (z : Int) (w : World) (h0 : 0 ≤ z) (h1 : z < 256) : Calls Try.prog 29 #[.int .i64 z] w fun e w' => ∃ u, e = .returned u ∧ Acc w w' u (putN 1 z.toNat) := by
  obtain ⟨n, rfl⟩ : ∃ n : Nat, z = n := ⟨z.toNat, by omega⟩
  have hw : IntKind.u8.wrap (n : Int) = (n : Int) := by simp only [IntKind.wrap, IntKind.signed, IntKind.bits]; simp; omega
  have hp := fun w => put8_any (.slice none 0 0) [] n w (Bs.nil w) (by simp) h1
  go_enter Try.func29, Try.ntmps29
  go_wp2_with fail
  refine (hp _).mono ?_
  rintro e w1 ⟨u, rfl, ho, hk⟩
  go_wp2
  go_ret
  refine ⟨u, rfl, ?_, hk⟩
  rw [putN_length, Int.toNat_natCast, ← lay_putN]
  exact ho
theorem qTwo (z : Int) (w : World) (h0 : 0 ≤ z) (h1 : z < 65536) : Calls Try.prog 70 #[.int .i64 z] w fun e w' => ∃ u, e = .returned u ∧ Acc w w' u (putN 2 z.toNat) := by
  obtain ⟨n, rfl⟩ : ∃ n : Nat, z = n := ⟨z.toNat, by omega⟩
  have hw : IntKind.u16.wrap (n : Int) = (n : Int) := by simp only [IntKind.wrap, IntKind.signed, IntKind.bits]; simp; omega
  have hp := fun w => put16_any (.slice none 0 0) [] n w (Bs.nil w) (by simp) h1
  have H := @hideH _ h1
  clear h1
  go_enter Try.func70, Try.ntmps70
  go_wp2_with fail
  refine (hp _).mono ?_
  rintro e w1 ⟨u, rfl, ho, hk⟩
  go_wp2
  go_ret
  refine ⟨u, rfl, ?_, hk⟩
  rw [putN_length, Int.toNat_natCast, ← lay_putN]
  exact ho
theorem qEight (z : Int) (w : World) (h0 : 0 ≤ z) (h1 : z ≤ 1152921504606846976) : Calls Try.prog 30 #[.int .i64 z] w fun e w' => ∃ u, e = .returned u ∧ Acc w w' u (putN 8 z.toNat) := by
  obtain ⟨n, rfl⟩ : ∃ n : Nat, z = n := ⟨z.toNat, by omega⟩
  have hw : IntKind.u64.wrap (n : Int) = (n : Int) := by simp only [IntKind.wrap, IntKind.signed, IntKind.bits]; simp; omega
  have hp := fun w => put64_any (.slice none 0 0) [] n w (Bs.nil w) (by simp) (by omega)
  have H := @hideH _ h1
  clear h1
  go_enter Try.func30, Try.ntmps30
  go_wp2_with fail
  refine (hp _).mono ?_
  rintro e w1 ⟨u, rfl, ho, hk⟩
  go_wp2
  go_ret
  refine ⟨u, rfl, ?_, hk⟩
  rw [putN_length, Int.toNat_natCast, ← lay_putN]
  exact ho
theorem qJoin (v : Value) (ls : List (List UInt8)) (w : World) (hv : Bss w v ls) (ht : (flat ls).length ≤ 100000) : Calls Try.prog 28 #[v] w fun e w' => ∃ u, e = .returned u ∧ Acc w w' u (flat ls) := by
  refine (join_any v ls w hv (by omega)).mono ?_
  rintro e w' ⟨u, rfl, ho, hk⟩
  exact ⟨u, rfl, ho, hk⟩
theorem Acc.bs {w0 w : World} {u : Value} {b : List UInt8} (h : Acc w0 w u b) : Bs w u b := Bs.ofOwn h.1
theorem Acc.low {w0 w1 w : World} {u : Value} {b : List UInt8} (h : Acc w1 w u b) (k : Kept [] w0 w1) : Acc w0 w u b := ⟨own_baseK h.1 k.size, k.then h.2⟩
theorem Bss.lit4 (w : World) (e : TypeId) (a b c d : Value) (la lb lc ld : List UInt8) (ha : Bs w a la) (hb : Bs w b lb) (hc : Bs w c lc) (hd : Bs w d ld) (H : Nat) (hH : w.heap.size = H) : Bss (w.alloc (.cells #[a, b, c, d] e)) (.slice (some ⟨H, 0, none⟩) 4 4) [la, lb, lc, ld] :=
  Bss.lit w e [a, b, c, d] [la, lb, lc, ld] rfl (by simp [maxLen]) (fun i v l hv hl => by
    match i, hv, hl with
    | 0, hv, hl => simp at hv hl; subst hv hl; exact ha
    | 1, hv, hl => simp at hv hl; subst hv hl; exact hb
    | 2, hv, hl => simp at hv hl; subst hv hl; exact hc
    | 3, hv, hl => simp at hv hl; subst hv hl; exact hd
    | i + 4, hv, hl => simp at hv) H hH
theorem Bss.lit6 (w : World) (e : TypeId) (a b c d x y : Value) (la lb lc ld lx ly : List UInt8) (ha : Bs w a la) (hb : Bs w b lb) (hc : Bs w c lc) (hd : Bs w d ld) (hx : Bs w x lx) (hy : Bs w y ly) (H : Nat) (hH : w.heap.size = H) : Bss (w.alloc (.cells #[a, b, c, d, x, y] e)) (.slice (some ⟨H, 0, none⟩) 6 6) [la, lb, lc, ld, lx, ly] :=
  Bss.lit w e [a, b, c, d, x, y] [la, lb, lc, ld, lx, ly] rfl (by simp [maxLen]) (fun i v l hv hl => by
    match i, hv, hl with
    | 0, hv, hl => simp at hv hl; subst hv hl; exact ha
    | 1, hv, hl => simp at hv hl; subst hv hl; exact hb
    | 2, hv, hl => simp at hv hl; subst hv hl; exact hc
    | 3, hv, hl => simp at hv hl; subst hv hl; exact hd
    | 4, hv, hl => simp at hv hl; subst hv hl; exact hx
    | 5, hv, hl => simp at hv hl; subst hv hl; exact hy
    | i + 6, hv, hl => simp at hv) H hH
end Go.Proofs.Ytebcmcmboomgfaa

/-
  OWN WORK. record: rangeBytes.
-/
namespace Go.Proofs.Ytebcmcmboomgfaa
open Go.RowKit
set_option linter.unusedVariables false
set_option linter.unusedSimpArgs false

theorem flat3 (a b c : List UInt8) : flat [a, b, c] = a ++ (b ++ c) := by simp [flat]
theorem flat2 (a b : List UInt8) : flat [a, b] = a ++ b := by simp [flat]
theorem flat4 (a b c d : List UInt8) : flat [a, b, c, d] = a ++ (b ++ (c ++ d)) := by simp [flat]
theorem flat6 (a b c d x y : List UInt8) : flat [a, b, c, d, x, y] = a ++ (b ++ (c ++ (d ++ (x ++ y)))) := by simp [flat]
def rangeB (r : Rcd) : List UInt8 := putN 1 r.page.toNat ++ (putN 2 r.frm.toNat ++ putN 2 r.after.length)
theorem rangeB_length (r : Rcd) : (rangeB r).length = 5 := by simp [rangeB, putN_length]
set_option maxRecDepth 20000 in
set_option maxHeartbeats 3200000 in
theorem qRangeB (V : RV) (r : Rcd) (w : World) (h : SeeR w V r) (hr : rangedOk r) : Calls Try.prog 51 #[r.agg V] w fun e w' => ∃ u, e = .returned u ∧ Acc w w' u (rangeB r) := by
  obtain ⟨pb, cb, pa, ca, pr, cr, pd, cd, rfl⟩ := h.shapes
  have h1 := fun w => qOne r.page w hr.1.1 (by have := hr.1.2; omega)
  have h2 := fun w => qTwo r.frm w (by have := hr.2.2.1; omega) (by have := hr.2.2.2; omega)
  have h3 := fun w => qTwo (r.after.length : Int) w (by omega) (by have := hr.2.1.2; omega)
  rw [Int.toNat_natCast] at h3
  unfold rangeB
  unfold Rcd.agg
  dsimp only
  generalize r.after.length = na at *
  generalize r.page = page at *
  generalize r.frm = frm at *
  generalize r.before.length = nb at *
  generalize r.rows.length = nr at *
  generalize r.dirty.length = nd at *
  clear h hr
  obtain ⟨wa, hwa⟩ : ∃ wa, wa = w.alloc (.cells #[.int .i64 r.kind, .int .i64 r.birth, .int .i64 r.prev, .int .i64 r.id, .int .i64 page, .int .i64 frm, .slice pb nb cb, .slice pa na ca, .int .i64 r.next, .slice pr nr cr, .slice pd nd cd] 26) := ⟨_, rfl⟩
  have ba : Blk wa w.heap.size 26 [.int .i64 r.kind, .int .i64 r.birth, .int .i64 r.prev, .int .i64 r.id, .int .i64 page, .int .i64 frm, .slice pb nb cb, .slice pa na ca, .int .i64 r.next, .slice pr nr cr, .slice pd nd cd] := by rw [hwa]; exact Blk.new w _ _
  have KA := @hideH _ (show Kept [] w wa by rw [hwa]; exact (Kept.refl [] w).alloc _)
  have c4 := ba.cell (j := 4) rfl
  have c5 := ba.cell (j := 5) rfl
  have c7 := ba.cell (j := 7) rfl
  have tk : True := trivial
  have kx : Kept [] wa wa.drew := (Kept.refl [] wa).drew
  clear ba
  go_enter Try.func51, Try.ntmps51
  go_upto_region 1 with fail
  rw [← hwa]
  clear hwa
  go_region_held3 (fun w' => w'.cell? ⟨w.heap.size, 4, none⟩ = some (.int .i64 page) ∧ w'.cell? ⟨w.heap.size, 5, none⟩ = some (.int .i64 frm) ∧ w'.cell? ⟨w.heap.size, 7, none⟩ = some (.slice pa na ca))
    (first | (with_reducible exact ⟨kx.cell c4 (by simp), kx.cell c5 (by simp), kx.cell c7 (by simp)⟩) | (with_reducible exact ⟨(kx.alloc _).cell c4 (by simp), (kx.alloc _).cell c5 (by simp), (kx.alloc _).cell c7 (by simp)⟩) | fail)
    (first
      | (go_at_call 29; refine (h1 _).mono ?_; rintro e w1 ⟨u1, rfl, a1⟩; obtain ⟨p1, q1, rfl⟩ := own_shape2 a1.1; replace kx := kx.then a1.2)
      | (go_at_call 70; clear tk; refine (h2 _).mono ?_; rintro e w2 ⟨u2, rfl, a2⟩; obtain ⟨p2, q2, rfl⟩ := own_shape2 a2.1; replace kx := kx.then a2.2)
      | (go_at_call 70; refine (h3 _).mono ?_; rintro e w3 ⟨u3, rfl, a3⟩; obtain ⟨p3, q3, rfl⟩ := own_shape2 a3.1; replace kx := kx.then a3.2)
      | (go_at_call 28; refine (qJoin _ _ _ (Bss.lit3 w3 _ _ _ _ _ _ _ ((a1.then a2.2).then a3.2).bs (a2.then a3.2).bs a3.bs _ rfl) (by rw [flat3]; simp [putN_length])).mono ?_; rintro e w4 ⟨u4, rfl, a4⟩; have ky := kx; replace kx := (kx.alloc _).then a4.2)
      | fail)
  go_wp2
  go_ret
  refine ⟨u4, rfl, ?_⟩
  rw [← flat3]
  exact a4.low ((KA.out.then ky).alloc _)
end Go.Proofs.Ytebcmcmboomgfaa

/-
  OWN WORK. record's small questions: isLsn, isLsnOrNone, isId, isPage, isOwned, isBlank, isRange, partAtEnds.
-/
namespace Go.Proofs.Ytebcmcmboomgfaa
open Go.RowKit
set_option linter.unusedVariables false
set_option linter.unusedSimpArgs false

theorem pIsLsn (n : Int) (w : World) : Calls Try.prog 65 #[.int .i64 n] w fun e w' => e = .returned (.bool (bl (lsnOk n))) ∧ w' = w := by
  by_cases h1 : 1 ≤ n
  · have hq : bl (lsnOk n) = decide (n ≤ 1152921504606846976) := by unfold lsnOk; rw [bl_d]; simp [h1]
    rw [hq]
    clear hq
    go_enter Try.func65, Try.ntmps65
    go_wp2
    go_ret
    exact ⟨by simp, rfl⟩
  · have hq : bl (lsnOk n) = false := bl_f (fun h => h1 h.1)
    rw [hq]
    clear hq
    go_enter Try.func65, Try.ntmps65
    go_wp2
    go_ret
    exact ⟨by simp, rfl⟩
def idOk (n : Int) : Prop := 1 ≤ n ∧ n ≤ 64
def pageOk (n : Int) : Prop := 0 ≤ n ∧ n < 16
theorem pIsId (n : Int) (w : World) : Calls Try.prog 42 #[.int .i64 n] w fun e w' => e = .returned (.bool (bl (idOk n))) ∧ w' = w := by
  by_cases h1 : 1 ≤ n
  · have hq : bl (idOk n) = decide (n ≤ 64) := by unfold idOk; rw [bl_d]; simp [h1]
    rw [hq]
    clear hq
    go_enter Try.func42, Try.ntmps42
    go_wp2
    go_ret
    exact ⟨by simp, rfl⟩
  · have hq : bl (idOk n) = false := bl_f (fun h => h1 h.1)
    rw [hq]
    clear hq
    go_enter Try.func42, Try.ntmps42
    go_wp2
    go_ret
    exact ⟨by simp, rfl⟩
theorem pIsPage (n : Int) (w : World) : Calls Try.prog 66 #[.int .i64 n] w fun e w' => e = .returned (.bool (bl (pageOk n))) ∧ w' = w := by
  by_cases h1 : 0 ≤ n
  · have hq : bl (pageOk n) = decide (n < 16) := by unfold pageOk; rw [bl_d]; simp [h1]
    rw [hq]
    clear hq
    go_enter Try.func66, Try.ntmps66
    go_wp2
    go_ret
    exact ⟨by simp, rfl⟩
  · have hq : bl (pageOk n) = false := bl_f (fun h => h1 h.1)
    rw [hq]
    clear hq
    go_enter Try.func66, Try.ntmps66
    go_wp2
    go_ret
    exact ⟨by simp, rfl⟩
theorem pIsNext (n : Int) (w : World) : Calls Try.prog 46 #[.int .i64 n] w fun e w' => e = .returned (.bool (bl (nextOk n))) ∧ w' = w := by
  by_cases h1 : n = 0
  · subst h1
    have hq : bl (nextOk 0) = true := bl_t (by unfold nextOk; omega)
    rw [hq]
    clear hq
    go_enter Try.func46, Try.ntmps46
    go_wp2
    go_ret
    exact ⟨by simp, rfl⟩
  · have hq : bl (nextOk n) = bl (lsnOk n) := congrArg bl (propext (by unfold nextOk lsnOk; omega))
    have h1b : (n == 0) = false := by simp [h1]
    rw [hq]
    clear hq
    go_enter Try.func46, Try.ntmps46
    go_wp2_with fail
    refine (pIsLsn n _).mono ?_
    rintro e w1 ⟨rfl, rfl⟩
    go_wp2
    go_ret
    exact ⟨by simp [h1], rfl⟩
def ownedOk (r : Rcd) : Prop := lsnOk r.birth ∧ lsnOk r.prev
theorem pOwned (V : RV) (r : Rcd) (w : World) : Calls Try.prog 43 #[r.agg V] w fun e w' => e = .returned (.bool (bl (ownedOk r))) ∧ Kept [] w w' := by
  have h1 := fun w => pIsLsn r.birth w
  have h2 := fun w => pIsLsn r.prev w
  by_cases c1 : lsnOk r.birth
  · rw [bl_t c1] at h1
    have hq : bl (ownedOk r) = bl (lsnOk r.prev) := congrArg bl (propext (by unfold ownedOk; simp [c1]))
    rw [hq]
    clear hq c1
    unfold Rcd.agg
    go_enter Try.func43, Try.ntmps43
    go_wp2_with fail
    refine (h1 _).mono ?_
    rintro e w1 ⟨rfl, rfl⟩
    go_wp2_with fail
    refine (h2 _).mono ?_
    rintro e w1 ⟨rfl, rfl⟩
    go_wp2
    go_ret
    exact ⟨by simp, (Kept.refl [] w).alloc _⟩
  · rw [bl_f c1] at h1
    have hq : bl (ownedOk r) = false := bl_f fun h => c1 h.1
    rw [hq]
    clear hq c1
    unfold Rcd.agg
    go_enter Try.func43, Try.ntmps43
    go_wp2_with fail
    refine (h1 _).mono ?_
    rintro e w1 ⟨rfl, rfl⟩
    go_wp2
    go_ret
    exact ⟨by simp, (Kept.refl [] w).alloc _⟩
end Go.Proofs.Ytebcmcmboomgfaa

/-
  OWN WORK (by mkpr.py). record: partAtEnds, isRow.
-/
namespace Go.Proofs.Ytebcmcmboomgfaa
open Go.RowKit
set_option linter.unusedVariables false
set_option linter.unusedSimpArgs false

theorem byteNe {x y : UInt8} (h : x ≠ y) : ((x.toNat : Int) != (y.toNat : Int)) = true := by
  simp only [bne_iff_ne, ne_eq, Int.natCast_inj]
  exact fun e => h (UInt8.toNat_inj.1 e)
def partsL (before after : List UInt8) : Prop := before.length = after.length ∧ before[0]? ≠ after[0]? ∧ before[after.length - 1]? ≠ after[after.length - 1]?
set_option maxRecDepth 20000 in
set_option maxHeartbeats 6400000 in
theorem pParts (vb va : Value) (before after : List UInt8) (w : World) (hb : Bs w vb before) (ha : Bs w va after) (hn : 0 < after.length) : Calls Try.prog 45 #[vb, va] w fun e w' => e = .returned (.bool (bl (partsL before after))) ∧ Kept [] w w' := by
  haveI HNE : ∀ w2, Nonempty (Calm w2) := calmNe
  have hmx := @hideH _ (show after.length ≤ maxLen from (by obtain ⟨_, _, e, h1, h2, _⟩ := ha; exact Nat.le_trans h1 h2))
  obtain ⟨ba, oa, ca, rfl, -, -, -, hac⟩ := ha.pos hn
  obtain ⟨Q, hQ⟩ : ∃ Q, Q = bl (partsL before after) := ⟨_, rfl⟩
  rw [← hQ]
  have HQ := @hideH _ hQ
  clear hQ
  obtain ⟨na, hna⟩ : ∃ na, na = after.length := ⟨_, rfl⟩
  rw [← hna] at hn ⊢
  have HNA := @hideH _ hna
  clear hna
  have wna : IntKind.i64.wrap ((na : Int) - 1) = ((na - 1 : Nat) : Int) := by rw [show (na : Int) - 1 = ((na - 1 : Nat) : Int) by omega]; exact wrap_i64_of (by omega) (by have := hmx.out; have e := HNA.out; unfold maxLen at this; omega)
  have nz : (0 : Int) < (na : Int) := by omega
  have nl : ((na - 1 : Nat) : Int) < (na : Int) := by omega
  have nl0 : (0 : Int) ≤ ((na - 1 : Nat) : Int) := by omega
  by_cases hlen : before.length = na
  rotate_left
  · have eQ := @hideH _ (show Q = false by rw [HQ.out]; exact bl_f fun h => hlen (by rw [HNA.out]; exact h.1))
    obtain ⟨pb, cb, rfl, -⟩ := hb
    obtain ⟨nb, hnb⟩ : ∃ nb, nb = before.length := ⟨_, rfl⟩
    rw [← hnb] at hlen ⊢
    have hd : ((nb : Int) == (na : Int)) = false := by simp; omega
    clear hnb hlen hac HQ HNA ha
    go_enter Try.func45, Try.ntmps45
    go_upto_region 2 with fail
    have KR := @hideH _ (Kept.refl [] w)
    refine wp_region_calm KR.out (by kernel_rfl) (by kernel_rfl) ?_
    repeat (go_big_quiet_step (fail))
    refine wpQuiet_nil ?_
    intro _ hw'
    obtain ⟨sq, hw''⟩ := hw'
    subst hw''
    have ks := sq.kept
    generalize sq.at = wx at ks ⊢
    clear sq
    have RK := @hideH _ ks
    clear ks
    go_wp2
    go_ret
    exact ⟨by rw [eQ.out]; rfl, RK.out⟩
  obtain ⟨x0, hx0⟩ : ∃ x, before[0]? = some x := ⟨_, List.getElem?_eq_getElem (by omega)⟩
  obtain ⟨y0, hy0⟩ : ∃ x, after[0]? = some x := ⟨_, List.getElem?_eq_getElem (by have := HNA.out; omega)⟩
  obtain ⟨x1, hx1⟩ : ∃ x, before[na - 1]? = some x := ⟨_, List.getElem?_eq_getElem (by omega)⟩
  obtain ⟨y1, hy1⟩ : ∃ x, after[na - 1]? = some x := ⟨_, List.getElem?_eq_getElem (by have := HNA.out; omega)⟩
  have HXY := @hideH _ (And.intro hx0 (And.intro hy0 (And.intro hx1 hy1)))
  obtain ⟨bb, ob, cb, rfl, -, -, -, hbc⟩ := hb.pos (by omega)
  have HL := @hideH _ hlen
  rw [hlen]
  have v0 : w.cell? ⟨bb, ob, none⟩ = some (.int .u8 (x0.toNat : Int)) := hbc 0 x0 hx0
  have v1 : w.cell? ⟨ba, oa, none⟩ = some (.int .u8 (y0.toNat : Int)) := hac 0 y0 hy0
  have v2 := hbc (na - 1) x1 hx1
  have v3 := hac (na - 1) y1 hy1
  clear hx0 hy0 hx1 hy1 hbc hac hlen hb ha
  by_cases hz0 : x0 = y0
  · have eQ := @hideH _ (show Q = false by rw [HQ.out]; exact bl_f fun h => h.2.1 (by rw [HXY.out.1, HXY.out.2.1, hz0]))
    have hbz : ((x0.toNat : Int) != (y0.toNat : Int)) = false := by simp [hz0]
    clear hz0
    go_enter Try.func45, Try.ntmps45
    go_upto_region 2 with fail
    have s_v0 := fun (s : Calm w) => s.kept.cell v0 (by simp)
    have s_v1 := fun (s : Calm w) => s.kept.cell v1 (by simp)
    have KR := @hideH _ (Kept.refl [] w)
    clear v0 v1 v2 v3
    refine wp_region_calm KR.out (by kernel_rfl) (by kernel_rfl) ?_
    repeat (go_big_quiet_step (fail))
    refine wpQuiet_nil ?_
    intro _ hw'
    obtain ⟨sq, hw''⟩ := hw'
    subst hw''
    have ks := sq.kept
    generalize sq.at = wx at ks ⊢
    clear sq
    have RK := @hideH _ ks
    clear ks s_v0 s_v1
    go_wp2
    go_ret
    exact ⟨by rw [eQ.out]; rfl, RK.out⟩
  have hbz := byteNe hz0
  by_cases hz1 : x1 = y1
  · have eQ := @hideH _ (show Q = false by rw [HQ.out]; exact bl_f fun h => h.2.2 (by rw [← HNA.out, HXY.out.2.2.1, HXY.out.2.2.2, hz1]))
    have hb1 : ((x1.toNat : Int) != (y1.toNat : Int)) = false := by simp [hz1]
    clear hz0 hz1
    go_enter Try.func45, Try.ntmps45
    go_upto_region 2 with fail
    have s_v0 := fun (s : Calm w) => s.kept.cell v0 (by simp)
    have s_v1 := fun (s : Calm w) => s.kept.cell v1 (by simp)
    have s_v2 := fun (s : Calm w) => s.kept.cell v2 (by simp)
    have s_v3 := fun (s : Calm w) => s.kept.cell v3 (by simp)
    have KR := @hideH _ (Kept.refl [] w)
    clear v0 v1 v2 v3
    refine wp_region_calm KR.out (by kernel_rfl) (by kernel_rfl) ?_
    repeat (go_big_quiet_step (fail))
    refine wpQuiet_nil ?_
    intro _ hw'
    obtain ⟨sq, hw''⟩ := hw'
    subst hw''
    have ks := sq.kept
    generalize sq.at = wx at ks ⊢
    clear sq
    have RK := @hideH _ ks
    clear ks s_v0 s_v1 s_v2 s_v3
    go_wp2
    go_ret
    exact ⟨by rw [eQ.out]; rfl, RK.out⟩
  have hb1 := byteNe hz1
  have eQ := @hideH _ (show Q = true by rw [HQ.out]; exact bl_t ⟨by rw [HL.out, HNA.out], by rw [HXY.out.1, HXY.out.2.1]; simpa using hz0, by rw [← HNA.out, HXY.out.2.2.1, HXY.out.2.2.2]; simpa using hz1⟩)
  clear hz0 hz1
  go_enter Try.func45, Try.ntmps45
  go_upto_region 2 with fail
  have s_v0 := fun (s : Calm w) => s.kept.cell v0 (by simp)
  have s_v1 := fun (s : Calm w) => s.kept.cell v1 (by simp)
  have s_v2 := fun (s : Calm w) => s.kept.cell v2 (by simp)
  have s_v3 := fun (s : Calm w) => s.kept.cell v3 (by simp)
  have KR := @hideH _ (Kept.refl [] w)
  clear v0 v1 v2 v3
  refine wp_region_calm KR.out (by kernel_rfl) (by kernel_rfl) ?_
  repeat (go_big_quiet_step (fail))
  refine wpQuiet_nil ?_
  intro _ hw'
  obtain ⟨sq, hw''⟩ := hw'
  subst hw''
  have ks := sq.kept
  generalize sq.at = wx at ks ⊢
  clear sq
  have RK := @hideH _ ks
  clear ks s_v0 s_v1 s_v2 s_v3
  go_wp2
  go_ret
  exact ⟨by rw [eQ.out]; rfl, RK.out⟩
set_option maxHeartbeats 1600000 in
theorem qRow (x : RowR) (w : World) : Calls Try.prog 67 #[.agg #[.int .i64 x.birth, .int .i64 x.id, .int .i64 x.state, .int .i64 x.last, .int .i64 x.next]] w fun e w' => e = .returned (.bool (bl (rowOk x))) ∧ Kept [] w w' := by
  obtain ⟨birth, id, state, last, next⟩ := x
  dsimp only
  have hl1 := fun w => pIsLsn birth w
  have hl4 := fun w => pIsId id w
  have hl2 := fun w => pIsLsn last w
  have hl3 := fun w => pIsNext next w
  have F : ∀ {P : Prop}, (rowOk ⟨birth, id, state, last, next⟩ → P) → ¬ P → bl (rowOk ⟨birth, id, state, last, next⟩) = false := fun h1 h2 => bl_f fun h => h2 (h1 h)
  by_cases h1 : lsnOk birth
  · rw [bl_t h1] at hl1
    by_cases h2 : idOk id
    · rw [bl_t h2] at hl4
      by_cases h4 : state = 1
      · subst h4
        by_cases h5 : lsnOk last
        · rw [bl_t h5] at hl2
          by_cases h6 : nextOk next
          · rw [bl_t h6] at hl3
            rw [bl_t (show rowOk ⟨birth, id, 1, last, next⟩ from ⟨h1, h2, .inl rfl, h5, h6⟩)]
            clear F h1 h2 h5 h6
            go_enter Try.func67, Try.ntmps67
            go_wp2_with fail
            refine (hl1 _).mono ?_
            rintro e w1 ⟨rfl, rfl⟩
            go_wp2_with fail
            refine (hl4 _).mono ?_
            rintro e w2 ⟨rfl, rfl⟩
            go_wp2_with fail
            refine (hl2 _).mono ?_
            rintro e w3 ⟨rfl, rfl⟩
            go_wp2_with fail
            refine (hl3 _).mono ?_
            rintro e w4 ⟨rfl, rfl⟩
            go_wp2
            go_ret
            exact ⟨by simp, (Kept.refl [] _).alloc _⟩
          · rw [F (fun h => h.2.2.2.2) h6]
            rw [bl_f h6] at hl3
            clear F h1 h2 h5 h6
            go_enter Try.func67, Try.ntmps67
            go_wp2_with fail
            refine (hl1 _).mono ?_
            rintro e w1 ⟨rfl, rfl⟩
            go_wp2_with fail
            refine (hl4 _).mono ?_
            rintro e w2 ⟨rfl, rfl⟩
            go_wp2_with fail
            refine (hl2 _).mono ?_
            rintro e w3 ⟨rfl, rfl⟩
            go_wp2_with fail
            refine (hl3 _).mono ?_
            rintro e w4 ⟨rfl, rfl⟩
            go_wp2
            go_ret
            exact ⟨by simp, (Kept.refl [] _).alloc _⟩
        · rw [F (fun h => h.2.2.2.1) h5]
          rw [bl_f h5] at hl2
          clear F h1 h2 h5
          go_enter Try.func67, Try.ntmps67
          go_wp2_with fail
          refine (hl1 _).mono ?_
          rintro e w1 ⟨rfl, rfl⟩
          go_wp2_with fail
          refine (hl4 _).mono ?_
          rintro e w2 ⟨rfl, rfl⟩
          go_wp2_with fail
          refine (hl2 _).mono ?_
          rintro e w3 ⟨rfl, rfl⟩
          go_wp2
          go_ret
          exact ⟨by simp, (Kept.refl [] _).alloc _⟩
      · by_cases h4' : state = 2
        · subst h4'
          by_cases h5 : lsnOk last
          · rw [bl_t h5] at hl2
            by_cases h6 : nextOk next
            · rw [bl_t h6] at hl3
              rw [bl_t (show rowOk ⟨birth, id, 2, last, next⟩ from ⟨h1, h2, .inr rfl, h5, h6⟩)]
              clear F h1 h2 h5 h6
              go_enter Try.func67, Try.ntmps67
              go_wp2_with fail
              refine (hl1 _).mono ?_
              rintro e w1 ⟨rfl, rfl⟩
              go_wp2_with fail
              refine (hl4 _).mono ?_
              rintro e w2 ⟨rfl, rfl⟩
              go_wp2_with fail
              refine (hl2 _).mono ?_
              rintro e w3 ⟨rfl, rfl⟩
              go_wp2_with fail
              refine (hl3 _).mono ?_
              rintro e w4 ⟨rfl, rfl⟩
              go_wp2
              go_ret
              exact ⟨by simp, (Kept.refl [] _).alloc _⟩
            · rw [F (fun h => h.2.2.2.2) h6]
              rw [bl_f h6] at hl3
              clear F h1 h2 h5 h6
              go_enter Try.func67, Try.ntmps67
              go_wp2_with fail
              refine (hl1 _).mono ?_
              rintro e w1 ⟨rfl, rfl⟩
              go_wp2_with fail
              refine (hl4 _).mono ?_
              rintro e w2 ⟨rfl, rfl⟩
              go_wp2_with fail
              refine (hl2 _).mono ?_
              rintro e w3 ⟨rfl, rfl⟩
              go_wp2_with fail
              refine (hl3 _).mono ?_
              rintro e w4 ⟨rfl, rfl⟩
              go_wp2
              go_ret
              exact ⟨by simp, (Kept.refl [] _).alloc _⟩
          · rw [F (fun h => h.2.2.2.1) h5]
            rw [bl_f h5] at hl2
            clear F h1 h2 h5
            go_enter Try.func67, Try.ntmps67
            go_wp2_with fail
            refine (hl1 _).mono ?_
            rintro e w1 ⟨rfl, rfl⟩
            go_wp2_with fail
            refine (hl4 _).mono ?_
            rintro e w2 ⟨rfl, rfl⟩
            go_wp2_with fail
            refine (hl2 _).mono ?_
            rintro e w3 ⟨rfl, rfl⟩
            go_wp2
            go_ret
            exact ⟨by simp, (Kept.refl [] _).alloc _⟩
        · rw [F (fun h => h.2.2.1) (fun h => by rcases h with h | h; exact h4 h; exact h4' h)]
          have e1 : (state == 1) = false := by simp [h4]
          have e2 : (state == 2) = false := by simp [h4']
          clear F h1 h2
          go_enter Try.func67, Try.ntmps67
          go_wp2_with fail
          refine (hl1 _).mono ?_
          rintro e w1 ⟨rfl, rfl⟩
          go_wp2_with fail
          refine (hl4 _).mono ?_
          rintro e w2 ⟨rfl, rfl⟩
          go_wp2
          go_ret
          exact ⟨by simp, (Kept.refl [] _).alloc _⟩
    · rw [F (fun h => h.2.1) h2]
      rw [bl_f h2] at hl4
      clear F h1 h2
      go_enter Try.func67, Try.ntmps67
      go_wp2_with fail
      refine (hl1 _).mono ?_
      rintro e w1 ⟨rfl, rfl⟩
      go_wp2_with fail
      refine (hl4 _).mono ?_
      rintro e w2 ⟨rfl, rfl⟩
      go_wp2
      go_ret
      exact ⟨by simp, (Kept.refl [] _).alloc _⟩
  · rw [F (fun h => h.1) h1]
    rw [bl_f h1] at hl1
    clear F h1
    go_enter Try.func67, Try.ntmps67
    go_wp2_with fail
    refine (hl1 _).mono ?_
    rintro e w1 ⟨rfl, rfl⟩
    go_wp2
    go_ret
    exact ⟨by simp, (Kept.refl [] _).alloc _⟩
end Go.Proofs.Ytebcmcmboomgfaa

/-
  OWN WORK (by mkpr2.py). record: isTable, isDirty.
-/
namespace Go.Proofs.Ytebcmcmboomgfaa
open Go.RowKit
set_option linter.unusedVariables false
set_option linter.unusedSimpArgs false

def tableOk (l : List RowR) : Prop := l.length ≤ 8 ∧ (∀ x ∈ l, rowOk x) ∧ ∀ (i : Nat) x y, l[i]? = some x → l[i + 1]? = some y → x.birth < y.birth
def dirtyOk (l : List RecR) : Prop := l.length ≤ 16 ∧ (∀ x ∈ l, recOk x) ∧ ∀ (i : Nat) x y, l[i]? = some x → l[i + 1]? = some y → x.page < y.page
theorem listsOk_iff (r : Rcd) : listsOk r ↔ tableOk r.rows ∧ dirtyOk r.dirty := by
  unfold listsOk tableOk dirtyOk
  exact ⟨fun ⟨⟨a, b⟩, c, d⟩ => ⟨⟨a, c⟩, b, d⟩, fun ⟨⟨a, c⟩, b, d⟩ => ⟨⟨a, b⟩, c, d⟩⟩
def lastB (l : List RowR) : Nat → Int
  | 0 => 0
  | k + 1 => match l[k]? with
    | some x => x.birth
    | none => 0
def lastP (l : List RecR) : Nat → Int
  | 0 => -1
  | k + 1 => match l[k]? with
    | some x => x.page
    | none => -1
theorem lastB_next {l : List RowR} {k : Nat} {x : RowR} (h : l[k]? = some x) : lastB l (k + 1) = x.birth := by simp [lastB, h]
theorem lastP_next {l : List RecR} {k : Nat} {x : RecR} (h : l[k]? = some x) : lastP l (k + 1) = x.page := by simp [lastP, h]
theorem lastB_bad {l : List RowR} {k : Nat} {x : RowR} (h : l[k]? = some x) (hl : x.birth ≤ lastB l k) : ¬ tableOk l := fun ⟨_, h2, h3⟩ => by
  cases k with
  | zero => have := (h2 x (List.mem_of_getElem? h)).1.1; simp [lastB] at hl; omega
  | succ k =>
    obtain ⟨y, hy⟩ : ∃ y, l[k]? = some y := ⟨_, List.getElem?_eq_getElem (by have := (List.getElem?_eq_some_iff.1 h).1; omega)⟩
    rw [lastB_next hy] at hl
    have := h3 k y x hy h
    omega
theorem lastP_bad {l : List RecR} {k : Nat} {x : RecR} (h : l[k]? = some x) (hl : x.page ≤ lastP l k) : ¬ dirtyOk l := fun ⟨_, h2, h3⟩ => by
  cases k with
  | zero => have := (h2 x (List.mem_of_getElem? h)).1.1; simp [lastP] at hl; omega
  | succ k =>
    obtain ⟨y, hy⟩ : ∃ y, l[k]? = some y := ⟨_, List.getElem?_eq_getElem (by have := (List.getElem?_eq_some_iff.1 h).1; omega)⟩
    rw [lastP_next hy] at hl
    have := h3 k y x hy h
    omega
theorem rowsTo_next2 {l : List RowR} {k : Nat} {x : RowR} (h : rowsTo l k) (hx : l[k]? = some x) (ho : rowOk x) (hl : ¬ x.birth ≤ lastB l k) : rowsTo l (k + 1) :=
  h.next hx ho fun j y e hy => by subst e; rw [lastB_next hy] at hl; omega
theorem recsTo_next2 {l : List RecR} {k : Nat} {x : RecR} (h : recsTo l k) (hx : l[k]? = some x) (ho : recOk x) (hl : ¬ x.page ≤ lastP l k) : recsTo l (k + 1) :=
  h.next hx ho fun j y e hy => by subst e; rw [lastP_next hy] at hl; omega

set_option maxRecDepth 20000 in
set_option maxHeartbeats 6400000 in
theorem qTable (v : Value) (l : List RowR) (w : World) (h : Cs w 5 v l.length (rcells l)) : Calls Try.prog 47 #[v] w fun e w' => e = .returned (.bool (bl (tableOk l))) ∧ Kept [] w w' := by
  obtain ⟨Q, hQ⟩ : ∃ Q, Q = bl (tableOk l) := ⟨_, rfl⟩
  rw [← hQ]
  have HF := @hideH _ (show ¬ tableOk l → Q = false from fun h => by rw [hQ]; exact bl_f h)
  have HT := @hideH _ (show l.length ≤ 8 → rowsTo l l.length → Q = true from fun h1 h2 => by rw [hQ]; exact bl_t ⟨h1, h2.all⟩)
  clear hQ
  have HC := @hideH _ h
  obtain ⟨-, -, p, c, rfl, -⟩ := h
  obtain ⟨n, hn⟩ : ∃ n, n = l.length := ⟨_, rfl⟩
  rw [← hn]
  have HN := @hideH _ hn
  clear hn
  by_cases h8 : (8 : Int) < (n : Int)
  · have eQ := @hideH _ (HF.out fun h => by have := h.1; have e := HN.out; omega)
    go_enter Try.func47, Try.ntmps47
    go_wp2
    go_ret
    exact ⟨by rw [eQ.out]; rfl, Kept.refl [] _⟩
  have HS := @hideH _ (show n ≤ 8 by omega)
  go_enter Try.func47, Try.ntmps47
  go_wp2
  go_loopw [3, 5, 11] (fun vb vp vi wr => ∃ k : Nat, k ≤ n ∧ vi = .int .i64 k ∧ vb = .int .i64 (lastB l k) ∧ Hid (rowsTo l k ∧ Kept [] w wr)) (fun _ _ vi _ => n - (intOf vi).toNat)
  case atStart => exact ⟨0, Nat.zero_le _, rfl, rfl, ⟨fun i x hi => by omega, fun i x y hi => by omega⟩, Kept.refl [] _⟩
  case round =>
    obtain ⟨k, hk, rfl, rfl, hh⟩ := hrel
    by_cases hkl : k < n
    · have hkl' : (k : Int) < (n : Int) := by omega
      have hk0 : (0 : Int) ≤ (k : Int) := by omega
      have wk : IntKind.i64.wrap ((k : Int) + 1) = (k : Int) + 1 := wrap_i64_of (by omega) (by have := HS.out; omega)
      obtain ⟨x, hx⟩ : ∃ x, l[k]? = some x := ⟨_, List.getElem?_eq_getElem (by have := HN.out; omega)⟩
      obtain ⟨b, o, c', ev, hc⟩ := (HC.out.kept hh.out.2).rowAt (by have := HN.out; omega)
      simp only [Value.slice.injEq] at ev
      obtain ⟨rfl, -, rfl⟩ := ev
      obtain ⟨x0, x1, x2, x3, x4⟩ := hc k x hx
      obtain ⟨B, hB⟩ : ∃ B, B = lastB l k := ⟨_, rfl⟩
      rw [← hB]
      have HX := @hideH _ (And.intro hx hB)
      obtain ⟨wz, hwz⟩ : ∃ wz, wz = wr.alloc (.cells #[.int .i64 x.birth, .int .i64 x.id, .int .i64 x.state, .int .i64 x.last, .int .i64 x.next] 66) := ⟨_, rfl⟩
      have kz : Kept [] wr wz := by rw [hwz]; exact (Kept.refl [] wr).alloc _
      have bz : Blk wz wr.heap.size 66 [.int .i64 x.birth, .int .i64 x.id, .int .i64 x.state, .int .i64 x.last, .int .i64 x.next] := by rw [hwz]; exact Blk.new wr _ _
      have z0 := bz.cell (j := 0) rfl
      have z1 := bz.cell (j := 1) rfl
      have z2 := bz.cell (j := 2) rfl
      have z3 := bz.cell (j := 3) rfl
      have z4 := bz.cell (j := 4) rfl
      have KZ := @hideH _ (hh.out.2.then kz)
      clear hx hB hc bz kz
      by_cases hlt : x.birth ≤ B
      · have eQ := @hideH _ (HF.out (lastB_bad HX.out.1 (by rw [← HX.out.2]; exact hlt)))
        have KE := KZ
        go_upto_region 7 with fail
        rw [← hwz]
        clear hwz
        go_wp2
        go_ret
        exact ⟨by rw [eQ.out]; rfl, KE.out⟩
      have HLT := @hideH _ hlt
      have hr := fun w => qRow x w
      by_cases hok : rowOk x
      · have HOK := @hideH _ hok
        simp only [bl_t hok] at hr
        clear hok
        go_upto_region 7 with fail
        rw [← hwz]
        clear hwz
        go_wp2_with fail
        refine (hr _).mono ?_
        rintro e w2 ⟨rfl, k2⟩
        clear hr
        replace z0 := k2.cell z0 (by simp)
        replace z1 := k2.cell z1 (by simp)
        replace z2 := k2.cell z2 (by simp)
        replace z3 := k2.cell z3 (by simp)
        replace z4 := k2.cell z4 (by simp)
        have KE := @hideH _ (KZ.out.then k2)
        clear k2
        have REL := @hideH _ (rowsTo_next2 hh.out.1 HX.out.1 HOK.out (by rw [← HX.out.2]; have := HLT.out; omega))
        have EB := @hideH _ (lastB_next HX.out.1)
        clear hh
        go_wp2
        go_roundw
        case rel => exact ⟨k + 1, by omega, by go_num, by rw [EB.out], REL.out, KE.out⟩
        case measure => simp [intOf]; omega
      · have eQ := @hideH _ (HF.out fun h => hok (h.2.1 x (List.mem_of_getElem? HX.out.1)))
        simp only [bl_f hok] at hr
        clear hok
        go_upto_region 7 with fail
        rw [← hwz]
        clear hwz
        go_wp2_with fail
        refine (hr _).mono ?_
        rintro e w2 ⟨rfl, k2⟩
        clear hr
        have KE := @hideH _ (KZ.out.then k2)
        clear k2
        go_wp2
        go_ret
        exact ⟨by rw [eQ.out]; rfl, KE.out⟩
    · have hkl' : ¬ (k : Int) < (n : Int) := by omega
      obtain rfl : k = n := by omega
      have eQ := @hideH _ (HT.out (by have := HS.out; have e := HN.out; omega) (by rw [← HN.out]; exact hh.out.1))
      have KE := @hideH _ hh.out.2
      clear hh
      go_wp2
      go_ret
      exact ⟨by rw [eQ.out]; rfl, KE.out⟩
set_option maxRecDepth 20000 in
set_option maxHeartbeats 6400000 in
theorem qDirty (v : Value) (l : List RecR) (w : World) (h : Cs w 2 v l.length (dcells l)) : Calls Try.prog 48 #[v] w fun e w' => e = .returned (.bool (bl (dirtyOk l))) ∧ Kept [] w w' := by
  obtain ⟨Q, hQ⟩ : ∃ Q, Q = bl (dirtyOk l) := ⟨_, rfl⟩
  rw [← hQ]
  have HF := @hideH _ (show ¬ dirtyOk l → Q = false from fun h => by rw [hQ]; exact bl_f h)
  have HT := @hideH _ (show l.length ≤ 16 → recsTo l l.length → Q = true from fun h1 h2 => by rw [hQ]; exact bl_t ⟨h1, h2.all⟩)
  clear hQ
  have HC := @hideH _ h
  obtain ⟨-, -, p, c, rfl, -⟩ := h
  obtain ⟨n, hn⟩ : ∃ n, n = l.length := ⟨_, rfl⟩
  rw [← hn]
  have HN := @hideH _ hn
  clear hn
  by_cases h8 : (16 : Int) < (n : Int)
  · have eQ := @hideH _ (HF.out fun h => by have := h.1; have e := HN.out; omega)
    go_enter Try.func48, Try.ntmps48
    go_wp2
    go_ret
    exact ⟨by rw [eQ.out]; rfl, Kept.refl [] _⟩
  have HS := @hideH _ (show n ≤ 16 by omega)
  go_enter Try.func48, Try.ntmps48
  go_wp2
  go_loopw [3, 5, 11] (fun vb vp vi wr => ∃ k : Nat, k ≤ n ∧ vi = .int .i64 k ∧ vb = .int .i64 (lastP l k) ∧ Hid (recsTo l k ∧ Kept [] w wr)) (fun _ _ vi _ => n - (intOf vi).toNat)
  case atStart => exact ⟨0, Nat.zero_le _, rfl, rfl, ⟨fun i x hi => by omega, fun i x y hi => by omega⟩, Kept.refl [] _⟩
  case round =>
    obtain ⟨k, hk, rfl, rfl, hh⟩ := hrel
    by_cases hkl : k < n
    · have hkl' : (k : Int) < (n : Int) := by omega
      have hk0 : (0 : Int) ≤ (k : Int) := by omega
      have wk : IntKind.i64.wrap ((k : Int) + 1) = (k : Int) + 1 := wrap_i64_of (by omega) (by have := HS.out; omega)
      obtain ⟨x, hx⟩ : ∃ x, l[k]? = some x := ⟨_, List.getElem?_eq_getElem (by have := HN.out; omega)⟩
      obtain ⟨b, o, c', ev, hc⟩ := (HC.out.kept hh.out.2).recAt (by have := HN.out; omega)
      simp only [Value.slice.injEq] at ev
      obtain ⟨rfl, -, rfl⟩ := ev
      obtain ⟨x0, x1⟩ := hc k x hx
      obtain ⟨B, hB⟩ : ∃ B, B = lastP l k := ⟨_, rfl⟩
      rw [← hB]
      have HX := @hideH _ (And.intro hx hB)
      obtain ⟨wz, hwz⟩ : ∃ wz, wz = wr.alloc (.cells #[.int .i64 x.page, .int .i64 x.lsn] 68) := ⟨_, rfl⟩
      have kz : Kept [] wr wz := by rw [hwz]; exact (Kept.refl [] wr).alloc _
      have bz : Blk wz wr.heap.size 68 [.int .i64 x.page, .int .i64 x.lsn] := by rw [hwz]; exact Blk.new wr _ _
      have z0 := bz.cell (j := 0) rfl
      have z1 := bz.cell (j := 1) rfl
      have KZ := @hideH _ (hh.out.2.then kz)
      clear hx hB hc bz kz
      by_cases hlt : x.page ≤ B
      · have eQ := @hideH _ (HF.out (lastP_bad HX.out.1 (by rw [← HX.out.2]; exact hlt)))
        have KE := KZ
        go_upto_region 7 with fail
        rw [← hwz]
        clear hwz
        go_wp2
        go_ret
        exact ⟨by rw [eQ.out]; rfl, KE.out⟩
      have HLT := @hideH _ hlt
      have KE := KZ
      have hp := fun w => pIsPage x.page w
      have hl := fun w => pIsLsn x.lsn w
      by_cases hpg : pageOk x.page
      · simp only [bl_t hpg] at hp
        by_cases hls : lsnOk x.lsn
        · have HOK := @hideH _ (show recOk x from ⟨hpg, hls⟩)
          simp only [bl_t hls] at hl
          clear hpg hls
          go_upto_region 7 with fail
          rw [← hwz]
          clear hwz
          go_wp2_with fail
          refine (hp _).mono ?_
          rintro e w2 ⟨rfl, rfl⟩
          go_wp2_with fail
          refine (hl _).mono ?_
          rintro e w2 ⟨rfl, rfl⟩
          clear hp hl
          have REL := @hideH _ (recsTo_next2 hh.out.1 HX.out.1 HOK.out (by rw [← HX.out.2]; have := HLT.out; omega))
          have EB := @hideH _ (lastP_next HX.out.1)
          clear hh
          go_wp2
          go_roundw
          case rel => exact ⟨k + 1, by omega, by go_num, by rw [EB.out], REL.out, KE.out⟩
          case measure => simp [intOf]; omega
        · have eQ := @hideH _ (HF.out fun h => hls (h.2.1 x (List.mem_of_getElem? HX.out.1)).2)
          simp only [bl_f hls] at hl
          clear hpg hls
          go_upto_region 7 with fail
          rw [← hwz]
          clear hwz
          go_wp2_with fail
          refine (hp _).mono ?_
          rintro e w2 ⟨rfl, rfl⟩
          go_wp2_with fail
          refine (hl _).mono ?_
          rintro e w2 ⟨rfl, rfl⟩
          clear hp hl
          go_wp2
          go_ret
          exact ⟨by rw [eQ.out]; rfl, KE.out⟩
      · have eQ := @hideH _ (HF.out fun h => hpg (h.2.1 x (List.mem_of_getElem? HX.out.1)).1)
        simp only [bl_f hpg] at hp
        clear hpg
        go_upto_region 7 with fail
        rw [← hwz]
        clear hwz
        go_wp2_with fail
        refine (hp _).mono ?_
        rintro e w2 ⟨rfl, rfl⟩
        clear hp hl
        go_wp2
        go_ret
        exact ⟨by rw [eQ.out]; rfl, KE.out⟩
    · have hkl' : ¬ (k : Int) < (n : Int) := by omega
      obtain rfl : k = n := by omega
      have eQ := @hideH _ (HT.out (by have := HS.out; have e := HN.out; omega) (by rw [← HN.out]; exact hh.out.1))
      have KE := @hideH _ hh.out.2
      clear hh
      go_wp2
      go_ret
      exact ⟨by rw [eQ.out]; rfl, KE.out⟩
end Go.Proofs.Ytebcmcmboomgfaa

/-
  OWN WORK (by mkpr4.py). record: tableBytes, dirtyBytes.
-/
namespace Go.Proofs.Ytebcmcmboomgfaa
open Go.RowKit
set_option linter.unusedVariables false
set_option linter.unusedSimpArgs false


theorem flatB_tk {α : Type} (f : α → List UInt8) : ∀ (l : List α) (k : Nat) (x : α), l[k]? = some x → flatB f (l.take (k + 1)) = flatB f (l.take k) ++ f x
  | [], k, x, h => by simp at h
  | a :: r, 0, x, h => by simp at h; subst h; simp [flatB]
  | a :: r, k + 1, x, h => by
    have := flatB_tk f r k x (by simpa using h)
    simp only [List.take_succ_cons, flatB, List.append_assoc]
    rw [this]
theorem flatB_len {α : Type} (f : α → List UInt8) (n : Nat) : ∀ (l : List α), (∀ x ∈ l, (f x).length = n) → (flatB f l).length = n * l.length
  | [], _ => by simp [flatB]
  | a :: r, h => by
    rw [flatB, List.length_append, h a (by simp), flatB_len f n r (fun x hx => h x (by simp [hx]))]
    simp [Nat.mul_add]; omega
theorem rowB_len (x : RowR) : (rowB x).length = 26 := by simp [rowB, putN_length]
theorem recB_len (x : RecR) : (recB x).length = 9 := by simp [recB, putN_length]

set_option maxRecDepth 20000 in
set_option maxHeartbeats 6400000 in
theorem qTableB (v : Value) (l : List RowR) (w : World) (h : Cs w 5 v l.length (rcells l)) (hok : tableOk l) : Calls Try.prog 52 #[v] w fun e w' => ∃ u, e = .returned u ∧ Acc w w' u (putN 1 l.length ++ flatB rowB l) := by
  have HOK := @hideH _ hok
  have HC := @hideH _ h
  obtain ⟨-, -, p, c, rfl, -⟩ := h
  have hone := fun w => qOne (l.length : Int) w (by omega) (by have := hok.1; omega)
  rw [Int.toNat_natCast] at hone
  obtain ⟨Z, hZ⟩ : ∃ Z, Z = putN 1 l.length ++ flatB rowB l := ⟨_, rfl⟩
  rw [← hZ]
  have HZ : Hid (∀ k, k ≤ l.length → (putN 1 l.length ++ flatB rowB (l.take k)).length ≤ 500) := (by intro k hk; rw [List.length_append, putN_length, flatB_len rowB 26 _ (fun x _ => rowB_len x), List.length_take]; have := hok.1; omega)
  have HZE := @hideH _ hZ
  clear hZ hok
  obtain ⟨n, hn⟩ : ∃ n, n = l.length := ⟨_, rfl⟩
  rw [← hn] at hone ⊢
  have HN := @hideH _ hn
  clear hn
  go_enter Try.func52, Try.ntmps52
  go_wp2_with fail
  refine (hone _).mono ?_
  rintro e w0 ⟨u0, rfl, a0⟩
  clear hone
  go_wp2
  go_loopw [3, 5, 11] (fun vb vp vi wr => ∃ k : Nat, k ≤ n ∧ vi = .int .i64 k ∧ Hid (Acc w wr vb (putN 1 n ++ flatB rowB (l.take k)))) (fun _ _ vi _ => n - (intOf vi).toNat)
  case atStart => exact ⟨0, Nat.zero_le _, rfl, by simpa [flatB, Hid] using a0⟩
  case round =>
    clear a0
    obtain ⟨k, hk, rfl, hh⟩ := hrel
    by_cases hkl : k < n
    · have hkl' : (k : Int) < (n : Int) := by omega
      have hk0 : (0 : Int) ≤ (k : Int) := by omega
      have wk : IntKind.i64.wrap ((k : Int) + 1) = (k : Int) + 1 := wrap_i64_of (by omega) (by have := HOK.out.1; have e := HN.out; omega)
      obtain ⟨x, hx⟩ : ∃ x, l[k]? = some x := ⟨_, List.getElem?_eq_getElem (by have := HN.out; omega)⟩
      obtain ⟨b, o, c', ev, hc⟩ := (HC.out.kept hh.out.2).rowAt (by have := HN.out; omega)
      simp only [Value.slice.injEq] at ev
      obtain ⟨rfl, -, rfl⟩ := ev
      obtain ⟨x0, x1, x2, x3, x4⟩ := hc k x hx
      have xok := HOK.out.2.1 x (List.mem_of_getElem? hx)
      have d1 := fun w => qEight x.birth w (by have := xok.1.1; omega) xok.1.2
      have d2 := fun w => qOne x.id w (by have := xok.2.1.1; omega) (by have := xok.2.1.2; omega)
      have d3 := fun w => qOne x.state w (by rcases xok.2.2.1 with q | q <;> omega) (by rcases xok.2.2.1 with q | q <;> omega)
      have d4 := fun w => qEight x.last w (by have := xok.2.2.2.1.1; omega) xok.2.2.2.1.2
      have d5 := fun w => qEight x.next w xok.2.2.2.2.1 xok.2.2.2.2.2
      have EX := @hideH _ (flatB_tk rowB l k x hx)
      have HL := @hideH _ (HZ.out k (by have := HN.out; omega))
      rw [← HN.out] at HL
      obtain ⟨pu, cu, rfl⟩ := own_shape2 hh.out.1
      obtain ⟨A, hA⟩ : ∃ A, A = putN 1 n ++ flatB rowB (l.take k) := ⟨_, rfl⟩
      rw [← hA] at hh HL ⊢
      have HAE := @hideH _ hA
      clear hA
      generalize hna : A.length = na at hh HL ⊢
      have HNA := @hideH _ hna
      clear hna
      obtain ⟨wz, hwz⟩ : ∃ wz, wz = wr.alloc (.cells #[.int .i64 x.birth, .int .i64 x.id, .int .i64 x.state, .int .i64 x.last, .int .i64 x.next] 66) := ⟨_, rfl⟩
      have kz : Kept [] wr wz := by rw [hwz]; exact (Kept.refl [] wr).alloc _
      have bz : Blk wz wr.heap.size 66 [.int .i64 x.birth, .int .i64 x.id, .int .i64 x.state, .int .i64 x.last, .int .i64 x.next] := by rw [hwz]; exact Blk.new wr _ _
      have z0 := bz.cell (j := 0) rfl
      have z1 := bz.cell (j := 1) rfl
      have z2 := bz.cell (j := 2) rfl
      have z3 := bz.cell (j := 3) rfl
      have z4 := bz.cell (j := 4) rfl
      have HACC := @hideH _ (hh.out.then kz)
      clear hx hc bz kz hh xok
      have kx : Kept [] wz wz.drew := (Kept.refl [] wz).drew
      have t1 : True := trivial
      have t2 : True := trivial
      have t3 : True := trivial
      go_upto_region 5 with fail
      rw [← hwz]
      clear hwz
      go_region_held3 (fun w' => w'.cell? ⟨wr.heap.size, 0, none⟩ = some (.int .i64 x.birth) ∧ w'.cell? ⟨wr.heap.size, 1, none⟩ = some (.int .i64 x.id) ∧ w'.cell? ⟨wr.heap.size, 2, none⟩ = some (.int .i64 x.state) ∧ w'.cell? ⟨wr.heap.size, 3, none⟩ = some (.int .i64 x.last) ∧ w'.cell? ⟨wr.heap.size, 4, none⟩ = some (.int .i64 x.next))
        (first | (with_reducible exact ⟨kx.cell z0 (by simp), kx.cell z1 (by simp), kx.cell z2 (by simp), kx.cell z3 (by simp), kx.cell z4 (by simp)⟩) | (with_reducible exact ⟨(kx.alloc _).cell z0 (by simp), (kx.alloc _).cell z1 (by simp), (kx.alloc _).cell z2 (by simp), (kx.alloc _).cell z3 (by simp), (kx.alloc _).cell z4 (by simp)⟩) | fail)
        (first
          | (go_at_call 30; clear t1; refine (d1 _).mono ?_; rintro e w1 ⟨u1, rfl, a1⟩; obtain ⟨p1, q1, rfl⟩ := own_shape2 a1.1; replace kx := kx.then a1.2)
          | (go_at_call 29; clear t2; refine (d2 _).mono ?_; rintro e w2 ⟨u2, rfl, a2⟩; obtain ⟨p2, q2, rfl⟩ := own_shape2 a2.1; replace kx := kx.then a2.2)
          | (go_at_call 29; refine (d3 _).mono ?_; rintro e w3 ⟨u3, rfl, a3⟩; obtain ⟨p3, q3, rfl⟩ := own_shape2 a3.1; replace kx := kx.then a3.2)
          | (go_at_call 30; clear t3; refine (d4 _).mono ?_; rintro e w4 ⟨u4, rfl, a4⟩; obtain ⟨p4, q4, rfl⟩ := own_shape2 a4.1; replace kx := kx.then a4.2)
          | (go_at_call 30; refine (d5 _).mono ?_; rintro e w5 ⟨u5, rfl, a5⟩; obtain ⟨p5, q5, rfl⟩ := own_shape2 a5.1; replace kx := kx.then a5.2)
          | (go_at_call 28; refine (qJoin _ _ _ (Bss.lit6 w5 _ _ _ _ _ _ _ _ _ _ _ _ _ (HACC.out.then kx).bs ((((a1.then a2.2).then a3.2).then a4.2).then a5.2).bs (((a2.then a3.2).then a4.2).then a5.2).bs ((a3.then a4.2).then a5.2).bs (a4.then a5.2).bs a5.bs _ rfl) (by rw [flat6]; simp [putN_length]; have := HL.out; have e := HNA.out; omega)).mono ?_; rintro e wj ⟨uj, rfl, aj⟩; have ky := kx; replace kx := (kx.alloc _).then aj.2)
          | fail)
      have REL := @hideH _ (show Acc w wj uj (putN 1 n ++ flatB rowB (l.take (k + 1))) by rw [EX.out, ← List.append_assoc, ← HAE.out]; have q := aj.low ((HACC.out.2.then ky).alloc _); rw [flat6] at q; exact q)
      clear aj ky kx HACC a1 a2 a3 a4 a5 d1 d2 d3 d4 d5
      go_wp2
      go_roundw
      case rel => exact ⟨k + 1, by omega, by go_num, REL⟩
      case measure => simp [intOf]; omega
    · have hkl' : ¬ (k : Int) < (n : Int) := by omega
      obtain rfl : k = n := by omega
      have REL := @hideH _ (show Acc w wr _ Z by rw [HZE.out, ← HN.out]; have q := hh.out; rw [List.take_of_length_le (by have := HN.out; omega)] at q; exact q)
      clear hh
      go_wp2
      go_ret
      exact ⟨_, rfl, REL.out⟩
set_option maxRecDepth 20000 in
set_option maxHeartbeats 6400000 in
theorem qDirtyB (v : Value) (l : List RecR) (w : World) (h : Cs w 2 v l.length (dcells l)) (hok : dirtyOk l) : Calls Try.prog 53 #[v] w fun e w' => ∃ u, e = .returned u ∧ Acc w w' u (putN 1 l.length ++ flatB recB l) := by
  have HOK := @hideH _ hok
  have HC := @hideH _ h
  obtain ⟨-, -, p, c, rfl, -⟩ := h
  have hone := fun w => qOne (l.length : Int) w (by omega) (by have := hok.1; omega)
  rw [Int.toNat_natCast] at hone
  obtain ⟨Z, hZ⟩ : ∃ Z, Z = putN 1 l.length ++ flatB recB l := ⟨_, rfl⟩
  rw [← hZ]
  have HZ : Hid (∀ k, k ≤ l.length → (putN 1 l.length ++ flatB recB (l.take k)).length ≤ 500) := (by intro k hk; rw [List.length_append, putN_length, flatB_len recB 9 _ (fun x _ => recB_len x), List.length_take]; have := hok.1; omega)
  have HZE := @hideH _ hZ
  clear hZ hok
  obtain ⟨n, hn⟩ : ∃ n, n = l.length := ⟨_, rfl⟩
  rw [← hn] at hone ⊢
  have HN := @hideH _ hn
  clear hn
  go_enter Try.func53, Try.ntmps53
  go_wp2_with fail
  refine (hone _).mono ?_
  rintro e w0 ⟨u0, rfl, a0⟩
  clear hone
  go_wp2
  go_loopw [3, 5, 11] (fun vb vp vi wr => ∃ k : Nat, k ≤ n ∧ vi = .int .i64 k ∧ Hid (Acc w wr vb (putN 1 n ++ flatB recB (l.take k)))) (fun _ _ vi _ => n - (intOf vi).toNat)
  case atStart => exact ⟨0, Nat.zero_le _, rfl, by simpa [flatB, Hid] using a0⟩
  case round =>
    clear a0
    obtain ⟨k, hk, rfl, hh⟩ := hrel
    by_cases hkl : k < n
    · have hkl' : (k : Int) < (n : Int) := by omega
      have hk0 : (0 : Int) ≤ (k : Int) := by omega
      have wk : IntKind.i64.wrap ((k : Int) + 1) = (k : Int) + 1 := wrap_i64_of (by omega) (by have := HOK.out.1; have e := HN.out; omega)
      obtain ⟨x, hx⟩ : ∃ x, l[k]? = some x := ⟨_, List.getElem?_eq_getElem (by have := HN.out; omega)⟩
      obtain ⟨b, o, c', ev, hc⟩ := (HC.out.kept hh.out.2).recAt (by have := HN.out; omega)
      simp only [Value.slice.injEq] at ev
      obtain ⟨rfl, -, rfl⟩ := ev
      obtain ⟨x0, x1⟩ := hc k x hx
      have xok := HOK.out.2.1 x (List.mem_of_getElem? hx)
      have d1 := fun w => qOne x.page w xok.1.1 (by have := xok.1.2; omega)
      have d2 := fun w => qEight x.lsn w (by have := xok.2.1; omega) xok.2.2
      have EX := @hideH _ (flatB_tk recB l k x hx)
      have HL := @hideH _ (HZ.out k (by have := HN.out; omega))
      rw [← HN.out] at HL
      obtain ⟨pu, cu, rfl⟩ := own_shape2 hh.out.1
      obtain ⟨A, hA⟩ : ∃ A, A = putN 1 n ++ flatB recB (l.take k) := ⟨_, rfl⟩
      rw [← hA] at hh HL ⊢
      have HAE := @hideH _ hA
      clear hA
      generalize hna : A.length = na at hh HL ⊢
      have HNA := @hideH _ hna
      clear hna
      obtain ⟨wz, hwz⟩ : ∃ wz, wz = wr.alloc (.cells #[.int .i64 x.page, .int .i64 x.lsn] 68) := ⟨_, rfl⟩
      have kz : Kept [] wr wz := by rw [hwz]; exact (Kept.refl [] wr).alloc _
      have bz : Blk wz wr.heap.size 68 [.int .i64 x.page, .int .i64 x.lsn] := by rw [hwz]; exact Blk.new wr _ _
      have z0 := bz.cell (j := 0) rfl
      have z1 := bz.cell (j := 1) rfl
      have HACC := @hideH _ (hh.out.then kz)
      clear hx hc bz kz hh xok
      have kx : Kept [] wz wz.drew := (Kept.refl [] wz).drew
      have t1 : True := trivial
      have t2 : True := trivial
      have t3 : True := trivial
      go_upto_region 5 with fail
      rw [← hwz]
      clear hwz
      go_region_held3 (fun w' => w'.cell? ⟨wr.heap.size, 0, none⟩ = some (.int .i64 x.page) ∧ w'.cell? ⟨wr.heap.size, 1, none⟩ = some (.int .i64 x.lsn))
        (first | (with_reducible exact ⟨kx.cell z0 (by simp), kx.cell z1 (by simp)⟩) | (with_reducible exact ⟨(kx.alloc _).cell z0 (by simp), (kx.alloc _).cell z1 (by simp)⟩) | fail)
        (first
          | (go_at_call 29; refine (d1 _).mono ?_; rintro e w1 ⟨u1, rfl, a1⟩; obtain ⟨p1, q1, rfl⟩ := own_shape2 a1.1; replace kx := kx.then a1.2)
          | (go_at_call 30; refine (d2 _).mono ?_; rintro e w2 ⟨u2, rfl, a2⟩; obtain ⟨p2, q2, rfl⟩ := own_shape2 a2.1; replace kx := kx.then a2.2)
          | (go_at_call 28; refine (qJoin _ _ _ (Bss.lit3 w2 _ _ _ _ _ _ _ (HACC.out.then kx).bs (a1.then a2.2).bs a2.bs _ rfl) (by rw [flat3]; simp [putN_length]; have := HL.out; have e := HNA.out; omega)).mono ?_; rintro e wj ⟨uj, rfl, aj⟩; have ky := kx; replace kx := (kx.alloc _).then aj.2)
          | fail)
      have REL := @hideH _ (show Acc w wj uj (putN 1 n ++ flatB recB (l.take (k + 1))) by rw [EX.out, ← List.append_assoc, ← HAE.out]; have q := aj.low ((HACC.out.2.then ky).alloc _); rw [flat3] at q; exact q)
      clear aj ky kx HACC a1 a2 d1 d2
      go_wp2
      go_roundw
      case rel => exact ⟨k + 1, by omega, by go_num, REL⟩
      case measure => simp [intOf]; omega
    · have hkl' : ¬ (k : Int) < (n : Int) := by omega
      obtain rfl : k = n := by omega
      have REL := @hideH _ (show Acc w wr _ Z by rw [HZE.out, ← HN.out]; have q := hh.out; rw [List.take_of_length_le (by have := HN.out; omega)] at q; exact q)
      clear hh
      go_wp2
      go_ret
      exact ⟨_, rfl, REL.out⟩
end Go.Proofs.Ytebcmcmboomgfaa

/-
  OWN WORK (by mkpr.py). record: isBlank, isRange.
-/
namespace Go.Proofs.Ytebcmcmboomgfaa
open Go.RowKit
set_option linter.unusedVariables false
set_option linter.unusedSimpArgs false

set_option maxRecDepth 20000 in
set_option maxHeartbeats 6400000 in
theorem pBlank (kind birth prev id page frm next : Int) (pb pa pr pd : Option Addr) (nb cb na ca nr cr nd cd : Nat) (w : World) : Calls Try.prog 41 #[.agg #[.int .i64 kind, .int .i64 birth, .int .i64 prev, .int .i64 id, .int .i64 page, .int .i64 frm, .slice pb nb cb, .slice pa na ca, .int .i64 next, .slice pr nr cr, .slice pd nd cd]] w fun e w' => e = .returned (.bool (decide (birth = 0 ∧ prev = 0 ∧ id = 0 ∧ page = 0 ∧ frm = 0 ∧ next = 0 ∧ nb = 0 ∧ na = 0 ∧ nr = 0 ∧ nd = 0))) ∧ Kept [] w w' := by
  by_cases h0 : birth = 0
  · subst h0
    by_cases h1 : prev = 0
    · subst h1
      by_cases h2 : id = 0
      · subst h2
        by_cases h3 : page = 0
        · subst h3
          by_cases h4 : frm = 0
          · subst h4
            by_cases h5 : next = 0
            · subst h5
              by_cases h6 : nb = 0
              · subst h6
                by_cases h7 : na = 0
                · subst h7
                  by_cases h8 : nr = 0
                  · subst h8
                    by_cases h9 : nd = 0
                    · subst h9
                      rw [show decide ((0 : Int) = 0 ∧ (0 : Int) = 0 ∧ (0 : Int) = 0 ∧ (0 : Int) = 0 ∧ (0 : Int) = 0 ∧ (0 : Int) = 0 ∧ (0 : Nat) = 0 ∧ (0 : Nat) = 0 ∧ (0 : Nat) = 0 ∧ (0 : Nat) = 0) = true from rfl]
                      go_enter Try.func41, Try.ntmps41
                      go_wp2
                      go_ret
                      exact ⟨by simp, (Kept.refl [] w).alloc _⟩
                    · rw [show decide ((0 : Int) = 0 ∧ (0 : Int) = 0 ∧ (0 : Int) = 0 ∧ (0 : Int) = 0 ∧ (0 : Int) = 0 ∧ (0 : Int) = 0 ∧ (0 : Nat) = 0 ∧ (0 : Nat) = 0 ∧ (0 : Nat) = 0 ∧ nd = 0) = false from decide_eq_false fun h => h9 (by first | exact h.1 | (simp only [true_and] at h; first | exact h.1 | exact h))]
                      have g : ((nd : Int) == 0) = false := by simp [h9]
                      clear h9
                      go_enter Try.func41, Try.ntmps41
                      go_wp2
                      go_ret
                      exact ⟨by simp, (Kept.refl [] w).alloc _⟩
                  · rw [show decide ((0 : Int) = 0 ∧ (0 : Int) = 0 ∧ (0 : Int) = 0 ∧ (0 : Int) = 0 ∧ (0 : Int) = 0 ∧ (0 : Int) = 0 ∧ (0 : Nat) = 0 ∧ (0 : Nat) = 0 ∧ nr = 0 ∧ nd = 0) = false from decide_eq_false fun h => h8 (by first | exact h.1 | (simp only [true_and] at h; first | exact h.1 | exact h))]
                    have g : ((nr : Int) == 0) = false := by simp [h8]
                    clear h8
                    go_enter Try.func41, Try.ntmps41
                    go_wp2
                    go_ret
                    exact ⟨by simp, (Kept.refl [] w).alloc _⟩
                · rw [show decide ((0 : Int) = 0 ∧ (0 : Int) = 0 ∧ (0 : Int) = 0 ∧ (0 : Int) = 0 ∧ (0 : Int) = 0 ∧ (0 : Int) = 0 ∧ (0 : Nat) = 0 ∧ na = 0 ∧ nr = 0 ∧ nd = 0) = false from decide_eq_false fun h => h7 (by first | exact h.1 | (simp only [true_and] at h; first | exact h.1 | exact h))]
                  have g : ((na : Int) == 0) = false := by simp [h7]
                  clear h7
                  go_enter Try.func41, Try.ntmps41
                  go_wp2
                  go_ret
                  exact ⟨by simp, (Kept.refl [] w).alloc _⟩
              · rw [show decide ((0 : Int) = 0 ∧ (0 : Int) = 0 ∧ (0 : Int) = 0 ∧ (0 : Int) = 0 ∧ (0 : Int) = 0 ∧ (0 : Int) = 0 ∧ nb = 0 ∧ na = 0 ∧ nr = 0 ∧ nd = 0) = false from decide_eq_false fun h => h6 (by first | exact h.1 | (simp only [true_and] at h; first | exact h.1 | exact h))]
                have g : ((nb : Int) == 0) = false := by simp [h6]
                clear h6
                go_enter Try.func41, Try.ntmps41
                go_wp2
                go_ret
                exact ⟨by simp, (Kept.refl [] w).alloc _⟩
            · rw [show decide ((0 : Int) = 0 ∧ (0 : Int) = 0 ∧ (0 : Int) = 0 ∧ (0 : Int) = 0 ∧ (0 : Int) = 0 ∧ next = 0 ∧ nb = 0 ∧ na = 0 ∧ nr = 0 ∧ nd = 0) = false from decide_eq_false fun h => h5 (by first | exact h.1 | (simp only [true_and] at h; first | exact h.1 | exact h))]
              have g : (next == 0) = false := by simp [h5]
              clear h5
              go_enter Try.func41, Try.ntmps41
              go_wp2
              go_ret
              exact ⟨by simp, (Kept.refl [] w).alloc _⟩
          · rw [show decide ((0 : Int) = 0 ∧ (0 : Int) = 0 ∧ (0 : Int) = 0 ∧ (0 : Int) = 0 ∧ frm = 0 ∧ next = 0 ∧ nb = 0 ∧ na = 0 ∧ nr = 0 ∧ nd = 0) = false from decide_eq_false fun h => h4 (by first | exact h.1 | (simp only [true_and] at h; first | exact h.1 | exact h))]
            have g : (frm == 0) = false := by simp [h4]
            clear h4
            go_enter Try.func41, Try.ntmps41
            go_wp2
            go_ret
            exact ⟨by simp, (Kept.refl [] w).alloc _⟩
        · rw [show decide ((0 : Int) = 0 ∧ (0 : Int) = 0 ∧ (0 : Int) = 0 ∧ page = 0 ∧ frm = 0 ∧ next = 0 ∧ nb = 0 ∧ na = 0 ∧ nr = 0 ∧ nd = 0) = false from decide_eq_false fun h => h3 (by first | exact h.1 | (simp only [true_and] at h; first | exact h.1 | exact h))]
          have g : (page == 0) = false := by simp [h3]
          clear h3
          go_enter Try.func41, Try.ntmps41
          go_wp2
          go_ret
          exact ⟨by simp, (Kept.refl [] w).alloc _⟩
      · rw [show decide ((0 : Int) = 0 ∧ (0 : Int) = 0 ∧ id = 0 ∧ page = 0 ∧ frm = 0 ∧ next = 0 ∧ nb = 0 ∧ na = 0 ∧ nr = 0 ∧ nd = 0) = false from decide_eq_false fun h => h2 (by first | exact h.1 | (simp only [true_and] at h; first | exact h.1 | exact h))]
        have g : (id == 0) = false := by simp [h2]
        clear h2
        go_enter Try.func41, Try.ntmps41
        go_wp2
        go_ret
        exact ⟨by simp, (Kept.refl [] w).alloc _⟩
    · rw [show decide ((0 : Int) = 0 ∧ prev = 0 ∧ id = 0 ∧ page = 0 ∧ frm = 0 ∧ next = 0 ∧ nb = 0 ∧ na = 0 ∧ nr = 0 ∧ nd = 0) = false from decide_eq_false fun h => h1 (by first | exact h.1 | (simp only [true_and] at h; first | exact h.1 | exact h))]
      have g : (prev == 0) = false := by simp [h1]
      clear h1
      go_enter Try.func41, Try.ntmps41
      go_wp2
      go_ret
      exact ⟨by simp, (Kept.refl [] w).alloc _⟩
  · rw [show decide (birth = 0 ∧ prev = 0 ∧ id = 0 ∧ page = 0 ∧ frm = 0 ∧ next = 0 ∧ nb = 0 ∧ na = 0 ∧ nr = 0 ∧ nd = 0) = false from decide_eq_false fun h => h0 (by first | exact h.1 | (simp only [true_and] at h; first | exact h.1 | exact h))]
    have g : (birth == 0) = false := by simp [h0]
    clear h0
    go_enter Try.func41, Try.ntmps41
    go_wp2
    go_ret
    exact ⟨by simp, (Kept.refl [] w).alloc _⟩
theorem pBlankB (kind birth prev id page frm next : Int) (pb pa pr pd : Option Addr) (nb cb na ca nr cr nd cd : Nat) (B : Bool) (hB : B = decide (birth = 0 ∧ prev = 0 ∧ id = 0 ∧ page = 0 ∧ frm = 0 ∧ next = 0 ∧ nb = 0 ∧ na = 0 ∧ nr = 0 ∧ nd = 0)) (w : World) : Calls Try.prog 41 #[.agg #[.int .i64 kind, .int .i64 birth, .int .i64 prev, .int .i64 id, .int .i64 page, .int .i64 frm, .slice pb nb cb, .slice pa na ca, .int .i64 next, .slice pr nr cr, .slice pd nd cd]] w fun e w' => e = .returned (.bool B) ∧ Kept [] w w' := by
  rw [hB]
  exact pBlank kind birth prev id page frm next pb pa pr pd nb cb na ca nr cr nd cd w
set_option maxHeartbeats 1600000 in
theorem pRange (V : RV) (r : Rcd) (w : World) (h : SeeR w V r) : Calls Try.prog 44 #[r.agg V] w fun e w' => e = .returned (.bool (bl (rangedOk r))) ∧ Kept [] w w' := by
  obtain ⟨pb, cb, pa, ca, pr, cr, pd, cd, rfl⟩ := h.shapes
  have hal : after_len r.after.length := (by obtain ⟨_, _, e, h1, h2, _⟩ := h.after; cases e; exact Nat.le_trans h1 h2)
  obtain ⟨kind, birth, prev, id, page, frm, before, after, next, rows, dirty⟩ := r
  clear h
  unfold Rcd.agg
  dsimp only at hal ⊢
  obtain ⟨n, hn⟩ : ∃ n, n = after.length := ⟨_, rfl⟩
  have R : rangedOk ⟨kind, birth, prev, id, page, frm, before, after, next, rows, dirty⟩ ↔ (pageOk page ∧ 0 < n ∧ 16 ≤ frm ∧ frm ≤ 144 - (n : Int)) := by rw [hn]; unfold rangedOk pageOk; simp only; omega
  have wn : IntKind.i64.wrap (144 - (n : Int)) = 144 - (n : Int) := wrap_i64_of (by unfold after_len maxLen at hal; omega) (by omega)
  rw [← hn]
  have HN := @hideH _ (And.intro hn hal)
  clear hn hal
  have F : ∀ {P : Prop}, (rangedOk ⟨kind, birth, prev, id, page, frm, before, after, next, rows, dirty⟩ → P) → ¬ P → bl (rangedOk ⟨kind, birth, prev, id, page, frm, before, after, next, rows, dirty⟩) = false := fun h1 h2 => bl_f fun h => h2 (h1 h)
  have hp := fun w => pIsPage page w
  by_cases h1 : pageOk page
  · skip
    by_cases h2 : 0 < n
    · skip
      by_cases h3 : 16 ≤ frm
      · skip
        by_cases h4 : frm ≤ 144 - (n : Int)
        · skip
          rw [bl_t (R.2 ⟨h1, h2, h3, h4⟩)]
          rw [bl_t h1] at hp
          clear F R h1
          have h2' : (0 : Int) < (n : Int) := by omega
          go_enter Try.func44, Try.ntmps44
          go_wp2_with fail
          refine (hp _).mono ?_
          rintro e wq ⟨rfl, rfl⟩
          go_wp2
          go_ret
          exact ⟨by simp <;> omega, (Kept.refl [] w).alloc _⟩
        · rw [F (fun h => (R.1 h).2.2.2) h4]
          rw [bl_t h1] at hp
          clear F R h1
          have h2' : (0 : Int) < (n : Int) := by omega
          go_enter Try.func44, Try.ntmps44
          go_wp2_with fail
          refine (hp _).mono ?_
          rintro e wq ⟨rfl, rfl⟩
          go_wp2
          go_ret
          exact ⟨by simp <;> omega, (Kept.refl [] w).alloc _⟩
      · rw [F (fun h => (R.1 h).2.2.1) h3]
        rw [bl_t h1] at hp
        clear F R h1
        have h2' : (0 : Int) < (n : Int) := by omega
        go_enter Try.func44, Try.ntmps44
        go_wp2_with fail
        refine (hp _).mono ?_
        rintro e wq ⟨rfl, rfl⟩
        go_wp2
        go_ret
        exact ⟨by simp <;> omega, (Kept.refl [] w).alloc _⟩
    · rw [F (fun h => (R.1 h).2.1) h2]
      rw [bl_t h1] at hp
      clear F R h1
      have h2' : ¬ (0 : Int) < (n : Int) := by omega
      go_enter Try.func44, Try.ntmps44
      go_wp2_with fail
      refine (hp _).mono ?_
      rintro e wq ⟨rfl, rfl⟩
      go_wp2
      go_ret
      exact ⟨by simp <;> omega, (Kept.refl [] w).alloc _⟩
  · rw [F (fun h => (R.1 h).1) h1]
    rw [bl_f h1] at hp
    clear F R h1
    go_enter Try.func44, Try.ntmps44
    go_wp2_with fail
    refine (hp _).mono ?_
    rintro e wq ⟨rfl, rfl⟩
    go_wp2
    go_ret
    exact ⟨by simp <;> omega, (Kept.refl [] w).alloc _⟩
end Go.Proofs.Ytebcmcmboomgfaa

/-
  OWN WORK (by mkpr3.py). record: isRight, kind 1.
-/
namespace Go.Proofs.Ytebcmcmboomgfaa
open Go.RowKit
set_option linter.unusedVariables false
set_option linter.unusedSimpArgs false

set_option maxRecDepth 20000 in
set_option maxHeartbeats 6400000 in
theorem qRight_1 (V : RV) (birth prev id page frm : Int) (before after : List UInt8) (next : Int) (rows : List RowR) (dirty : List RecR) (w : World) (h : SeeR w V (⟨1, birth, prev, id, page, frm, before, after, next, rows, dirty⟩ : Rcd)) : Calls Try.prog 27 #[(⟨1, birth, prev, id, page, frm, before, after, next, rows, dirty⟩ : Rcd).agg V] w fun e w' => e = .returned (.bool (bl (⟨1, birth, prev, id, page, frm, before, after, next, rows, dirty⟩ : Rcd).Right)) ∧ Kept [] w w' := by
  obtain ⟨pb, cb, pa, ca, pr, cr, pd, cd, rfl⟩ := h.shapes
  obtain ⟨B, hB⟩ : ∃ B, B = decide (birth = 0 ∧ prev = 0 ∧ (0 : Int) = 0 ∧ page = 0 ∧ frm = 0 ∧ next = 0 ∧ before.length = 0 ∧ after.length = 0 ∧ rows.length = 0 ∧ dirty.length = 0) := ⟨_, rfl⟩
  have hb := fun wz => pBlankB 1 birth prev 0 page frm next pb pa pr pd before.length cb after.length ca rows.length cr dirty.length cd B hB wz
  have RI : (⟨1, birth, prev, id, page, frm, before, after, next, rows, dirty⟩ : Rcd).Right ↔ B = true ∧ idOk id := by
    have e : (⟨1, birth, prev, id, page, frm, before, after, next, rows, dirty⟩ : Rcd).Right ↔ (birth = 0 ∧ prev = 0) ∧ (1 ≤ id ∧ id ≤ 64) ∧ (rows = [] ∧ dirty = []) ∧ next = 0 ∧ (page = 0 ∧ frm = 0 ∧ after = []) ∧ before = [] := by unfold Rcd.Right; simp
    rw [e, hB]
    constructor
    · rintro ⟨a0, a1, a2, a3, a4, a5⟩
      exact ⟨decide_eq_true ⟨a0.1, a0.2, rfl, a4.1, a4.2.1, a3, (by rw [a5]; rfl), (by rw [a4.2.2]; rfl), (by rw [a2.1]; rfl), (by rw [a2.2]; rfl)⟩, a1⟩
    · rintro ⟨hd, s0⟩
      have q := of_decide_eq_true hd
      exact ⟨⟨q.1, q.2.1⟩, s0, ⟨List.eq_nil_of_length_eq_zero q.2.2.2.2.2.2.2.2.1, List.eq_nil_of_length_eq_zero q.2.2.2.2.2.2.2.2.2⟩, q.2.2.2.2.2.1, ⟨q.2.2.2.1, q.2.2.2.2.1, List.eq_nil_of_length_eq_zero q.2.2.2.2.2.2.2.1⟩, List.eq_nil_of_length_eq_zero q.2.2.2.2.2.2.1⟩
  clear hB
  have ho := fun wz => pOwned (⟨.slice pb before.length cb, .slice pa after.length ca, .slice pr rows.length cr, .slice pd dirty.length cd⟩ : RV) (⟨1, birth, prev, id, page, frm, before, after, next, rows, dirty⟩ : Rcd) wz
  have hr := fun wz (kz : Kept [] w wz) => pRange _ (⟨1, birth, prev, id, page, frm, before, after, next, rows, dirty⟩ : Rcd) wz (h.kept kz)
  have hp := fun wz (kz : Kept [] w wz) (hn : 0 < after.length) => pParts _ _ before after wz (h.before.kept kz) (h.after.kept kz) hn
  have hn := fun wz => pIsNext next wz
  have hi := fun wz => pIsId id wz
  have ht := fun wz (kz : Kept [] w wz) => qTable _ rows wz (h.rows.kept kz)
  have hd := fun wz (kz : Kept [] w wz) => qDirty _ dirty wz (h.dirty.kept kz)
  clear h
  unfold Rcd.agg at ho hr ⊢
  dsimp only at ho hr hp ht hd ⊢
  obtain ⟨Q, hQ⟩ : ∃ Q, Q = bl (⟨1, birth, prev, id, page, frm, before, after, next, rows, dirty⟩ : Rcd).Right := ⟨_, rfl⟩
  rw [← hQ]
  have HQ := @hideH _ (show (¬ (B = true ∧ idOk id) → Q = false) ∧ ((B = true ∧ idOk id) → Q = true) from ⟨fun h => by rw [hQ]; exact bl_f fun q => h (RI.1 q), fun h => by rw [hQ]; exact bl_t (RI.2 h)⟩)
  clear hQ RI
  clear ho
  clear hr
  clear hp
  clear hn
  clear ht
  clear hd
  obtain ⟨wa, hwa⟩ : ∃ wa, wa = w.alloc (.cells #[.int .i64 1, .int .i64 birth, .int .i64 prev, .int .i64 id, .int .i64 page, .int .i64 frm, .slice pb before.length cb, .slice pa after.length ca, .int .i64 next, .slice pr rows.length cr, .slice pd dirty.length cd] 26) := ⟨_, rfl⟩
  have ba : Blk wa w.heap.size 26 [.int .i64 1, .int .i64 birth, .int .i64 prev, .int .i64 id, .int .i64 page, .int .i64 frm, .slice pb before.length cb, .slice pa after.length ca, .int .i64 next, .slice pr rows.length cr, .slice pd dirty.length cd] := by rw [hwa]; exact Blk.new w _ _
  have ka : Kept [] w wa := by rw [hwa]; exact (Kept.refl [] w).alloc _
  have HA := @hideH _ (And.intro hwa (And.intro ba ka))
  clear hwa ba ka
  go_enter Try.func27, Try.ntmps27
  go_wp2_with fail
  rw [← HA.out.1]
  refine (hb _).mono ?_
  rintro e w1 ⟨rfl, k1⟩
  clear hb
  have b1 := (HA.out.2.1.kept ((Kept.refl [] wa).alloc _) (by simp)).kept k1 (by simp)
  have K1 := (HA.out.2.2.alloc _).then k1
  have c0 := b1.cell (j := 0) rfl
  have c1 := b1.cell (j := 1) rfl
  have c2 := b1.cell (j := 2) rfl
  have c3 := b1.cell (j := 3) rfl
  have c4 := b1.cell (j := 4) rfl
  have c5 := b1.cell (j := 5) rfl
  have c6 := b1.cell (j := 6) rfl
  have c7 := b1.cell (j := 7) rfl
  have c8 := b1.cell (j := 8) rfl
  have c9 := b1.cell (j := 9) rfl
  have c10 := b1.cell (j := 10) rfl
  clear b1 k1
  cases B with
  | false =>
    have eQ := @hideH _ (HQ.out.1 fun h => by cases h.1)
    have KE := @hideH _ K1
    clear K1
    go_wp2
    go_ret
    exact ⟨by rw [eQ.out]; rfl, KE.out⟩
  | true =>
    by_cases g0 : idOk id
    · simp only [bl_t g0] at hi
      have q0 := @hideH _ g0
      clear g0
      go_wp2_with fail
      refine (hi _).mono ?_
      rintro e wq ⟨rfl, rfl⟩
      clear hi
      have eQ := @hideH _ (HQ.out.2 ⟨by trivial, q0.out⟩)
      have KE := @hideH _ K1
      clear K1
      go_wp2
      go_ret
      exact ⟨by rw [eQ.out]; rfl, KE.out⟩
    · simp only [bl_f g0] at hi
      have eQ := @hideH _ (HQ.out.1 fun h => g0 (h.2))
      clear g0
      go_wp2_with fail
      refine (hi _).mono ?_
      rintro e wq ⟨rfl, rfl⟩
      clear hi
      have KE := @hideH _ K1
      clear K1
      go_wp2
      go_ret
      exact ⟨by rw [eQ.out]; rfl, KE.out⟩
end Go.Proofs.Ytebcmcmboomgfaa

/-
  OWN WORK (by mkpr3.py). record: isRight, kind 2.
-/
namespace Go.Proofs.Ytebcmcmboomgfaa
open Go.RowKit
set_option linter.unusedVariables false
set_option linter.unusedSimpArgs false

set_option maxRecDepth 20000 in
set_option maxHeartbeats 6400000 in
theorem qRight_2 (V : RV) (birth prev id page frm : Int) (before after : List UInt8) (next : Int) (rows : List RowR) (dirty : List RecR) (w : World) (h : SeeR w V (⟨2, birth, prev, id, page, frm, before, after, next, rows, dirty⟩ : Rcd)) : Calls Try.prog 27 #[(⟨2, birth, prev, id, page, frm, before, after, next, rows, dirty⟩ : Rcd).agg V] w fun e w' => e = .returned (.bool (bl (⟨2, birth, prev, id, page, frm, before, after, next, rows, dirty⟩ : Rcd).Right)) ∧ Kept [] w w' := by
  obtain ⟨pb, cb, pa, ca, pr, cr, pd, cd, rfl⟩ := h.shapes
  obtain ⟨B, hB⟩ : ∃ B, B = decide ((0 : Int) = 0 ∧ (0 : Int) = 0 ∧ id = 0 ∧ (0 : Int) = 0 ∧ (0 : Int) = 0 ∧ next = 0 ∧ (0 : Nat) = 0 ∧ (0 : Nat) = 0 ∧ rows.length = 0 ∧ dirty.length = 0) := ⟨_, rfl⟩
  have hb := fun wz => pBlankB 2 0 0 id 0 0 next none none pr pd 0 0 0 0 rows.length cr dirty.length cd B hB wz
  have RI : (⟨2, birth, prev, id, page, frm, before, after, next, rows, dirty⟩ : Rcd).Right ↔ B = true ∧ ownedOk (⟨2, birth, prev, id, page, frm, before, after, next, rows, dirty⟩ : Rcd) ∧ rangedOk (⟨2, birth, prev, id, page, frm, before, after, next, rows, dirty⟩ : Rcd) ∧ partsL before after := by
    have e : (⟨2, birth, prev, id, page, frm, before, after, next, rows, dirty⟩ : Rcd).Right ↔ (lsnOk birth ∧ lsnOk prev) ∧ id = 0 ∧ (rows = [] ∧ dirty = []) ∧ next = 0 ∧ rangedOk (⟨2, birth, prev, id, page, frm, before, after, next, rows, dirty⟩ : Rcd) ∧ partsOk (⟨2, birth, prev, id, page, frm, before, after, next, rows, dirty⟩ : Rcd) := by unfold Rcd.Right; simp
    rw [e, hB]
    constructor
    · rintro ⟨a0, a1, a2, a3, a4, a5⟩
      exact ⟨decide_eq_true ⟨rfl, rfl, a1, rfl, rfl, a3, rfl, rfl, (by rw [a2.1]; rfl), (by rw [a2.2]; rfl)⟩, a0, a4, a5⟩
    · rintro ⟨hd, s0, s1, s2⟩
      have q := of_decide_eq_true hd
      exact ⟨s0, q.2.2.1, ⟨List.eq_nil_of_length_eq_zero q.2.2.2.2.2.2.2.2.1, List.eq_nil_of_length_eq_zero q.2.2.2.2.2.2.2.2.2⟩, q.2.2.2.2.2.1, s1, s2⟩
  clear hB
  have ho := fun wz => pOwned (⟨.slice pb before.length cb, .slice pa after.length ca, .slice pr rows.length cr, .slice pd dirty.length cd⟩ : RV) (⟨2, birth, prev, id, page, frm, before, after, next, rows, dirty⟩ : Rcd) wz
  have hr := fun wz (kz : Kept [] w wz) => pRange _ (⟨2, birth, prev, id, page, frm, before, after, next, rows, dirty⟩ : Rcd) wz (h.kept kz)
  have hp := fun wz (kz : Kept [] w wz) (hn : 0 < after.length) => pParts _ _ before after wz (h.before.kept kz) (h.after.kept kz) hn
  have hn := fun wz => pIsNext next wz
  have hi := fun wz => pIsId id wz
  have ht := fun wz (kz : Kept [] w wz) => qTable _ rows wz (h.rows.kept kz)
  have hd := fun wz (kz : Kept [] w wz) => qDirty _ dirty wz (h.dirty.kept kz)
  clear h
  unfold Rcd.agg at ho hr ⊢
  dsimp only at ho hr hp ht hd ⊢
  obtain ⟨Q, hQ⟩ : ∃ Q, Q = bl (⟨2, birth, prev, id, page, frm, before, after, next, rows, dirty⟩ : Rcd).Right := ⟨_, rfl⟩
  rw [← hQ]
  have HQ := @hideH _ (show (¬ (B = true ∧ ownedOk (⟨2, birth, prev, id, page, frm, before, after, next, rows, dirty⟩ : Rcd) ∧ rangedOk (⟨2, birth, prev, id, page, frm, before, after, next, rows, dirty⟩ : Rcd) ∧ partsL before after) → Q = false) ∧ ((B = true ∧ ownedOk (⟨2, birth, prev, id, page, frm, before, after, next, rows, dirty⟩ : Rcd) ∧ rangedOk (⟨2, birth, prev, id, page, frm, before, after, next, rows, dirty⟩ : Rcd) ∧ partsL before after) → Q = true) from ⟨fun h => by rw [hQ]; exact bl_f fun q => h (RI.1 q), fun h => by rw [hQ]; exact bl_t (RI.2 h)⟩)
  clear hQ RI
  clear hn
  clear hi
  clear ht
  clear hd
  obtain ⟨wa, hwa⟩ : ∃ wa, wa = w.alloc (.cells #[.int .i64 2, .int .i64 birth, .int .i64 prev, .int .i64 id, .int .i64 page, .int .i64 frm, .slice pb before.length cb, .slice pa after.length ca, .int .i64 next, .slice pr rows.length cr, .slice pd dirty.length cd] 26) := ⟨_, rfl⟩
  have ba : Blk wa w.heap.size 26 [.int .i64 2, .int .i64 birth, .int .i64 prev, .int .i64 id, .int .i64 page, .int .i64 frm, .slice pb before.length cb, .slice pa after.length ca, .int .i64 next, .slice pr rows.length cr, .slice pd dirty.length cd] := by rw [hwa]; exact Blk.new w _ _
  have ka : Kept [] w wa := by rw [hwa]; exact (Kept.refl [] w).alloc _
  have HA := @hideH _ (And.intro hwa (And.intro ba ka))
  clear hwa ba ka
  go_enter Try.func27, Try.ntmps27
  go_wp2_with fail
  rw [← HA.out.1]
  refine (hb _).mono ?_
  rintro e w1 ⟨rfl, k1⟩
  clear hb
  have b1 := (HA.out.2.1.kept ((Kept.refl [] wa).alloc _) (by simp)).kept k1 (by simp)
  have K1 := (HA.out.2.2.alloc _).then k1
  have c0 := b1.cell (j := 0) rfl
  have c1 := b1.cell (j := 1) rfl
  have c2 := b1.cell (j := 2) rfl
  have c3 := b1.cell (j := 3) rfl
  have c4 := b1.cell (j := 4) rfl
  have c5 := b1.cell (j := 5) rfl
  have c6 := b1.cell (j := 6) rfl
  have c7 := b1.cell (j := 7) rfl
  have c8 := b1.cell (j := 8) rfl
  have c9 := b1.cell (j := 9) rfl
  have c10 := b1.cell (j := 10) rfl
  clear b1 k1
  cases B with
  | false =>
    have eQ := @hideH _ (HQ.out.1 fun h => by cases h.1)
    have KE := @hideH _ K1
    clear K1
    go_wp2
    go_ret
    exact ⟨by rw [eQ.out]; rfl, KE.out⟩
  | true =>
    by_cases g0 : ownedOk (⟨2, birth, prev, id, page, frm, before, after, next, rows, dirty⟩ : Rcd)
    · simp only [bl_t g0] at ho
      have q0 := @hideH _ g0
      clear g0
      go_wp2_with fail
      refine (ho _).mono ?_
      rintro e w2 ⟨rfl, kn⟩
      clear ho
      replace c0 := kn.cell c0 (by simp)
      replace c1 := kn.cell c1 (by simp)
      replace c2 := kn.cell c2 (by simp)
      replace c3 := kn.cell c3 (by simp)
      replace c4 := kn.cell c4 (by simp)
      replace c5 := kn.cell c5 (by simp)
      replace c6 := kn.cell c6 (by simp)
      replace c7 := kn.cell c7 (by simp)
      replace c8 := kn.cell c8 (by simp)
      replace c9 := kn.cell c9 (by simp)
      replace c10 := kn.cell c10 (by simp)
      have K2 := K1.then kn
      clear kn K1
      by_cases g1 : rangedOk (⟨2, birth, prev, id, page, frm, before, after, next, rows, dirty⟩ : Rcd)
      · simp only [bl_t g1] at hr
        have q1 := @hideH _ g1
        clear g1
        go_wp2_with fail
        refine (hr _ K2).mono ?_
        rintro e w3 ⟨rfl, kn⟩
        clear hr
        replace c0 := kn.cell c0 (by simp)
        replace c1 := kn.cell c1 (by simp)
        replace c2 := kn.cell c2 (by simp)
        replace c3 := kn.cell c3 (by simp)
        replace c4 := kn.cell c4 (by simp)
        replace c5 := kn.cell c5 (by simp)
        replace c6 := kn.cell c6 (by simp)
        replace c7 := kn.cell c7 (by simp)
        replace c8 := kn.cell c8 (by simp)
        replace c9 := kn.cell c9 (by simp)
        replace c10 := kn.cell c10 (by simp)
        have K3 := K2.then kn
        clear kn K2
        by_cases g2 : partsL before after
        · simp only [bl_t g2] at hp
          have q2 := @hideH _ g2
          clear g2
          have H1 : 0 < after.length := q1.out.2.1.1
          replace hp := fun wz kz => hp wz kz H1
          clear H1
          go_wp2_with fail
          refine (hp _ K3).mono ?_
          rintro e w4 ⟨rfl, kn⟩
          clear hp
          replace c0 := kn.cell c0 (by simp)
          replace c1 := kn.cell c1 (by simp)
          replace c2 := kn.cell c2 (by simp)
          replace c3 := kn.cell c3 (by simp)
          replace c4 := kn.cell c4 (by simp)
          replace c5 := kn.cell c5 (by simp)
          replace c6 := kn.cell c6 (by simp)
          replace c7 := kn.cell c7 (by simp)
          replace c8 := kn.cell c8 (by simp)
          replace c9 := kn.cell c9 (by simp)
          replace c10 := kn.cell c10 (by simp)
          have K4 := K3.then kn
          clear kn K3
          have eQ := @hideH _ (HQ.out.2 ⟨by trivial, q0.out, q1.out, q2.out⟩)
          have KE := @hideH _ K4
          clear K4
          go_wp2
          go_ret
          exact ⟨by rw [eQ.out]; rfl, KE.out⟩
        · simp only [bl_f g2] at hp
          have eQ := @hideH _ (HQ.out.1 fun h => g2 (h.2.2.2))
          clear g2
          have H1 : 0 < after.length := q1.out.2.1.1
          replace hp := fun wz kz => hp wz kz H1
          clear H1
          go_wp2_with fail
          refine (hp _ K3).mono ?_
          rintro e w4 ⟨rfl, kn⟩
          clear hp
          replace c0 := kn.cell c0 (by simp)
          replace c1 := kn.cell c1 (by simp)
          replace c2 := kn.cell c2 (by simp)
          replace c3 := kn.cell c3 (by simp)
          replace c4 := kn.cell c4 (by simp)
          replace c5 := kn.cell c5 (by simp)
          replace c6 := kn.cell c6 (by simp)
          replace c7 := kn.cell c7 (by simp)
          replace c8 := kn.cell c8 (by simp)
          replace c9 := kn.cell c9 (by simp)
          replace c10 := kn.cell c10 (by simp)
          have K4 := K3.then kn
          clear kn K3
          have KE := @hideH _ K4
          clear K4
          go_wp2
          go_ret
          exact ⟨by rw [eQ.out]; rfl, KE.out⟩
      · simp only [bl_f g1] at hr
        have eQ := @hideH _ (HQ.out.1 fun h => g1 (h.2.2.1))
        clear g1
        go_wp2_with fail
        refine (hr _ K2).mono ?_
        rintro e w3 ⟨rfl, kn⟩
        clear hr
        replace c0 := kn.cell c0 (by simp)
        replace c1 := kn.cell c1 (by simp)
        replace c2 := kn.cell c2 (by simp)
        replace c3 := kn.cell c3 (by simp)
        replace c4 := kn.cell c4 (by simp)
        replace c5 := kn.cell c5 (by simp)
        replace c6 := kn.cell c6 (by simp)
        replace c7 := kn.cell c7 (by simp)
        replace c8 := kn.cell c8 (by simp)
        replace c9 := kn.cell c9 (by simp)
        replace c10 := kn.cell c10 (by simp)
        have K3 := K2.then kn
        clear kn K2
        have KE := @hideH _ K3
        clear K3
        go_wp2
        go_ret
        exact ⟨by rw [eQ.out]; rfl, KE.out⟩
    · simp only [bl_f g0] at ho
      have eQ := @hideH _ (HQ.out.1 fun h => g0 (h.2.1))
      clear g0
      go_wp2_with fail
      refine (ho _).mono ?_
      rintro e w2 ⟨rfl, kn⟩
      clear ho
      replace c0 := kn.cell c0 (by simp)
      replace c1 := kn.cell c1 (by simp)
      replace c2 := kn.cell c2 (by simp)
      replace c3 := kn.cell c3 (by simp)
      replace c4 := kn.cell c4 (by simp)
      replace c5 := kn.cell c5 (by simp)
      replace c6 := kn.cell c6 (by simp)
      replace c7 := kn.cell c7 (by simp)
      replace c8 := kn.cell c8 (by simp)
      replace c9 := kn.cell c9 (by simp)
      replace c10 := kn.cell c10 (by simp)
      have K2 := K1.then kn
      clear kn K1
      have KE := @hideH _ K2
      clear K2
      go_wp2
      go_ret
      exact ⟨by rw [eQ.out]; rfl, KE.out⟩
end Go.Proofs.Ytebcmcmboomgfaa

/-
  OWN WORK (by mkpr3.py). record: isRight, kind 3.
-/
namespace Go.Proofs.Ytebcmcmboomgfaa
open Go.RowKit
set_option linter.unusedVariables false
set_option linter.unusedSimpArgs false

set_option maxRecDepth 20000 in
set_option maxHeartbeats 6400000 in
theorem qRight_3 (V : RV) (birth prev id page frm : Int) (before after : List UInt8) (next : Int) (rows : List RowR) (dirty : List RecR) (w : World) (h : SeeR w V (⟨3, birth, prev, id, page, frm, before, after, next, rows, dirty⟩ : Rcd)) : Calls Try.prog 27 #[(⟨3, birth, prev, id, page, frm, before, after, next, rows, dirty⟩ : Rcd).agg V] w fun e w' => e = .returned (.bool (bl (⟨3, birth, prev, id, page, frm, before, after, next, rows, dirty⟩ : Rcd).Right)) ∧ Kept [] w w' := by
  obtain ⟨pb, cb, pa, ca, pr, cr, pd, cd, rfl⟩ := h.shapes
  obtain ⟨B, hB⟩ : ∃ B, B = decide ((0 : Int) = 0 ∧ (0 : Int) = 0 ∧ id = 0 ∧ (0 : Int) = 0 ∧ (0 : Int) = 0 ∧ (0 : Int) = 0 ∧ before.length = 0 ∧ (0 : Nat) = 0 ∧ rows.length = 0 ∧ dirty.length = 0) := ⟨_, rfl⟩
  have hb := fun wz => pBlankB 3 0 0 id 0 0 0 pb none pr pd before.length cb 0 0 rows.length cr dirty.length cd B hB wz
  have RI : (⟨3, birth, prev, id, page, frm, before, after, next, rows, dirty⟩ : Rcd).Right ↔ B = true ∧ ownedOk (⟨3, birth, prev, id, page, frm, before, after, next, rows, dirty⟩ : Rcd) ∧ rangedOk (⟨3, birth, prev, id, page, frm, before, after, next, rows, dirty⟩ : Rcd) ∧ nextOk next := by
    have e : (⟨3, birth, prev, id, page, frm, before, after, next, rows, dirty⟩ : Rcd).Right ↔ (lsnOk birth ∧ lsnOk prev) ∧ id = 0 ∧ (rows = [] ∧ dirty = []) ∧ nextOk next ∧ rangedOk (⟨3, birth, prev, id, page, frm, before, after, next, rows, dirty⟩ : Rcd) ∧ before = [] := by unfold Rcd.Right; simp
    rw [e, hB]
    constructor
    · rintro ⟨a0, a1, a2, a3, a4, a5⟩
      exact ⟨decide_eq_true ⟨rfl, rfl, a1, rfl, rfl, rfl, (by rw [a5]; rfl), rfl, (by rw [a2.1]; rfl), (by rw [a2.2]; rfl)⟩, a0, a4, a3⟩
    · rintro ⟨hd, s0, s1, s2⟩
      have q := of_decide_eq_true hd
      exact ⟨s0, q.2.2.1, ⟨List.eq_nil_of_length_eq_zero q.2.2.2.2.2.2.2.2.1, List.eq_nil_of_length_eq_zero q.2.2.2.2.2.2.2.2.2⟩, s2, s1, List.eq_nil_of_length_eq_zero q.2.2.2.2.2.2.1⟩
  clear hB
  have ho := fun wz => pOwned (⟨.slice pb before.length cb, .slice pa after.length ca, .slice pr rows.length cr, .slice pd dirty.length cd⟩ : RV) (⟨3, birth, prev, id, page, frm, before, after, next, rows, dirty⟩ : Rcd) wz
  have hr := fun wz (kz : Kept [] w wz) => pRange _ (⟨3, birth, prev, id, page, frm, before, after, next, rows, dirty⟩ : Rcd) wz (h.kept kz)
  have hp := fun wz (kz : Kept [] w wz) (hn : 0 < after.length) => pParts _ _ before after wz (h.before.kept kz) (h.after.kept kz) hn
  have hn := fun wz => pIsNext next wz
  have hi := fun wz => pIsId id wz
  have ht := fun wz (kz : Kept [] w wz) => qTable _ rows wz (h.rows.kept kz)
  have hd := fun wz (kz : Kept [] w wz) => qDirty _ dirty wz (h.dirty.kept kz)
  clear h
  unfold Rcd.agg at ho hr ⊢
  dsimp only at ho hr hp ht hd ⊢
  obtain ⟨Q, hQ⟩ : ∃ Q, Q = bl (⟨3, birth, prev, id, page, frm, before, after, next, rows, dirty⟩ : Rcd).Right := ⟨_, rfl⟩
  rw [← hQ]
  have HQ := @hideH _ (show (¬ (B = true ∧ ownedOk (⟨3, birth, prev, id, page, frm, before, after, next, rows, dirty⟩ : Rcd) ∧ rangedOk (⟨3, birth, prev, id, page, frm, before, after, next, rows, dirty⟩ : Rcd) ∧ nextOk next) → Q = false) ∧ ((B = true ∧ ownedOk (⟨3, birth, prev, id, page, frm, before, after, next, rows, dirty⟩ : Rcd) ∧ rangedOk (⟨3, birth, prev, id, page, frm, before, after, next, rows, dirty⟩ : Rcd) ∧ nextOk next) → Q = true) from ⟨fun h => by rw [hQ]; exact bl_f fun q => h (RI.1 q), fun h => by rw [hQ]; exact bl_t (RI.2 h)⟩)
  clear hQ RI
  clear hp
  clear hi
  clear ht
  clear hd
  obtain ⟨wa, hwa⟩ : ∃ wa, wa = w.alloc (.cells #[.int .i64 3, .int .i64 birth, .int .i64 prev, .int .i64 id, .int .i64 page, .int .i64 frm, .slice pb before.length cb, .slice pa after.length ca, .int .i64 next, .slice pr rows.length cr, .slice pd dirty.length cd] 26) := ⟨_, rfl⟩
  have ba : Blk wa w.heap.size 26 [.int .i64 3, .int .i64 birth, .int .i64 prev, .int .i64 id, .int .i64 page, .int .i64 frm, .slice pb before.length cb, .slice pa after.length ca, .int .i64 next, .slice pr rows.length cr, .slice pd dirty.length cd] := by rw [hwa]; exact Blk.new w _ _
  have ka : Kept [] w wa := by rw [hwa]; exact (Kept.refl [] w).alloc _
  have HA := @hideH _ (And.intro hwa (And.intro ba ka))
  clear hwa ba ka
  go_enter Try.func27, Try.ntmps27
  go_wp2_with fail
  rw [← HA.out.1]
  refine (hb _).mono ?_
  rintro e w1 ⟨rfl, k1⟩
  clear hb
  have b1 := (HA.out.2.1.kept ((Kept.refl [] wa).alloc _) (by simp)).kept k1 (by simp)
  have K1 := (HA.out.2.2.alloc _).then k1
  have c0 := b1.cell (j := 0) rfl
  have c1 := b1.cell (j := 1) rfl
  have c2 := b1.cell (j := 2) rfl
  have c3 := b1.cell (j := 3) rfl
  have c4 := b1.cell (j := 4) rfl
  have c5 := b1.cell (j := 5) rfl
  have c6 := b1.cell (j := 6) rfl
  have c7 := b1.cell (j := 7) rfl
  have c8 := b1.cell (j := 8) rfl
  have c9 := b1.cell (j := 9) rfl
  have c10 := b1.cell (j := 10) rfl
  clear b1 k1
  cases B with
  | false =>
    have eQ := @hideH _ (HQ.out.1 fun h => by cases h.1)
    have KE := @hideH _ K1
    clear K1
    go_wp2
    go_ret
    exact ⟨by rw [eQ.out]; rfl, KE.out⟩
  | true =>
    by_cases g0 : ownedOk (⟨3, birth, prev, id, page, frm, before, after, next, rows, dirty⟩ : Rcd)
    · simp only [bl_t g0] at ho
      have q0 := @hideH _ g0
      clear g0
      go_wp2_with fail
      refine (ho _).mono ?_
      rintro e w2 ⟨rfl, kn⟩
      clear ho
      replace c0 := kn.cell c0 (by simp)
      replace c1 := kn.cell c1 (by simp)
      replace c2 := kn.cell c2 (by simp)
      replace c3 := kn.cell c3 (by simp)
      replace c4 := kn.cell c4 (by simp)
      replace c5 := kn.cell c5 (by simp)
      replace c6 := kn.cell c6 (by simp)
      replace c7 := kn.cell c7 (by simp)
      replace c8 := kn.cell c8 (by simp)
      replace c9 := kn.cell c9 (by simp)
      replace c10 := kn.cell c10 (by simp)
      have K2 := K1.then kn
      clear kn K1
      by_cases g1 : rangedOk (⟨3, birth, prev, id, page, frm, before, after, next, rows, dirty⟩ : Rcd)
      · simp only [bl_t g1] at hr
        have q1 := @hideH _ g1
        clear g1
        go_wp2_with fail
        refine (hr _ K2).mono ?_
        rintro e w3 ⟨rfl, kn⟩
        clear hr
        replace c0 := kn.cell c0 (by simp)
        replace c1 := kn.cell c1 (by simp)
        replace c2 := kn.cell c2 (by simp)
        replace c3 := kn.cell c3 (by simp)
        replace c4 := kn.cell c4 (by simp)
        replace c5 := kn.cell c5 (by simp)
        replace c6 := kn.cell c6 (by simp)
        replace c7 := kn.cell c7 (by simp)
        replace c8 := kn.cell c8 (by simp)
        replace c9 := kn.cell c9 (by simp)
        replace c10 := kn.cell c10 (by simp)
        have K3 := K2.then kn
        clear kn K2
        by_cases g2 : nextOk next
        · simp only [bl_t g2] at hn
          have q2 := @hideH _ g2
          clear g2
          go_wp2_with fail
          refine (hn _).mono ?_
          rintro e wq ⟨rfl, rfl⟩
          clear hn
          have eQ := @hideH _ (HQ.out.2 ⟨by trivial, q0.out, q1.out, q2.out⟩)
          have KE := @hideH _ K3
          clear K3
          go_wp2
          go_ret
          exact ⟨by rw [eQ.out]; rfl, KE.out⟩
        · simp only [bl_f g2] at hn
          have eQ := @hideH _ (HQ.out.1 fun h => g2 (h.2.2.2))
          clear g2
          go_wp2_with fail
          refine (hn _).mono ?_
          rintro e wq ⟨rfl, rfl⟩
          clear hn
          have KE := @hideH _ K3
          clear K3
          go_wp2
          go_ret
          exact ⟨by rw [eQ.out]; rfl, KE.out⟩
      · simp only [bl_f g1] at hr
        have eQ := @hideH _ (HQ.out.1 fun h => g1 (h.2.2.1))
        clear g1
        go_wp2_with fail
        refine (hr _ K2).mono ?_
        rintro e w3 ⟨rfl, kn⟩
        clear hr
        replace c0 := kn.cell c0 (by simp)
        replace c1 := kn.cell c1 (by simp)
        replace c2 := kn.cell c2 (by simp)
        replace c3 := kn.cell c3 (by simp)
        replace c4 := kn.cell c4 (by simp)
        replace c5 := kn.cell c5 (by simp)
        replace c6 := kn.cell c6 (by simp)
        replace c7 := kn.cell c7 (by simp)
        replace c8 := kn.cell c8 (by simp)
        replace c9 := kn.cell c9 (by simp)
        replace c10 := kn.cell c10 (by simp)
        have K3 := K2.then kn
        clear kn K2
        have KE := @hideH _ K3
        clear K3
        go_wp2
        go_ret
        exact ⟨by rw [eQ.out]; rfl, KE.out⟩
    · simp only [bl_f g0] at ho
      have eQ := @hideH _ (HQ.out.1 fun h => g0 (h.2.1))
      clear g0
      go_wp2_with fail
      refine (ho _).mono ?_
      rintro e w2 ⟨rfl, kn⟩
      clear ho
      replace c0 := kn.cell c0 (by simp)
      replace c1 := kn.cell c1 (by simp)
      replace c2 := kn.cell c2 (by simp)
      replace c3 := kn.cell c3 (by simp)
      replace c4 := kn.cell c4 (by simp)
      replace c5 := kn.cell c5 (by simp)
      replace c6 := kn.cell c6 (by simp)
      replace c7 := kn.cell c7 (by simp)
      replace c8 := kn.cell c8 (by simp)
      replace c9 := kn.cell c9 (by simp)
      replace c10 := kn.cell c10 (by simp)
      have K2 := K1.then kn
      clear kn K1
      have KE := @hideH _ K2
      clear K2
      go_wp2
      go_ret
      exact ⟨by rw [eQ.out]; rfl, KE.out⟩
end Go.Proofs.Ytebcmcmboomgfaa

/-
  OWN WORK (by mkpr3.py). record: isRight, kind 4.
-/
namespace Go.Proofs.Ytebcmcmboomgfaa
open Go.RowKit
set_option linter.unusedVariables false
set_option linter.unusedSimpArgs false

set_option maxRecDepth 20000 in
set_option maxHeartbeats 6400000 in
theorem qRight_4 (V : RV) (birth prev id page frm : Int) (before after : List UInt8) (next : Int) (rows : List RowR) (dirty : List RecR) (w : World) (h : SeeR w V (⟨4, birth, prev, id, page, frm, before, after, next, rows, dirty⟩ : Rcd)) : Calls Try.prog 27 #[(⟨4, birth, prev, id, page, frm, before, after, next, rows, dirty⟩ : Rcd).agg V] w fun e w' => e = .returned (.bool (bl (⟨4, birth, prev, id, page, frm, before, after, next, rows, dirty⟩ : Rcd).Right)) ∧ Kept [] w w' := by
  obtain ⟨pb, cb, pa, ca, pr, cr, pd, cd, rfl⟩ := h.shapes
  obtain ⟨B, hB⟩ : ∃ B, B = decide ((0 : Int) = 0 ∧ (0 : Int) = 0 ∧ id = 0 ∧ page = 0 ∧ frm = 0 ∧ next = 0 ∧ before.length = 0 ∧ after.length = 0 ∧ rows.length = 0 ∧ dirty.length = 0) := ⟨_, rfl⟩
  have hb := fun wz => pBlankB 4 0 0 id page frm next pb pa pr pd before.length cb after.length ca rows.length cr dirty.length cd B hB wz
  have RI : (⟨4, birth, prev, id, page, frm, before, after, next, rows, dirty⟩ : Rcd).Right ↔ B = true ∧ ownedOk (⟨4, birth, prev, id, page, frm, before, after, next, rows, dirty⟩ : Rcd) := by
    have e : (⟨4, birth, prev, id, page, frm, before, after, next, rows, dirty⟩ : Rcd).Right ↔ (lsnOk birth ∧ lsnOk prev) ∧ id = 0 ∧ (rows = [] ∧ dirty = []) ∧ next = 0 ∧ (page = 0 ∧ frm = 0 ∧ after = []) ∧ before = [] := by unfold Rcd.Right; simp
    rw [e, hB]
    constructor
    · rintro ⟨a0, a1, a2, a3, a4, a5⟩
      exact ⟨decide_eq_true ⟨rfl, rfl, a1, a4.1, a4.2.1, a3, (by rw [a5]; rfl), (by rw [a4.2.2]; rfl), (by rw [a2.1]; rfl), (by rw [a2.2]; rfl)⟩, a0⟩
    · rintro ⟨hd, s0⟩
      have q := of_decide_eq_true hd
      exact ⟨s0, q.2.2.1, ⟨List.eq_nil_of_length_eq_zero q.2.2.2.2.2.2.2.2.1, List.eq_nil_of_length_eq_zero q.2.2.2.2.2.2.2.2.2⟩, q.2.2.2.2.2.1, ⟨q.2.2.2.1, q.2.2.2.2.1, List.eq_nil_of_length_eq_zero q.2.2.2.2.2.2.2.1⟩, List.eq_nil_of_length_eq_zero q.2.2.2.2.2.2.1⟩
  clear hB
  have ho := fun wz => pOwned (⟨.slice pb before.length cb, .slice pa after.length ca, .slice pr rows.length cr, .slice pd dirty.length cd⟩ : RV) (⟨4, birth, prev, id, page, frm, before, after, next, rows, dirty⟩ : Rcd) wz
  have hr := fun wz (kz : Kept [] w wz) => pRange _ (⟨4, birth, prev, id, page, frm, before, after, next, rows, dirty⟩ : Rcd) wz (h.kept kz)
  have hp := fun wz (kz : Kept [] w wz) (hn : 0 < after.length) => pParts _ _ before after wz (h.before.kept kz) (h.after.kept kz) hn
  have hn := fun wz => pIsNext next wz
  have hi := fun wz => pIsId id wz
  have ht := fun wz (kz : Kept [] w wz) => qTable _ rows wz (h.rows.kept kz)
  have hd := fun wz (kz : Kept [] w wz) => qDirty _ dirty wz (h.dirty.kept kz)
  clear h
  unfold Rcd.agg at ho hr ⊢
  dsimp only at ho hr hp ht hd ⊢
  obtain ⟨Q, hQ⟩ : ∃ Q, Q = bl (⟨4, birth, prev, id, page, frm, before, after, next, rows, dirty⟩ : Rcd).Right := ⟨_, rfl⟩
  rw [← hQ]
  have HQ := @hideH _ (show (¬ (B = true ∧ ownedOk (⟨4, birth, prev, id, page, frm, before, after, next, rows, dirty⟩ : Rcd)) → Q = false) ∧ ((B = true ∧ ownedOk (⟨4, birth, prev, id, page, frm, before, after, next, rows, dirty⟩ : Rcd)) → Q = true) from ⟨fun h => by rw [hQ]; exact bl_f fun q => h (RI.1 q), fun h => by rw [hQ]; exact bl_t (RI.2 h)⟩)
  clear hQ RI
  clear hr
  clear hp
  clear hn
  clear hi
  clear ht
  clear hd
  obtain ⟨wa, hwa⟩ : ∃ wa, wa = w.alloc (.cells #[.int .i64 4, .int .i64 birth, .int .i64 prev, .int .i64 id, .int .i64 page, .int .i64 frm, .slice pb before.length cb, .slice pa after.length ca, .int .i64 next, .slice pr rows.length cr, .slice pd dirty.length cd] 26) := ⟨_, rfl⟩
  have ba : Blk wa w.heap.size 26 [.int .i64 4, .int .i64 birth, .int .i64 prev, .int .i64 id, .int .i64 page, .int .i64 frm, .slice pb before.length cb, .slice pa after.length ca, .int .i64 next, .slice pr rows.length cr, .slice pd dirty.length cd] := by rw [hwa]; exact Blk.new w _ _
  have ka : Kept [] w wa := by rw [hwa]; exact (Kept.refl [] w).alloc _
  have HA := @hideH _ (And.intro hwa (And.intro ba ka))
  clear hwa ba ka
  go_enter Try.func27, Try.ntmps27
  go_wp2_with fail
  rw [← HA.out.1]
  refine (hb _).mono ?_
  rintro e w1 ⟨rfl, k1⟩
  clear hb
  have b1 := (HA.out.2.1.kept ((Kept.refl [] wa).alloc _) (by simp)).kept k1 (by simp)
  have K1 := (HA.out.2.2.alloc _).then k1
  have c0 := b1.cell (j := 0) rfl
  have c1 := b1.cell (j := 1) rfl
  have c2 := b1.cell (j := 2) rfl
  have c3 := b1.cell (j := 3) rfl
  have c4 := b1.cell (j := 4) rfl
  have c5 := b1.cell (j := 5) rfl
  have c6 := b1.cell (j := 6) rfl
  have c7 := b1.cell (j := 7) rfl
  have c8 := b1.cell (j := 8) rfl
  have c9 := b1.cell (j := 9) rfl
  have c10 := b1.cell (j := 10) rfl
  clear b1 k1
  cases B with
  | false =>
    have eQ := @hideH _ (HQ.out.1 fun h => by cases h.1)
    have KE := @hideH _ K1
    clear K1
    go_wp2
    go_ret
    exact ⟨by rw [eQ.out]; rfl, KE.out⟩
  | true =>
    by_cases g0 : ownedOk (⟨4, birth, prev, id, page, frm, before, after, next, rows, dirty⟩ : Rcd)
    · simp only [bl_t g0] at ho
      have q0 := @hideH _ g0
      clear g0
      go_wp2_with fail
      refine (ho _).mono ?_
      rintro e w2 ⟨rfl, kn⟩
      clear ho
      replace c0 := kn.cell c0 (by simp)
      replace c1 := kn.cell c1 (by simp)
      replace c2 := kn.cell c2 (by simp)
      replace c3 := kn.cell c3 (by simp)
      replace c4 := kn.cell c4 (by simp)
      replace c5 := kn.cell c5 (by simp)
      replace c6 := kn.cell c6 (by simp)
      replace c7 := kn.cell c7 (by simp)
      replace c8 := kn.cell c8 (by simp)
      replace c9 := kn.cell c9 (by simp)
      replace c10 := kn.cell c10 (by simp)
      have K2 := K1.then kn
      clear kn K1
      have eQ := @hideH _ (HQ.out.2 ⟨by trivial, q0.out⟩)
      have KE := @hideH _ K2
      clear K2
      go_wp2
      go_ret
      exact ⟨by rw [eQ.out]; rfl, KE.out⟩
    · simp only [bl_f g0] at ho
      have eQ := @hideH _ (HQ.out.1 fun h => g0 (h.2))
      clear g0
      go_wp2_with fail
      refine (ho _).mono ?_
      rintro e w2 ⟨rfl, kn⟩
      clear ho
      replace c0 := kn.cell c0 (by simp)
      replace c1 := kn.cell c1 (by simp)
      replace c2 := kn.cell c2 (by simp)
      replace c3 := kn.cell c3 (by simp)
      replace c4 := kn.cell c4 (by simp)
      replace c5 := kn.cell c5 (by simp)
      replace c6 := kn.cell c6 (by simp)
      replace c7 := kn.cell c7 (by simp)
      replace c8 := kn.cell c8 (by simp)
      replace c9 := kn.cell c9 (by simp)
      replace c10 := kn.cell c10 (by simp)
      have K2 := K1.then kn
      clear kn K1
      have KE := @hideH _ K2
      clear K2
      go_wp2
      go_ret
      exact ⟨by rw [eQ.out]; rfl, KE.out⟩
end Go.Proofs.Ytebcmcmboomgfaa

/-
  OWN WORK (by mkpr3.py). record: isRight, kind 5.
-/
namespace Go.Proofs.Ytebcmcmboomgfaa
open Go.RowKit
set_option linter.unusedVariables false
set_option linter.unusedSimpArgs false

set_option maxRecDepth 20000 in
set_option maxHeartbeats 6400000 in
theorem qRight_5 (V : RV) (birth prev id page frm : Int) (before after : List UInt8) (next : Int) (rows : List RowR) (dirty : List RecR) (w : World) (h : SeeR w V (⟨5, birth, prev, id, page, frm, before, after, next, rows, dirty⟩ : Rcd)) : Calls Try.prog 27 #[(⟨5, birth, prev, id, page, frm, before, after, next, rows, dirty⟩ : Rcd).agg V] w fun e w' => e = .returned (.bool (bl (⟨5, birth, prev, id, page, frm, before, after, next, rows, dirty⟩ : Rcd).Right)) ∧ Kept [] w w' := by
  obtain ⟨pb, cb, pa, ca, pr, cr, pd, cd, rfl⟩ := h.shapes
  obtain ⟨B, hB⟩ : ∃ B, B = decide ((0 : Int) = 0 ∧ (0 : Int) = 0 ∧ id = 0 ∧ page = 0 ∧ frm = 0 ∧ next = 0 ∧ before.length = 0 ∧ after.length = 0 ∧ rows.length = 0 ∧ dirty.length = 0) := ⟨_, rfl⟩
  have hb := fun wz => pBlankB 5 0 0 id page frm next pb pa pr pd before.length cb after.length ca rows.length cr dirty.length cd B hB wz
  have RI : (⟨5, birth, prev, id, page, frm, before, after, next, rows, dirty⟩ : Rcd).Right ↔ B = true ∧ ownedOk (⟨5, birth, prev, id, page, frm, before, after, next, rows, dirty⟩ : Rcd) := by
    have e : (⟨5, birth, prev, id, page, frm, before, after, next, rows, dirty⟩ : Rcd).Right ↔ (lsnOk birth ∧ lsnOk prev) ∧ id = 0 ∧ (rows = [] ∧ dirty = []) ∧ next = 0 ∧ (page = 0 ∧ frm = 0 ∧ after = []) ∧ before = [] := by unfold Rcd.Right; simp
    rw [e, hB]
    constructor
    · rintro ⟨a0, a1, a2, a3, a4, a5⟩
      exact ⟨decide_eq_true ⟨rfl, rfl, a1, a4.1, a4.2.1, a3, (by rw [a5]; rfl), (by rw [a4.2.2]; rfl), (by rw [a2.1]; rfl), (by rw [a2.2]; rfl)⟩, a0⟩
    · rintro ⟨hd, s0⟩
      have q := of_decide_eq_true hd
      exact ⟨s0, q.2.2.1, ⟨List.eq_nil_of_length_eq_zero q.2.2.2.2.2.2.2.2.1, List.eq_nil_of_length_eq_zero q.2.2.2.2.2.2.2.2.2⟩, q.2.2.2.2.2.1, ⟨q.2.2.2.1, q.2.2.2.2.1, List.eq_nil_of_length_eq_zero q.2.2.2.2.2.2.2.1⟩, List.eq_nil_of_length_eq_zero q.2.2.2.2.2.2.1⟩
  clear hB
  have ho := fun wz => pOwned (⟨.slice pb before.length cb, .slice pa after.length ca, .slice pr rows.length cr, .slice pd dirty.length cd⟩ : RV) (⟨5, birth, prev, id, page, frm, before, after, next, rows, dirty⟩ : Rcd) wz
  have hr := fun wz (kz : Kept [] w wz) => pRange _ (⟨5, birth, prev, id, page, frm, before, after, next, rows, dirty⟩ : Rcd) wz (h.kept kz)
  have hp := fun wz (kz : Kept [] w wz) (hn : 0 < after.length) => pParts _ _ before after wz (h.before.kept kz) (h.after.kept kz) hn
  have hn := fun wz => pIsNext next wz
  have hi := fun wz => pIsId id wz
  have ht := fun wz (kz : Kept [] w wz) => qTable _ rows wz (h.rows.kept kz)
  have hd := fun wz (kz : Kept [] w wz) => qDirty _ dirty wz (h.dirty.kept kz)
  clear h
  unfold Rcd.agg at ho hr ⊢
  dsimp only at ho hr hp ht hd ⊢
  obtain ⟨Q, hQ⟩ : ∃ Q, Q = bl (⟨5, birth, prev, id, page, frm, before, after, next, rows, dirty⟩ : Rcd).Right := ⟨_, rfl⟩
  rw [← hQ]
  have HQ := @hideH _ (show (¬ (B = true ∧ ownedOk (⟨5, birth, prev, id, page, frm, before, after, next, rows, dirty⟩ : Rcd)) → Q = false) ∧ ((B = true ∧ ownedOk (⟨5, birth, prev, id, page, frm, before, after, next, rows, dirty⟩ : Rcd)) → Q = true) from ⟨fun h => by rw [hQ]; exact bl_f fun q => h (RI.1 q), fun h => by rw [hQ]; exact bl_t (RI.2 h)⟩)
  clear hQ RI
  clear hr
  clear hp
  clear hn
  clear hi
  clear ht
  clear hd
  obtain ⟨wa, hwa⟩ : ∃ wa, wa = w.alloc (.cells #[.int .i64 5, .int .i64 birth, .int .i64 prev, .int .i64 id, .int .i64 page, .int .i64 frm, .slice pb before.length cb, .slice pa after.length ca, .int .i64 next, .slice pr rows.length cr, .slice pd dirty.length cd] 26) := ⟨_, rfl⟩
  have ba : Blk wa w.heap.size 26 [.int .i64 5, .int .i64 birth, .int .i64 prev, .int .i64 id, .int .i64 page, .int .i64 frm, .slice pb before.length cb, .slice pa after.length ca, .int .i64 next, .slice pr rows.length cr, .slice pd dirty.length cd] := by rw [hwa]; exact Blk.new w _ _
  have ka : Kept [] w wa := by rw [hwa]; exact (Kept.refl [] w).alloc _
  have HA := @hideH _ (And.intro hwa (And.intro ba ka))
  clear hwa ba ka
  go_enter Try.func27, Try.ntmps27
  go_wp2_with fail
  rw [← HA.out.1]
  refine (hb _).mono ?_
  rintro e w1 ⟨rfl, k1⟩
  clear hb
  have b1 := (HA.out.2.1.kept ((Kept.refl [] wa).alloc _) (by simp)).kept k1 (by simp)
  have K1 := (HA.out.2.2.alloc _).then k1
  have c0 := b1.cell (j := 0) rfl
  have c1 := b1.cell (j := 1) rfl
  have c2 := b1.cell (j := 2) rfl
  have c3 := b1.cell (j := 3) rfl
  have c4 := b1.cell (j := 4) rfl
  have c5 := b1.cell (j := 5) rfl
  have c6 := b1.cell (j := 6) rfl
  have c7 := b1.cell (j := 7) rfl
  have c8 := b1.cell (j := 8) rfl
  have c9 := b1.cell (j := 9) rfl
  have c10 := b1.cell (j := 10) rfl
  clear b1 k1
  cases B with
  | false =>
    have eQ := @hideH _ (HQ.out.1 fun h => by cases h.1)
    have KE := @hideH _ K1
    clear K1
    go_wp2
    go_ret
    exact ⟨by rw [eQ.out]; rfl, KE.out⟩
  | true =>
    by_cases g0 : ownedOk (⟨5, birth, prev, id, page, frm, before, after, next, rows, dirty⟩ : Rcd)
    · simp only [bl_t g0] at ho
      have q0 := @hideH _ g0
      clear g0
      go_wp2_with fail
      refine (ho _).mono ?_
      rintro e w2 ⟨rfl, kn⟩
      clear ho
      replace c0 := kn.cell c0 (by simp)
      replace c1 := kn.cell c1 (by simp)
      replace c2 := kn.cell c2 (by simp)
      replace c3 := kn.cell c3 (by simp)
      replace c4 := kn.cell c4 (by simp)
      replace c5 := kn.cell c5 (by simp)
      replace c6 := kn.cell c6 (by simp)
      replace c7 := kn.cell c7 (by simp)
      replace c8 := kn.cell c8 (by simp)
      replace c9 := kn.cell c9 (by simp)
      replace c10 := kn.cell c10 (by simp)
      have K2 := K1.then kn
      clear kn K1
      have eQ := @hideH _ (HQ.out.2 ⟨by trivial, q0.out⟩)
      have KE := @hideH _ K2
      clear K2
      go_wp2
      go_ret
      exact ⟨by rw [eQ.out]; rfl, KE.out⟩
    · simp only [bl_f g0] at ho
      have eQ := @hideH _ (HQ.out.1 fun h => g0 (h.2))
      clear g0
      go_wp2_with fail
      refine (ho _).mono ?_
      rintro e w2 ⟨rfl, kn⟩
      clear ho
      replace c0 := kn.cell c0 (by simp)
      replace c1 := kn.cell c1 (by simp)
      replace c2 := kn.cell c2 (by simp)
      replace c3 := kn.cell c3 (by simp)
      replace c4 := kn.cell c4 (by simp)
      replace c5 := kn.cell c5 (by simp)
      replace c6 := kn.cell c6 (by simp)
      replace c7 := kn.cell c7 (by simp)
      replace c8 := kn.cell c8 (by simp)
      replace c9 := kn.cell c9 (by simp)
      replace c10 := kn.cell c10 (by simp)
      have K2 := K1.then kn
      clear kn K1
      have KE := @hideH _ K2
      clear K2
      go_wp2
      go_ret
      exact ⟨by rw [eQ.out]; rfl, KE.out⟩
end Go.Proofs.Ytebcmcmboomgfaa

/-
  OWN WORK (by mkpr3.py). record: isRight, kind 6.
-/
namespace Go.Proofs.Ytebcmcmboomgfaa
open Go.RowKit
set_option linter.unusedVariables false
set_option linter.unusedSimpArgs false

set_option maxRecDepth 20000 in
set_option maxHeartbeats 6400000 in
theorem qRight_6 (V : RV) (birth prev id page frm : Int) (before after : List UInt8) (next : Int) (rows : List RowR) (dirty : List RecR) (w : World) (h : SeeR w V (⟨6, birth, prev, id, page, frm, before, after, next, rows, dirty⟩ : Rcd)) : Calls Try.prog 27 #[(⟨6, birth, prev, id, page, frm, before, after, next, rows, dirty⟩ : Rcd).agg V] w fun e w' => e = .returned (.bool (bl (⟨6, birth, prev, id, page, frm, before, after, next, rows, dirty⟩ : Rcd).Right)) ∧ Kept [] w w' := by
  obtain ⟨pb, cb, pa, ca, pr, cr, pd, cd, rfl⟩ := h.shapes
  obtain ⟨B, hB⟩ : ∃ B, B = decide ((0 : Int) = 0 ∧ (0 : Int) = 0 ∧ id = 0 ∧ page = 0 ∧ frm = 0 ∧ next = 0 ∧ before.length = 0 ∧ after.length = 0 ∧ rows.length = 0 ∧ dirty.length = 0) := ⟨_, rfl⟩
  have hb := fun wz => pBlankB 6 0 0 id page frm next pb pa pr pd before.length cb after.length ca rows.length cr dirty.length cd B hB wz
  have RI : (⟨6, birth, prev, id, page, frm, before, after, next, rows, dirty⟩ : Rcd).Right ↔ B = true ∧ ownedOk (⟨6, birth, prev, id, page, frm, before, after, next, rows, dirty⟩ : Rcd) := by
    have e : (⟨6, birth, prev, id, page, frm, before, after, next, rows, dirty⟩ : Rcd).Right ↔ (lsnOk birth ∧ lsnOk prev) ∧ id = 0 ∧ (rows = [] ∧ dirty = []) ∧ next = 0 ∧ (page = 0 ∧ frm = 0 ∧ after = []) ∧ before = [] := by unfold Rcd.Right; simp
    rw [e, hB]
    constructor
    · rintro ⟨a0, a1, a2, a3, a4, a5⟩
      exact ⟨decide_eq_true ⟨rfl, rfl, a1, a4.1, a4.2.1, a3, (by rw [a5]; rfl), (by rw [a4.2.2]; rfl), (by rw [a2.1]; rfl), (by rw [a2.2]; rfl)⟩, a0⟩
    · rintro ⟨hd, s0⟩
      have q := of_decide_eq_true hd
      exact ⟨s0, q.2.2.1, ⟨List.eq_nil_of_length_eq_zero q.2.2.2.2.2.2.2.2.1, List.eq_nil_of_length_eq_zero q.2.2.2.2.2.2.2.2.2⟩, q.2.2.2.2.2.1, ⟨q.2.2.2.1, q.2.2.2.2.1, List.eq_nil_of_length_eq_zero q.2.2.2.2.2.2.2.1⟩, List.eq_nil_of_length_eq_zero q.2.2.2.2.2.2.1⟩
  clear hB
  have ho := fun wz => pOwned (⟨.slice pb before.length cb, .slice pa after.length ca, .slice pr rows.length cr, .slice pd dirty.length cd⟩ : RV) (⟨6, birth, prev, id, page, frm, before, after, next, rows, dirty⟩ : Rcd) wz
  have hr := fun wz (kz : Kept [] w wz) => pRange _ (⟨6, birth, prev, id, page, frm, before, after, next, rows, dirty⟩ : Rcd) wz (h.kept kz)
  have hp := fun wz (kz : Kept [] w wz) (hn : 0 < after.length) => pParts _ _ before after wz (h.before.kept kz) (h.after.kept kz) hn
  have hn := fun wz => pIsNext next wz
  have hi := fun wz => pIsId id wz
  have ht := fun wz (kz : Kept [] w wz) => qTable _ rows wz (h.rows.kept kz)
  have hd := fun wz (kz : Kept [] w wz) => qDirty _ dirty wz (h.dirty.kept kz)
  clear h
  unfold Rcd.agg at ho hr ⊢
  dsimp only at ho hr hp ht hd ⊢
  obtain ⟨Q, hQ⟩ : ∃ Q, Q = bl (⟨6, birth, prev, id, page, frm, before, after, next, rows, dirty⟩ : Rcd).Right := ⟨_, rfl⟩
  rw [← hQ]
  have HQ := @hideH _ (show (¬ (B = true ∧ ownedOk (⟨6, birth, prev, id, page, frm, before, after, next, rows, dirty⟩ : Rcd)) → Q = false) ∧ ((B = true ∧ ownedOk (⟨6, birth, prev, id, page, frm, before, after, next, rows, dirty⟩ : Rcd)) → Q = true) from ⟨fun h => by rw [hQ]; exact bl_f fun q => h (RI.1 q), fun h => by rw [hQ]; exact bl_t (RI.2 h)⟩)
  clear hQ RI
  clear hr
  clear hp
  clear hn
  clear hi
  clear ht
  clear hd
  obtain ⟨wa, hwa⟩ : ∃ wa, wa = w.alloc (.cells #[.int .i64 6, .int .i64 birth, .int .i64 prev, .int .i64 id, .int .i64 page, .int .i64 frm, .slice pb before.length cb, .slice pa after.length ca, .int .i64 next, .slice pr rows.length cr, .slice pd dirty.length cd] 26) := ⟨_, rfl⟩
  have ba : Blk wa w.heap.size 26 [.int .i64 6, .int .i64 birth, .int .i64 prev, .int .i64 id, .int .i64 page, .int .i64 frm, .slice pb before.length cb, .slice pa after.length ca, .int .i64 next, .slice pr rows.length cr, .slice pd dirty.length cd] := by rw [hwa]; exact Blk.new w _ _
  have ka : Kept [] w wa := by rw [hwa]; exact (Kept.refl [] w).alloc _
  have HA := @hideH _ (And.intro hwa (And.intro ba ka))
  clear hwa ba ka
  go_enter Try.func27, Try.ntmps27
  go_wp2_with fail
  rw [← HA.out.1]
  refine (hb _).mono ?_
  rintro e w1 ⟨rfl, k1⟩
  clear hb
  have b1 := (HA.out.2.1.kept ((Kept.refl [] wa).alloc _) (by simp)).kept k1 (by simp)
  have K1 := (HA.out.2.2.alloc _).then k1
  have c0 := b1.cell (j := 0) rfl
  have c1 := b1.cell (j := 1) rfl
  have c2 := b1.cell (j := 2) rfl
  have c3 := b1.cell (j := 3) rfl
  have c4 := b1.cell (j := 4) rfl
  have c5 := b1.cell (j := 5) rfl
  have c6 := b1.cell (j := 6) rfl
  have c7 := b1.cell (j := 7) rfl
  have c8 := b1.cell (j := 8) rfl
  have c9 := b1.cell (j := 9) rfl
  have c10 := b1.cell (j := 10) rfl
  clear b1 k1
  cases B with
  | false =>
    have eQ := @hideH _ (HQ.out.1 fun h => by cases h.1)
    have KE := @hideH _ K1
    clear K1
    go_wp2
    go_ret
    exact ⟨by rw [eQ.out]; rfl, KE.out⟩
  | true =>
    by_cases g0 : ownedOk (⟨6, birth, prev, id, page, frm, before, after, next, rows, dirty⟩ : Rcd)
    · simp only [bl_t g0] at ho
      have q0 := @hideH _ g0
      clear g0
      go_wp2_with fail
      refine (ho _).mono ?_
      rintro e w2 ⟨rfl, kn⟩
      clear ho
      replace c0 := kn.cell c0 (by simp)
      replace c1 := kn.cell c1 (by simp)
      replace c2 := kn.cell c2 (by simp)
      replace c3 := kn.cell c3 (by simp)
      replace c4 := kn.cell c4 (by simp)
      replace c5 := kn.cell c5 (by simp)
      replace c6 := kn.cell c6 (by simp)
      replace c7 := kn.cell c7 (by simp)
      replace c8 := kn.cell c8 (by simp)
      replace c9 := kn.cell c9 (by simp)
      replace c10 := kn.cell c10 (by simp)
      have K2 := K1.then kn
      clear kn K1
      have eQ := @hideH _ (HQ.out.2 ⟨by trivial, q0.out⟩)
      have KE := @hideH _ K2
      clear K2
      go_wp2
      go_ret
      exact ⟨by rw [eQ.out]; rfl, KE.out⟩
    · simp only [bl_f g0] at ho
      have eQ := @hideH _ (HQ.out.1 fun h => g0 (h.2))
      clear g0
      go_wp2_with fail
      refine (ho _).mono ?_
      rintro e w2 ⟨rfl, kn⟩
      clear ho
      replace c0 := kn.cell c0 (by simp)
      replace c1 := kn.cell c1 (by simp)
      replace c2 := kn.cell c2 (by simp)
      replace c3 := kn.cell c3 (by simp)
      replace c4 := kn.cell c4 (by simp)
      replace c5 := kn.cell c5 (by simp)
      replace c6 := kn.cell c6 (by simp)
      replace c7 := kn.cell c7 (by simp)
      replace c8 := kn.cell c8 (by simp)
      replace c9 := kn.cell c9 (by simp)
      replace c10 := kn.cell c10 (by simp)
      have K2 := K1.then kn
      clear kn K1
      have KE := @hideH _ K2
      clear K2
      go_wp2
      go_ret
      exact ⟨by rw [eQ.out]; rfl, KE.out⟩
end Go.Proofs.Ytebcmcmboomgfaa

/-
  OWN WORK (by mkpr3.py). record: isRight, kind 7.
-/
namespace Go.Proofs.Ytebcmcmboomgfaa
open Go.RowKit
set_option linter.unusedVariables false
set_option linter.unusedSimpArgs false

set_option maxRecDepth 20000 in
set_option maxHeartbeats 6400000 in
theorem qRight_7 (V : RV) (birth prev id page frm : Int) (before after : List UInt8) (next : Int) (rows : List RowR) (dirty : List RecR) (w : World) (h : SeeR w V (⟨7, birth, prev, id, page, frm, before, after, next, rows, dirty⟩ : Rcd)) : Calls Try.prog 27 #[(⟨7, birth, prev, id, page, frm, before, after, next, rows, dirty⟩ : Rcd).agg V] w fun e w' => e = .returned (.bool (bl (⟨7, birth, prev, id, page, frm, before, after, next, rows, dirty⟩ : Rcd).Right)) ∧ Kept [] w w' := by
  obtain ⟨pb, cb, pa, ca, pr, cr, pd, cd, rfl⟩ := h.shapes
  obtain ⟨B, hB⟩ : ∃ B, B = decide (birth = 0 ∧ prev = 0 ∧ id = 0 ∧ page = 0 ∧ frm = 0 ∧ next = 0 ∧ before.length = 0 ∧ after.length = 0 ∧ (0 : Nat) = 0 ∧ (0 : Nat) = 0) := ⟨_, rfl⟩
  have hb := fun wz => pBlankB 7 birth prev id page frm next pb pa none none before.length cb after.length ca 0 0 0 0 B hB wz
  have RI : (⟨7, birth, prev, id, page, frm, before, after, next, rows, dirty⟩ : Rcd).Right ↔ B = true ∧ tableOk rows ∧ dirtyOk dirty := by
    have e : (⟨7, birth, prev, id, page, frm, before, after, next, rows, dirty⟩ : Rcd).Right ↔ (birth = 0 ∧ prev = 0) ∧ id = 0 ∧ listsOk (⟨7, birth, prev, id, page, frm, before, after, next, rows, dirty⟩ : Rcd) ∧ next = 0 ∧ (page = 0 ∧ frm = 0 ∧ after = []) ∧ before = [] := by unfold Rcd.Right; simp
    rw [e, hB]
    constructor
    · rintro ⟨a0, a1, a2, a3, a4, a5⟩
      exact ⟨decide_eq_true ⟨a0.1, a0.2, a1, a4.1, a4.2.1, a3, (by rw [a5]; rfl), (by rw [a4.2.2]; rfl), rfl, rfl⟩, ((listsOk_iff _).1 a2).1, ((listsOk_iff _).1 a2).2⟩
    · rintro ⟨hd, s0, s1⟩
      have q := of_decide_eq_true hd
      exact ⟨⟨q.1, q.2.1⟩, q.2.2.1, (listsOk_iff _).2 ⟨s0, s1⟩, q.2.2.2.2.2.1, ⟨q.2.2.2.1, q.2.2.2.2.1, List.eq_nil_of_length_eq_zero q.2.2.2.2.2.2.2.1⟩, List.eq_nil_of_length_eq_zero q.2.2.2.2.2.2.1⟩
  clear hB
  have ho := fun wz => pOwned (⟨.slice pb before.length cb, .slice pa after.length ca, .slice pr rows.length cr, .slice pd dirty.length cd⟩ : RV) (⟨7, birth, prev, id, page, frm, before, after, next, rows, dirty⟩ : Rcd) wz
  have hr := fun wz (kz : Kept [] w wz) => pRange _ (⟨7, birth, prev, id, page, frm, before, after, next, rows, dirty⟩ : Rcd) wz (h.kept kz)
  have hp := fun wz (kz : Kept [] w wz) (hn : 0 < after.length) => pParts _ _ before after wz (h.before.kept kz) (h.after.kept kz) hn
  have hn := fun wz => pIsNext next wz
  have hi := fun wz => pIsId id wz
  have ht := fun wz (kz : Kept [] w wz) => qTable _ rows wz (h.rows.kept kz)
  have hd := fun wz (kz : Kept [] w wz) => qDirty _ dirty wz (h.dirty.kept kz)
  clear h
  unfold Rcd.agg at ho hr ⊢
  dsimp only at ho hr hp ht hd ⊢
  obtain ⟨Q, hQ⟩ : ∃ Q, Q = bl (⟨7, birth, prev, id, page, frm, before, after, next, rows, dirty⟩ : Rcd).Right := ⟨_, rfl⟩
  rw [← hQ]
  have HQ := @hideH _ (show (¬ (B = true ∧ tableOk rows ∧ dirtyOk dirty) → Q = false) ∧ ((B = true ∧ tableOk rows ∧ dirtyOk dirty) → Q = true) from ⟨fun h => by rw [hQ]; exact bl_f fun q => h (RI.1 q), fun h => by rw [hQ]; exact bl_t (RI.2 h)⟩)
  clear hQ RI
  clear ho
  clear hr
  clear hp
  clear hn
  clear hi
  obtain ⟨wa, hwa⟩ : ∃ wa, wa = w.alloc (.cells #[.int .i64 7, .int .i64 birth, .int .i64 prev, .int .i64 id, .int .i64 page, .int .i64 frm, .slice pb before.length cb, .slice pa after.length ca, .int .i64 next, .slice pr rows.length cr, .slice pd dirty.length cd] 26) := ⟨_, rfl⟩
  have ba : Blk wa w.heap.size 26 [.int .i64 7, .int .i64 birth, .int .i64 prev, .int .i64 id, .int .i64 page, .int .i64 frm, .slice pb before.length cb, .slice pa after.length ca, .int .i64 next, .slice pr rows.length cr, .slice pd dirty.length cd] := by rw [hwa]; exact Blk.new w _ _
  have ka : Kept [] w wa := by rw [hwa]; exact (Kept.refl [] w).alloc _
  have HA := @hideH _ (And.intro hwa (And.intro ba ka))
  clear hwa ba ka
  go_enter Try.func27, Try.ntmps27
  go_wp2_with fail
  rw [← HA.out.1]
  refine (hb _).mono ?_
  rintro e w1 ⟨rfl, k1⟩
  clear hb
  have b1 := (HA.out.2.1.kept ((Kept.refl [] wa).alloc _) (by simp)).kept k1 (by simp)
  have K1 := (HA.out.2.2.alloc _).then k1
  have c0 := b1.cell (j := 0) rfl
  have c1 := b1.cell (j := 1) rfl
  have c2 := b1.cell (j := 2) rfl
  have c3 := b1.cell (j := 3) rfl
  have c4 := b1.cell (j := 4) rfl
  have c5 := b1.cell (j := 5) rfl
  have c6 := b1.cell (j := 6) rfl
  have c7 := b1.cell (j := 7) rfl
  have c8 := b1.cell (j := 8) rfl
  have c9 := b1.cell (j := 9) rfl
  have c10 := b1.cell (j := 10) rfl
  clear b1 k1
  cases B with
  | false =>
    have eQ := @hideH _ (HQ.out.1 fun h => by cases h.1)
    have KE := @hideH _ K1
    clear K1
    go_wp2
    go_ret
    exact ⟨by rw [eQ.out]; rfl, KE.out⟩
  | true =>
    by_cases g0 : tableOk rows
    · simp only [bl_t g0] at ht
      have q0 := @hideH _ g0
      clear g0
      go_wp2_with fail
      refine (ht _ K1).mono ?_
      rintro e w2 ⟨rfl, kn⟩
      clear ht
      replace c0 := kn.cell c0 (by simp)
      replace c1 := kn.cell c1 (by simp)
      replace c2 := kn.cell c2 (by simp)
      replace c3 := kn.cell c3 (by simp)
      replace c4 := kn.cell c4 (by simp)
      replace c5 := kn.cell c5 (by simp)
      replace c6 := kn.cell c6 (by simp)
      replace c7 := kn.cell c7 (by simp)
      replace c8 := kn.cell c8 (by simp)
      replace c9 := kn.cell c9 (by simp)
      replace c10 := kn.cell c10 (by simp)
      have K2 := K1.then kn
      clear kn K1
      by_cases g1 : dirtyOk dirty
      · simp only [bl_t g1] at hd
        have q1 := @hideH _ g1
        clear g1
        go_wp2_with fail
        refine (hd _ K2).mono ?_
        rintro e w3 ⟨rfl, kn⟩
        clear hd
        replace c0 := kn.cell c0 (by simp)
        replace c1 := kn.cell c1 (by simp)
        replace c2 := kn.cell c2 (by simp)
        replace c3 := kn.cell c3 (by simp)
        replace c4 := kn.cell c4 (by simp)
        replace c5 := kn.cell c5 (by simp)
        replace c6 := kn.cell c6 (by simp)
        replace c7 := kn.cell c7 (by simp)
        replace c8 := kn.cell c8 (by simp)
        replace c9 := kn.cell c9 (by simp)
        replace c10 := kn.cell c10 (by simp)
        have K3 := K2.then kn
        clear kn K2
        have eQ := @hideH _ (HQ.out.2 ⟨by trivial, q0.out, q1.out⟩)
        have KE := @hideH _ K3
        clear K3
        go_wp2
        go_ret
        exact ⟨by rw [eQ.out]; rfl, KE.out⟩
      · simp only [bl_f g1] at hd
        have eQ := @hideH _ (HQ.out.1 fun h => g1 (h.2.2))
        clear g1
        go_wp2_with fail
        refine (hd _ K2).mono ?_
        rintro e w3 ⟨rfl, kn⟩
        clear hd
        replace c0 := kn.cell c0 (by simp)
        replace c1 := kn.cell c1 (by simp)
        replace c2 := kn.cell c2 (by simp)
        replace c3 := kn.cell c3 (by simp)
        replace c4 := kn.cell c4 (by simp)
        replace c5 := kn.cell c5 (by simp)
        replace c6 := kn.cell c6 (by simp)
        replace c7 := kn.cell c7 (by simp)
        replace c8 := kn.cell c8 (by simp)
        replace c9 := kn.cell c9 (by simp)
        replace c10 := kn.cell c10 (by simp)
        have K3 := K2.then kn
        clear kn K2
        have KE := @hideH _ K3
        clear K3
        go_wp2
        go_ret
        exact ⟨by rw [eQ.out]; rfl, KE.out⟩
    · simp only [bl_f g0] at ht
      have eQ := @hideH _ (HQ.out.1 fun h => g0 (h.2.1))
      clear g0
      go_wp2_with fail
      refine (ht _ K1).mono ?_
      rintro e w2 ⟨rfl, kn⟩
      clear ht
      replace c0 := kn.cell c0 (by simp)
      replace c1 := kn.cell c1 (by simp)
      replace c2 := kn.cell c2 (by simp)
      replace c3 := kn.cell c3 (by simp)
      replace c4 := kn.cell c4 (by simp)
      replace c5 := kn.cell c5 (by simp)
      replace c6 := kn.cell c6 (by simp)
      replace c7 := kn.cell c7 (by simp)
      replace c8 := kn.cell c8 (by simp)
      replace c9 := kn.cell c9 (by simp)
      replace c10 := kn.cell c10 (by simp)
      have K2 := K1.then kn
      clear kn K1
      have KE := @hideH _ K2
      clear K2
      go_wp2
      go_ret
      exact ⟨by rw [eQ.out]; rfl, KE.out⟩
end Go.Proofs.Ytebcmcmboomgfaa

/-
  OWN WORK (by mkpr3.py). record: isRight.
-/
namespace Go.Proofs.Ytebcmcmboomgfaa
open Go.RowKit
set_option linter.unusedVariables false
set_option linter.unusedSimpArgs false

set_option maxHeartbeats 6400000 in
theorem qRight_out (V : RV) (r : Rcd) (w : World) (h : SeeR w V r) (hk : ¬ (1 ≤ r.kind ∧ r.kind ≤ 7)) : Calls Try.prog 27 #[r.agg V] w fun e w' => e = .returned (.bool (bl r.Right)) ∧ Kept [] w w' := by
  obtain ⟨pb, cb, pa, ca, pr, cr, pd, cd, rfl⟩ := h.shapes
  rw [bl_f (fun hr : r.Right => hk hr.1)]
  have e1 : (r.kind == 1) = false := by simp; omega
  have e2 : (r.kind == 2) = false := by simp; omega
  have e3 : (r.kind == 3) = false := by simp; omega
  have e4 : (r.kind == 4) = false := by simp; omega
  have e5 : (r.kind == 5) = false := by simp; omega
  have e6 : (r.kind == 6) = false := by simp; omega
  have e7 : (r.kind == 7) = false := by simp; omega
  unfold Rcd.agg
  dsimp only
  generalize r.kind = kind at *
  clear h hk
  go_enter Try.func27, Try.ntmps27
  go_wp2
  go_ret
  exact ⟨rfl, ((Kept.refl [] w).alloc _).alloc _⟩
theorem qRight (V : RV) (r : Rcd) (w : World) (h : SeeR w V r) : Calls Try.prog 27 #[r.agg V] w fun e w' => e = .returned (.bool (bl r.Right)) ∧ Kept [] w w' := by
  by_cases hk : 1 ≤ r.kind ∧ r.kind ≤ 7
  · obtain ⟨kind, birth, prev, id, page, frm, before, after, next, rows, dirty⟩ := r
    have : kind = 1 ∨ kind = 2 ∨ kind = 3 ∨ kind = 4 ∨ kind = 5 ∨ kind = 6 ∨ kind = 7 := by simp only at hk; omega
    rcases this with rfl | rfl | rfl | rfl | rfl | rfl | rfl
    · exact qRight_1 V birth prev id page frm before after next rows dirty w h
    · exact qRight_2 V birth prev id page frm before after next rows dirty w h
    · exact qRight_3 V birth prev id page frm before after next rows dirty w h
    · exact qRight_4 V birth prev id page frm before after next rows dirty w h
    · exact qRight_5 V birth prev id page frm before after next rows dirty w h
    · exact qRight_6 V birth prev id page frm before after next rows dirty w h
    · exact qRight_7 V birth prev id page frm before after next rows dirty w h
  · exact qRight_out V r w h hk
end Go.Proofs.Ytebcmcmboomgfaa

