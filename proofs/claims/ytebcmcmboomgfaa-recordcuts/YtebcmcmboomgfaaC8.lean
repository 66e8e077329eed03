import Derived.Test.YtebcmcmboomgfaaRows
import Derived.Test.YtebcmcmboomgfaaC7
/-
  OWN WORK. The laws of record: whole, grown, full.
-/
namespace Go.Proofs.Ytebcmcmboomgfaa
open Go.RowKit
set_option linter.unusedVariables false
set_option linter.unusedSimpArgs false

set_option maxRecDepth 20000 in
set_option maxHeartbeats 3200000 in
theorem whole_any (u v : Value) (L b : List UInt8) (w : World) (hu : Bs w u L) (hv : Bs w v b) (hcap : b.length + 120 ≤ 140737488355328) :
    Calls Try.prog 24 #[u, v] w fun e w' => e = .returned (.bool (bl (L = b ++ lent9))) ∧ Kept [] w w' := by
  obtain ⟨pu, cu, rfl, -⟩ := id hu
  obtain ⟨pv, cv, rfl, -⟩ := id hv
  have HU := @hideH _ hu
  have HV := @hideH _ hv
  have HC := @hideH _ hcap
  have kx : Kept [] w w.drew := (Kept.refl [] w).drew
  obtain ⟨M, hM⟩ : ∃ M, M = b ++ lent9 := ⟨_, rfl⟩
  have HM := @hideH _ hM
  rw [← hM]
  clear hu hv hcap hM
  by_cases he : L = M
  · rw [bl_t he]
    subst he
    go_enter Try.func24, Try.ntmps24
    go_upto_region 1 with fail
    refine wp_region_late (fun w' => (Go.convert 22 9 (.slice pu L.length cu)).run Try.prog w' = .ok (.string ⟨L.toArray⟩) w') 6 (by kernel_rfl) ?_
    have hS : (Go.convert 22 9 (.slice pu L.length cu)).run Try.prog w.drew = .ok (.string ⟨L.toArray⟩) w.drew := (HU.out.kept kx).textR
    refine wpAnyZ_take 0 (v := ?v0) rfl (by kernel_rfl) (by kernel_rfl) (by kernel_rfl) (by kernel_rfl) (fun _ _ _ h => h) (by rfl) ?hy0 hS ?rest0
    case hy0 => (intro wx hSx; (try dsimp only at hSx); go_simp; (try with_reducible rfl))
    (try simp only [Act.put, List.setIfInBounds_toArray, List.set_cons_zero, List.set_cons_succ])
    refine wpAnyZ_take 1 (v := ?v1) rfl (by kernel_rfl) (by kernel_rfl) (by kernel_rfl) (by kernel_rfl) (fun _ _ _ h => h) (by rfl) ?hy1 hS ?rest1
    case hy1 => (intro wx hSx; (try dsimp only at hSx); go_simp; (try with_reducible rfl))
    (try simp only [Act.put, List.setIfInBounds_toArray, List.set_cons_zero, List.set_cons_succ])
    refine wpAnyZ_take 2 (v := ?v2) rfl (by kernel_rfl) (by kernel_rfl) (by kernel_rfl) (by kernel_rfl) (fun _ _ _ h => h) (by rfl) ?hy2 hS ?rest2
    case hy2 => (intro wx hSx; (try dsimp only at hSx); go_simp; (try with_reducible rfl))
    (try simp only [Act.put, List.setIfInBounds_toArray, List.set_cons_zero, List.set_cons_succ])
    refine wpAnyZ_one 3 rfl (by kernel_rfl) (fun K hK => ?_)
    go_simp
    refine (lent_any _ b _ (HV.out.kept kx) HC.out).mono ?_
    rintro e w5 ⟨v5, rfl, o5, kn⟩
    rw [← HM.out] at o5
    have t5 := (Bs.ofOwn o5).textR
    obtain ⟨p5, c5, rfl⟩ := own_shape2 o5
    have K5 := @hideH _ (kx.then kn)
    have hS3 : (Go.convert 22 9 (.slice pu L.length cu)).run Try.prog w5 = .ok (.string ⟨L.toArray⟩) w5 := (HU.out.kept K5.out).textR
    dsimp only
    refine hK _ _ (fun _ => hS3) ?_
    clear hK K hS kn kx
    (try simp only [Act.put, List.setIfInBounds_toArray, List.set_cons_zero, List.set_cons_succ])
    refine wpAnyZ_one 4 rfl (by kernel_rfl) (fun K hK => ?_)
    go_simp
    refine hK _ _ (fun _ => hS3) ?_
    clear hK K
    (try simp only [Act.put, List.setIfInBounds_toArray, List.set_cons_zero, List.set_cons_succ])
    refine wpAnyZ_one 5 rfl (by kernel_rfl) (fun K hK => ?_)
    go_simp
    refine hK _ _ (fun _ => hS3) ?_
    clear hK K
    (try simp only [Act.put, List.setIfInBounds_toArray, List.set_cons_zero, List.set_cons_succ])
    refine wpAnyZ_one 6 rfl (by kernel_rfl) (fun K hK => ?_)
    go_simp
    refine hK _ _ (fun h => absurd rfl h) ?_
    clear hK K
    (try simp only [Act.put, List.setIfInBounds_toArray, List.set_cons_zero, List.set_cons_succ])
    refine wpAnyZ_done (by kernel_rfl) ?_ _
    clear hS3 t5 o5
    go_wp2
    go_ret
    exact ⟨by simp, K5.out⟩
  · rw [bl_f he]
    go_enter Try.func24, Try.ntmps24
    go_upto_region 1 with fail
    refine wp_region_late (fun w' => (Go.convert 22 9 (.slice pu L.length cu)).run Try.prog w' = .ok (.string ⟨L.toArray⟩) w') 6 (by kernel_rfl) ?_
    have hS : (Go.convert 22 9 (.slice pu L.length cu)).run Try.prog w.drew = .ok (.string ⟨L.toArray⟩) w.drew := (HU.out.kept kx).textR
    refine wpAnyZ_take 0 (v := ?vb0) rfl (by kernel_rfl) (by kernel_rfl) (by kernel_rfl) (by kernel_rfl) (fun _ _ _ h => h) (by rfl) ?hyb0 hS ?restb0
    case hyb0 => (intro wx hSx; (try dsimp only at hSx); go_simp; (try with_reducible rfl))
    (try simp only [Act.put, List.setIfInBounds_toArray, List.set_cons_zero, List.set_cons_succ])
    refine wpAnyZ_take 1 (v := ?vb1) rfl (by kernel_rfl) (by kernel_rfl) (by kernel_rfl) (by kernel_rfl) (fun _ _ _ h => h) (by rfl) ?hyb1 hS ?restb1
    case hyb1 => (intro wx hSx; (try dsimp only at hSx); go_simp; (try with_reducible rfl))
    (try simp only [Act.put, List.setIfInBounds_toArray, List.set_cons_zero, List.set_cons_succ])
    refine wpAnyZ_take 2 (v := ?vb2) rfl (by kernel_rfl) (by kernel_rfl) (by kernel_rfl) (by kernel_rfl) (fun _ _ _ h => h) (by rfl) ?hyb2 hS ?restb2
    case hyb2 => (intro wx hSx; (try dsimp only at hSx); go_simp; (try with_reducible rfl))
    (try simp only [Act.put, List.setIfInBounds_toArray, List.set_cons_zero, List.set_cons_succ])
    refine wpAnyZ_one 3 rfl (by kernel_rfl) (fun K hK => ?_)
    go_simp
    refine (lent_any _ b _ (HV.out.kept kx) HC.out).mono ?_
    rintro e w5 ⟨v5, rfl, o5, kn⟩
    rw [← HM.out] at o5
    have t5 := (Bs.ofOwn o5).textR
    obtain ⟨p5, c5, rfl⟩ := own_shape2 o5
    have K5 := @hideH _ (kx.then kn)
    have hS3 : (Go.convert 22 9 (.slice pu L.length cu)).run Try.prog w5 = .ok (.string ⟨L.toArray⟩) w5 := (HU.out.kept K5.out).textR
    dsimp only
    refine hK _ _ (fun _ => hS3) ?_
    clear hK K hS kn kx
    (try simp only [Act.put, List.setIfInBounds_toArray, List.set_cons_zero, List.set_cons_succ])
    refine wpAnyZ_one 4 rfl (by kernel_rfl) (fun K hK => ?_)
    go_simp
    refine hK _ _ (fun _ => hS3) ?_
    clear hK K
    (try simp only [Act.put, List.setIfInBounds_toArray, List.set_cons_zero, List.set_cons_succ])
    refine wpAnyZ_one 5 rfl (by kernel_rfl) (fun K hK => ?_)
    go_simp
    refine hK _ _ (fun _ => hS3) ?_
    clear hK K
    (try simp only [Act.put, List.setIfInBounds_toArray, List.set_cons_zero, List.set_cons_succ])
    refine wpAnyZ_one 6 rfl (by kernel_rfl) (fun K hK => ?_)
    go_simp
    refine hK _ _ (fun h => absurd rfl h) ?_
    clear hK K
    (try simp only [Act.put, List.setIfInBounds_toArray, List.set_cons_zero, List.set_cons_succ])
    refine wpAnyZ_done (by kernel_rfl) ?_ _
    clear hS3 t5 o5
    go_wp2
    go_ret
    exact ⟨by simp [he], K5.out⟩
/-- eighty marks behind -/
theorem grown_any (u : Value) (b : List UInt8) (m : UInt8) (base : Nat) (w : World) (hu : w.ownsRow base 5 1 u b.length (u8s b)) (hcap : b.length + 80 ≤ 140737488355328) (hb : base ≤ w.heap.size) :
    Calls Try.prog 35 #[u, .int .u8 (m.toNat : Int)] w fun e w' => ∃ v, e = .returned v ∧ w'.ownsRow base 5 1 v (b.length + 80) (u8s (b ++ List.replicate 80 m)) ∧ Kept u.ownBlock.toList w w' ∧ ∀ y, v.ownBlock = some y → u.ownBlock = some y ∨ w.heap.size ≤ y := by
  obtain ⟨p0, c0, rfl⟩ := own_shape2 hu
  have HB := @hideH _ hb
  have HC := @hideH _ hcap
  have HU := @hideH _ hu
  clear hb hcap hu
  go_enter Try.func35, Try.ntmps35
  go_wp2
  go_loopw [0, 5] (fun l i wr => ∃ k : Nat, k ≤ 80 ∧ i = .int .i64 k ∧ Hid (wr.ownsRow base 5 1 l (b.length + k) (u8s (b ++ List.replicate k m)) ∧ Kept (Value.slice p0 b.length c0).ownBlock.toList w wr ∧ ∀ y, l.ownBlock = some y → (Value.slice p0 b.length c0).ownBlock = some y ∨ w.heap.size ≤ y)) (fun _ i _ => 80 - (intOf i).toNat)
  case atStart => exact ⟨0, Nat.zero_le _, rfl, by simpa using HU.out, Kept.refl _ _, fun y hy => .inl hy⟩
  case round =>
    clear HU
    obtain ⟨k, hk, rfl, hh⟩ := hrel
    obtain ⟨p, c, rfl⟩ := own_shape2 hh.out.1
    by_cases hkl : k < 80
    · have hkl' : (k : Int) < 80 := by omega
      have wk : IntKind.i64.wrap ((k : Int) + 1) = (k : Int) + 1 := wrap_i64_of (by omega) (by omega)
      have ha := @hideH _ (hh.out.1.alloc (.cells #[.int .u8 (m.toNat : Int)] 5))
      have bc := byte_cell wr 5 _ m rfl
      go_wp2_with (at_builtin; refine wpList_append_byte rfl (.tmp 10) (.tmp 12) 22 rfl base 5 Try.underlying22 (by kernel_rfl) _ _ _ (by rfl) ha.out ⟨wr.heap.size, 0, none⟩ 1 m (by rfl) bc (by have e1 := HC.out; omega) (by have e1 := HB.out; have e2 := hh.out.2.1.size; simp; omega) ?_; intro v2 w2 o2 g2 at2; have k2 : Kept (Value.slice p0 b.length c0).ownBlock.toList w w2 := (hh.out.2.1.alloc _).grown g2 (fun y hy => (hh.out.2.2 y hy).elim (fun e => .inl (by simp [e])) .inr); have REL := @hideH _ (And.intro (show w2.ownsRow base 5 1 v2 (b.length + (k + 1)) (u8s (b ++ List.replicate (k + 1) m)) by rw [List.replicate_succ', ← List.append_assoc]; exact o2) (And.intro k2 (show ∀ y, v2.ownBlock = some y → (Value.slice p0 b.length c0).ownBlock = some y ∨ w.heap.size ≤ y from fun y hy => by rcases at2 with e | e; (exact hh.out.2.2 y (by rw [← e]; exact hy)); (have e2 := hh.out.2.1.size; rw [e.1] at hy; simp at hy; right; omega)))); clear o2 g2 at2 k2)
      clear ha bc hh
      go_roundw
      case rel => exact ⟨k + 1, by omega, by go_num, REL⟩
      case measure => simp [intOf]; omega
    · obtain rfl : k = 80 := by omega
      have FIN := hh
      clear hh
      go_wp2
      go_ret
      exact ⟨_, rfl, FIN.out⟩
end Go.Proofs.Ytebcmcmboomgfaa

/-
  OWN WORK (by mklw1.py). RecordReads.
-/
namespace Go.Proofs.Ytebcmcmboomgfaa
open Go.RowKit
set_option linter.unusedVariables false
set_option linter.unusedSimpArgs false

def zeroR : Rcd := ⟨0, 0, 0, 0, 0, 0, [], [], 0, [], []⟩
/-- both answers of Parse in one form -/
theorem qParse1 (v : Value) (l : List UInt8) (w : World) (hv : Bs w v l) (hl : l.length ≤ 140737488355328) : Calls Try.prog 12 #[v] w fun e w' => ∃ (V : RV) (r : Rcd) (E : Int), e = .returned (.tuple #[r.agg V, .int .i64 E]) ∧ OwnR w.heap.size w' V r ∧ Kept [] w w' ∧ Hid ((parseR l = some r ∧ E = 0) ∨ (parseR l = none ∧ r = zeroR ∧ E = 90)) := by
  refine (qParse v l w hv hl).mono ?_
  rintro e w' (⟨x, V, hp, rfl, ow, k⟩ | ⟨hp, rfl, k⟩)
  · exact ⟨V, x, 0, rfl, ow, k, .inl ⟨hp, rfl⟩⟩
  · exact ⟨nilV, zeroR, 90, rfl, OwnR.bare _ _ _ _ _ _ _ _ _, k, .inr ⟨hp, rfl, rfl⟩⟩
theorem parse_same {l : List UInt8} {r s : Rcd} {E F : Int} (h1 : (parseR l = some r ∧ E = 0) ∨ (parseR l = none ∧ r = zeroR ∧ E = 90)) (h2 : (parseR l = some s ∧ F = 0) ∨ (parseR l = none ∧ s = zeroR ∧ F = 90)) : r = s ∧ E = F := by
  rcases h1 with ⟨a, rfl⟩ | ⟨a, rfl, rfl⟩ <;> rcases h2 with ⟨b, rfl⟩ | ⟨b, rfl, rfl⟩
  · rw [a] at b; cases b; exact ⟨rfl, rfl⟩
  · rw [a] at b; cases b
  · rw [a] at b; cases b
  · exact ⟨rfl, rfl⟩
set_option maxRecDepth 20000 in
set_option maxHeartbeats 6400000 in
theorem recordReads_walk (v : Value) (l : List UInt8) (w : World) (hv : Bs w v l) (hcap : l.length + 120 ≤ 140737488355328) : Calls Try.prog 7 #[v] w fun e w' => e = .returned (.bool true) ∧ Kept [] w w' := by
  have hLent := lent_any v l w hv hcap
  have HV := @hideH _ hv
  have HC := @hideH _ hcap
  obtain ⟨pv, cv, rfl, -⟩ := id hv
  clear hcap hv
  go_enter Try.func7, Try.ntmps7
  go_wp2_with fail
  refine hLent.mono ?_
  clear hLent
  rintro e w1 ⟨vl, rfl, o1, k1⟩
  obtain ⟨p1, c1, rfl⟩ := own_shape2 o1
  have b1 := Bs.ofOwn o1
  have hlen : (l ++ lent9).length = l.length + 120 := by rw [List.length_append, lent9_length]
  obtain ⟨p2, hcut, -, b2, -⟩ := b1.cuts (P := Try.prog) 22 5 Try.underlying22 sz8 l.length (by omega)
  rw [List.take_left' rfl] at b2
  have hP := qParse1 _ l w1 b2 (by have := HC.out; omega)
  have HB1 := @hideH _ b1
  clear o1 b1 b2
  go_wp2_with fail
  refine hP.mono ?_
  clear hP hcut
  rintro e w2 ⟨Va, xa, Ea, rfl, owa, k2, ha⟩
  have sa := owa.see
  obtain ⟨pba, cba, paa, caa, pra, cra, pda, cda, hVa⟩ := sa.shapes
  subst hVa
  obtain ⟨kinda, birtha, preva, ida, pagea, frma, beforea, aftera, nexta, rowsa, dirtya⟩ := xa
  unfold Rcd.agg
  dsimp only
  obtain ⟨w3, hw3⟩ : ∃ wx, wx = w2.alloc (.cells #[.int .i64 kinda, .int .i64 birtha, .int .i64 preva, .int .i64 ida, .int .i64 pagea, .int .i64 frma, .slice pba beforea.length cba, .slice paa aftera.length caa, .int .i64 nexta, .slice pra rowsa.length cra, .slice pda dirtya.length cda] 26) := ⟨_, rfl⟩
  have k3 : Kept [] w2 w3 := by rw [hw3]; exact (Kept.refl [] w2).alloc _
  have Ba : Blk w3 w2.heap.size 26 [.int .i64 kinda, .int .i64 birtha, .int .i64 preva, .int .i64 ida, .int .i64 pagea, .int .i64 frma, .slice pba beforea.length cba, .slice paa aftera.length caa, .int .i64 nexta, .slice pra rowsa.length cra, .slice pda dirtya.length cda] := by rw [hw3]; exact Blk.new w2 _ _
  go_upto_region 3 with fail
  rw [← hw3]
  clear hw3
  have hQ := rParse _ l w3 (HV.out.kept ((k1.then k2).then k3))
  go_wp2_with fail
  refine hQ.mono ?_
  clear hQ
  rintro e w4 ⟨Vb, xb, Eb, rfl, sb, k4, hb⟩
  obtain ⟨hx, rfl⟩ := parse_same ha.out hb.out
  subst hx
  clear ha hb
  obtain ⟨pbb, cbb, pab, cab, prb, crb, pdb, cdb, hVb⟩ := sb.shapes
  subst hVb
  unfold Rcd.agg
  dsimp only
  obtain ⟨w5, hw5⟩ : ∃ wx, wx = w4.alloc (.cells #[.int .i64 kinda, .int .i64 birtha, .int .i64 preva, .int .i64 ida, .int .i64 pagea, .int .i64 frma, .slice pbb beforea.length cbb, .slice pab aftera.length cab, .int .i64 nexta, .slice prb rowsa.length crb, .slice pdb dirtya.length cdb] 26) := ⟨_, rfl⟩
  have k5 : Kept [] w4 w5 := by rw [hw5]; exact (Kept.refl [] w4).alloc _
  have Bb : Blk w5 w4.heap.size 26 [.int .i64 kinda, .int .i64 birtha, .int .i64 preva, .int .i64 ida, .int .i64 pagea, .int .i64 frma, .slice pbb beforea.length cbb, .slice pab aftera.length cab, .int .i64 nexta, .slice prb rowsa.length crb, .slice pdb dirtya.length cdb] := by rw [hw5]; exact Blk.new w4 _ _
  go_upto_region 4 with fail
  rw [← hw5]
  clear hw5
  go_wp2_with fail
  refine (alive_any _).mono ?_
  rintro e w6 ⟨rfl, k6⟩
  have hSm := rSame _ _ _ _ w6 (((sa.kept k3).kept k4).kept (k5.then k6)) (sb.kept (k5.then k6))
  rw [bl_t rfl] at hSm
  unfold Rcd.agg at hSm
  dsimp only at hSm
  have Ba6 := (Ba.kept k4 (by simp)).kept (k5.then k6) (by simp)
  have Bb6 := Bb.kept k6 (by simp)
  have ca0 := Ba6.cell (j := 0) rfl
  have ca1 := Ba6.cell (j := 1) rfl
  have ca2 := Ba6.cell (j := 2) rfl
  have ca3 := Ba6.cell (j := 3) rfl
  have ca4 := Ba6.cell (j := 4) rfl
  have ca5 := Ba6.cell (j := 5) rfl
  have ca6 := Ba6.cell (j := 6) rfl
  have ca7 := Ba6.cell (j := 7) rfl
  have ca8 := Ba6.cell (j := 8) rfl
  have ca9 := Ba6.cell (j := 9) rfl
  have ca10 := Ba6.cell (j := 10) rfl
  have cb0 := Bb6.cell (j := 0) rfl
  have cb1 := Bb6.cell (j := 1) rfl
  have cb2 := Bb6.cell (j := 2) rfl
  have cb3 := Bb6.cell (j := 3) rfl
  have cb4 := Bb6.cell (j := 4) rfl
  have cb5 := Bb6.cell (j := 5) rfl
  have cb6 := Bb6.cell (j := 6) rfl
  have cb7 := Bb6.cell (j := 7) rfl
  have cb8 := Bb6.cell (j := 8) rfl
  have cb9 := Bb6.cell (j := 9) rfl
  have cb10 := Bb6.cell (j := 10) rfl
  have K6 := @hideH _ ((((((k1.then k2).then k3).then k4).then k5).then k6))
  have K16 := @hideH _ (((((k2.then k3).then k4).then k5).then k6))
  clear k1 k2 k3 k4 k5 k6 sa sb owa Ba Bb Ba6 Bb6
  go_wp2_with fail
  refine hSm.mono ?_
  clear hSm
  rintro e w7 ⟨rfl, k7⟩
  clear ca0 cb0 ca1 cb1 ca2 cb2 ca3 cb3 ca4 cb4 ca5 cb5 ca6 cb6 ca7 cb7 ca8 cb8 ca9 cb9 ca10 cb10
  go_wp2_with fail
  refine (rNum _ _).mono ?_
  rintro e w8 ⟨rfl, rfl⟩
  have hW := whole_any _ _ (l ++ lent9) l _ (HB1.out.kept (K16.out.then k7)) (HV.out.kept (K6.out.then k7)) HC.out
  rw [bl_t rfl] at hW
  skip
  go_wp2_with fail
  refine hW.mono ?_
  clear hW
  rintro e w9 ⟨rfl, k9⟩
  have KE := @hideH _ ((K6.out.then k7).then k9)
  clear k7 k9
  go_wp2
  go_ret
  exact ⟨by simp, KE.out⟩
end Go.Proofs.Ytebcmcmboomgfaa

/-
  OWN WORK (by mklw2.py). RecordBack.
-/
namespace Go.Proofs.Ytebcmcmboomgfaa
open Go.RowKit
set_option linter.unusedVariables false
set_option linter.unusedSimpArgs false

theorem zero_not : ¬ zeroR.Right := fun h => by have := h.1; simp [zeroR] at this
theorem see_zero (w : World) : SeeR w nilV zeroR := (OwnR.bare 0 w 0 0 0 0 0 0 0).see
set_option maxRecDepth 20000 in
set_option maxHeartbeats 12800000 in
theorem recordBack_walk (Va : RV) (xa : Rcd) (v : Value) (l : List UInt8) (w : World) (sa : SeeR w Va xa) (hv : Bs w v l) (hcap : l.length ≤ 140737488355328) : Calls Try.prog 4 #[xa.agg Va, v] w fun e w' => e = .returned (.bool true) ∧ Kept [] w w' := by
  have hBy := fun wz (kz : Kept [] w wz) => qBytes _ xa wz (sa.kept kz)
  have hZz := fun wz (kz : Kept [] w wz) => qSize _ xa wz (sa.kept kz)
  have hTz := fun wz (kz : Kept [] w wz) (hR : xa.Right) => size_any _ xa wz (sa.kept kz) hR
  have HV := @hideH _ hv
  have HC := @hideH _ hcap
  obtain ⟨pv, cv, rfl, -⟩ := id hv
  clear hcap hv
  obtain ⟨pba, cba, paa, caa, pra, cra, pda, cda, hVa⟩ := sa.shapes
  subst hVa
  have HSA := @hideH _ sa
  clear sa
  unfold Rcd.agg at hBy hZz hTz ⊢
  dsimp only at hBy hZz hTz ⊢
  obtain ⟨w1, hw1⟩ : ∃ wx, wx = w.alloc (.cells #[.int .i64 xa.kind, .int .i64 xa.birth, .int .i64 xa.prev, .int .i64 xa.id, .int .i64 xa.page, .int .i64 xa.frm, .slice pba xa.before.length cba, .slice paa xa.after.length caa, .int .i64 xa.next, .slice pra xa.rows.length cra, .slice pda xa.dirty.length cda] 26) := ⟨_, rfl⟩
  have k1 : Kept [] w w1 := by rw [hw1]; exact (Kept.refl [] w).alloc _
  have Ba : Blk w1 w.heap.size 26 [.int .i64 xa.kind, .int .i64 xa.birth, .int .i64 xa.prev, .int .i64 xa.id, .int .i64 xa.page, .int .i64 xa.frm, .slice pba xa.before.length cba, .slice paa xa.after.length caa, .int .i64 xa.next, .slice pra xa.rows.length cra, .slice pda xa.dirty.length cda] := by rw [hw1]; exact Blk.new w _ _
  go_enter Try.func4, Try.ntmps4
  go_upto_region 1 with fail
  rw [← hw1]
  clear hw1
  go_wp2_with fail
  refine (alive_any _).mono ?_
  rintro e w2 ⟨rfl, k2⟩
  have K2 := k1.then k2
  have Ba2 := Ba.kept k2 (by simp)
  have ca0 := Ba2.cell (j := 0) rfl
  have ca1 := Ba2.cell (j := 1) rfl
  have ca2 := Ba2.cell (j := 2) rfl
  have ca3 := Ba2.cell (j := 3) rfl
  have ca4 := Ba2.cell (j := 4) rfl
  have ca5 := Ba2.cell (j := 5) rfl
  have ca6 := Ba2.cell (j := 6) rfl
  have ca7 := Ba2.cell (j := 7) rfl
  have ca8 := Ba2.cell (j := 8) rfl
  have ca9 := Ba2.cell (j := 9) rfl
  have ca10 := Ba2.cell (j := 10) rfl
  clear Ba Ba2 k1 k2
  go_wp2_with fail
  refine (hBy _ K2).mono ?_
  clear hBy
  rintro e w3 ⟨u3, rfl, a3⟩
  have K3 := K2.then a3.2
  have k3 := a3.2
  have b3 := a3.bs
  obtain ⟨p3, q3, rfl⟩ := own_shape2 a3.1
  clear a3 K2
  replace ca0 := k3.cell ca0 (by simp)
  replace ca1 := k3.cell ca1 (by simp)
  replace ca2 := k3.cell ca2 (by simp)
  replace ca3 := k3.cell ca3 (by simp)
  replace ca4 := k3.cell ca4 (by simp)
  replace ca5 := k3.cell ca5 (by simp)
  replace ca6 := k3.cell ca6 (by simp)
  replace ca7 := k3.cell ca7 (by simp)
  replace ca8 := k3.cell ca8 (by simp)
  replace ca9 := k3.cell ca9 (by simp)
  replace ca10 := k3.cell ca10 (by simp)
  clear k3
  by_cases hR : xa.Right
  · have eE := errF_t hR
    have eB := bytesF_t hR
    rw [eB] at b3
    rw [eE, eB]
    simp only [eB] at hZz
    replace hTz := fun wz kz => hTz wz kz hR
    have pR := parseR_of hR
    have HSM := @hideH _ (bytesR_small hR)
    clear hR eE eB
    obtain ⟨BR, hBR⟩ : ∃ BR, BR = bytesR xa := ⟨_, rfl⟩
    generalize bytesR xa = BR at b3 hZz hTz pR HSM ⊢
    go_wp2_with fail
    refine (rNum _ _).mono ?_
    rintro e wq ⟨rfl, rfl⟩
    have hP := qParse1 _ _ _ b3 (by have := HSM.out; omega)
    go_wp2_with fail
    refine hP.mono ?_
    clear hP
    rintro e w4 ⟨Vc, xc, Ec, rfl, owc, k4, hc⟩
    have hX : xc = xa ∧ Ec = 0 := parse_same hc.out (.inl ⟨pR, rfl⟩)
    obtain ⟨hX1, hX2⟩ := hX
    subst hX2
    have sc := owc.see
    have HX := @hideH _ hX1
    clear hc pR owc hX1
    obtain ⟨pbc, cbc, pac, cac, prc, crc, pdc, cdc, hVc⟩ := sc.shapes
    subst hVc
    unfold Rcd.agg
    dsimp only
    obtain ⟨w5, hw5⟩ : ∃ wx, wx = w4.alloc (.cells #[.int .i64 xc.kind, .int .i64 xc.birth, .int .i64 xc.prev, .int .i64 xc.id, .int .i64 xc.page, .int .i64 xc.frm, .slice pbc xc.before.length cbc, .slice pac xc.after.length cac, .int .i64 xc.next, .slice prc xc.rows.length crc, .slice pdc xc.dirty.length cdc] 26) := ⟨_, rfl⟩
    have k5 : Kept [] w4 w5 := by rw [hw5]; exact (Kept.refl [] w4).alloc _
    have Bc : Blk w5 w4.heap.size 26 [.int .i64 xc.kind, .int .i64 xc.birth, .int .i64 xc.prev, .int .i64 xc.id, .int .i64 xc.page, .int .i64 xc.frm, .slice pbc xc.before.length cbc, .slice pac xc.after.length cac, .int .i64 xc.next, .slice prc xc.rows.length crc, .slice pdc xc.dirty.length cdc] := by rw [hw5]; exact Blk.new w4 _ _
    go_upto_region 8 with fail
    rw [← hw5]
    clear hw5
    have K5 := (K3.then k4).then k5
    have hSm := rSame _ _ _ _ w5 (HSA.out.kept K5) (sc.kept k5)
    rw [bl_t HX.out.symm] at hSm
    unfold Rcd.agg at hSm
    dsimp only at hSm
    replace ca0 := (k4.then k5).cell ca0 (by simp)
    replace ca1 := (k4.then k5).cell ca1 (by simp)
    replace ca2 := (k4.then k5).cell ca2 (by simp)
    replace ca3 := (k4.then k5).cell ca3 (by simp)
    replace ca4 := (k4.then k5).cell ca4 (by simp)
    replace ca5 := (k4.then k5).cell ca5 (by simp)
    replace ca6 := (k4.then k5).cell ca6 (by simp)
    replace ca7 := (k4.then k5).cell ca7 (by simp)
    replace ca8 := (k4.then k5).cell ca8 (by simp)
    replace ca9 := (k4.then k5).cell ca9 (by simp)
    replace ca10 := (k4.then k5).cell ca10 (by simp)
    have cc0 := Bc.cell (j := 0) rfl
    have cc1 := Bc.cell (j := 1) rfl
    have cc2 := Bc.cell (j := 2) rfl
    have cc3 := Bc.cell (j := 3) rfl
    have cc4 := Bc.cell (j := 4) rfl
    have cc5 := Bc.cell (j := 5) rfl
    have cc6 := Bc.cell (j := 6) rfl
    have cc7 := Bc.cell (j := 7) rfl
    have cc8 := Bc.cell (j := 8) rfl
    have cc9 := Bc.cell (j := 9) rfl
    have cc10 := Bc.cell (j := 10) rfl
    clear k4 k5 sc Bc b3 K3
    go_wp2_with fail
    refine (rNum _ _).mono ?_
    rintro e wq ⟨rfl, rfl⟩
    go_wp2_with fail
    refine hSm.mono ?_
    clear hSm cc0 cc1 cc2 cc3 cc4 cc5 cc6 cc7 cc8 cc9 cc10
    rintro e w6 ⟨rfl, k6⟩
    have K6 := K5.then k6
    replace ca0 := k6.cell ca0 (by simp)
    replace ca1 := k6.cell ca1 (by simp)
    replace ca2 := k6.cell ca2 (by simp)
    replace ca3 := k6.cell ca3 (by simp)
    replace ca4 := k6.cell ca4 (by simp)
    replace ca5 := k6.cell ca5 (by simp)
    replace ca6 := k6.cell ca6 (by simp)
    replace ca7 := k6.cell ca7 (by simp)
    replace ca8 := k6.cell ca8 (by simp)
    replace ca9 := k6.cell ca9 (by simp)
    replace ca10 := k6.cell ca10 (by simp)
    go_wp2_with fail
    refine (hZz _ K6).mono ?_
    clear hZz
    rintro e w7 ⟨rfl, k7⟩
    have K7 := K6.then k7
    replace ca0 := k7.cell ca0 (by simp)
    replace ca1 := k7.cell ca1 (by simp)
    replace ca2 := k7.cell ca2 (by simp)
    replace ca3 := k7.cell ca3 (by simp)
    replace ca4 := k7.cell ca4 (by simp)
    replace ca5 := k7.cell ca5 (by simp)
    replace ca6 := k7.cell ca6 (by simp)
    replace ca7 := k7.cell ca7 (by simp)
    replace ca8 := k7.cell ca8 (by simp)
    replace ca9 := k7.cell ca9 (by simp)
    replace ca10 := k7.cell ca10 (by simp)
    clear k6 K5 K6
    go_wp2_with fail
    refine (hTz _ K7).mono ?_
    clear hTz
    rintro e w7' ⟨rfl, k7'⟩
    have K7' := K7.then k7'
    clear k7 k7' K7 ca0 ca1 ca2 ca3 ca4 ca5 ca6 ca7 ca8 ca9 ca10
    have hP := qParse1 _ l _ (HV.out.kept K7') HC.out
    go_wp2_with fail
    refine hP.mono ?_
    clear hP
    rintro e w8 ⟨Vb, xb, Eb, rfl, owb, k8, hb⟩
    have sb := owb.see
    have K8 := K7'.then k8
    obtain ⟨pbb, cbb, pab, cab, prb, crb, pdb, cdb, hVb⟩ := sb.shapes
    subst hVb
    unfold Rcd.agg
    dsimp only
    obtain ⟨w9, hw9⟩ : ∃ wx, wx = w8.alloc (.cells #[.int .i64 xb.kind, .int .i64 xb.birth, .int .i64 xb.prev, .int .i64 xb.id, .int .i64 xb.page, .int .i64 xb.frm, .slice pbb xb.before.length cbb, .slice pab xb.after.length cab, .int .i64 xb.next, .slice prb xb.rows.length crb, .slice pdb xb.dirty.length cdb] 26) := ⟨_, rfl⟩
    have k9 : Kept [] w8 w9 := by rw [hw9]; exact (Kept.refl [] w8).alloc _
    have Bb : Blk w9 w8.heap.size 26 [.int .i64 xb.kind, .int .i64 xb.birth, .int .i64 xb.prev, .int .i64 xb.id, .int .i64 xb.page, .int .i64 xb.frm, .slice pbb xb.before.length cbb, .slice pab xb.after.length cab, .int .i64 xb.next, .slice prb xb.rows.length crb, .slice pdb xb.dirty.length cdb] := by rw [hw9]; exact Blk.new w8 _ _
    go_upto_region 11 with fail
    rw [← hw9]
    clear hw9
    have s9 := sb.kept k9
    have K9 := K8.then k9
    have cb0 := Bb.cell (j := 0) rfl
    have cb1 := Bb.cell (j := 1) rfl
    have cb2 := Bb.cell (j := 2) rfl
    have cb3 := Bb.cell (j := 3) rfl
    have cb4 := Bb.cell (j := 4) rfl
    have cb5 := Bb.cell (j := 5) rfl
    have cb6 := Bb.cell (j := 6) rfl
    have cb7 := Bb.cell (j := 7) rfl
    have cb8 := Bb.cell (j := 8) rfl
    have cb9 := Bb.cell (j := 9) rfl
    have cb10 := Bb.cell (j := 10) rfl
    clear Bb k8 k9 sb owb K8
    rcases hb.out with ⟨hp, hE⟩ | ⟨hp, hz, hE⟩
    · subst hE
      have hX := parseR_some hp
      have hB := qBytes _ _ w9 s9
      rw [errF_t hX.2.1, bytesF_t hX.2.1, ← hX.2.2] at hB
      unfold Rcd.agg at hB
      dsimp only at hB
      clear hb hp hX s9
      go_wp2_with fail
      refine (rNum _ _).mono ?_
      rintro e wq ⟨rfl, rfl⟩
      go_wp2_with fail
      refine hB.mono ?_
      clear hB
      rintro e w10 ⟨u10, rfl, a10⟩
      obtain ⟨p10, q10, hu⟩ := own_shape2 a10.1
      subst hu
      have t10 := a10.bs.textR
      have t11 := (HV.out.kept (K9.then a10.2)).textR
      have KE := @hideH _ (K9.then a10.2)
      clear a10 K9 cb0 cb1 cb2 cb3 cb4 cb5 cb6 cb7 cb8 cb9 cb10
      go_wp2_with fail
      refine (rNum _ _).mono ?_
      rintro e wq ⟨rfl, rfl⟩
      go_wp2
      go_ret
      exact ⟨by simp, KE.out⟩
    · subst hE
      have hSm := rSame _ nilV _ zeroR w9 s9 (see_zero w9)
      rw [bl_t hz] at hSm
      unfold Rcd.agg nilV zeroR at hSm
      dsimp only [List.length_nil] at hSm
      clear hb hp s9 hz
      go_wp2_with fail
      refine (rNum _ _).mono ?_
      rintro e wq ⟨rfl, rfl⟩
      go_wp2_with fail
      refine (rNum _ _).mono ?_
      rintro e wq ⟨rfl, rfl⟩
      go_wp2_with fail
      refine hSm.mono ?_
      clear hSm
      rintro e w10 ⟨rfl, k10⟩
      have KE := @hideH _ (K9.then k10)
      clear k10 K9 cb0 cb1 cb2 cb3 cb4 cb5 cb6 cb7 cb8 cb9 cb10
      go_wp2
      go_ret
      exact ⟨by simp, KE.out⟩
  · have eE := errF_f hR
    have eB := bytesF_f hR
    rw [eE, eB]
    simp only [eB] at hZz
    dsimp only [List.length_nil] at hZz ⊢
    clear eE eB hR hTz b3
    go_wp2_with fail
    refine (rNum _ _).mono ?_
    rintro e wq ⟨rfl, rfl⟩
    go_wp2_with fail
    refine (rNum _ _).mono ?_
    rintro e wq ⟨rfl, rfl⟩
    go_wp2_with fail
    refine (hZz _ K3).mono ?_
    clear hZz
    rintro e w7 ⟨rfl, k7⟩
    have K7 := K3.then k7
    clear k7 K3 ca0 ca1 ca2 ca3 ca4 ca5 ca6 ca7 ca8 ca9 ca10
    have hP := qParse1 _ l _ (HV.out.kept K7) HC.out
    go_wp2_with fail
    refine hP.mono ?_
    clear hP
    rintro e w8 ⟨Vb, xb, Eb, rfl, owb, k8, hb⟩
    have sb := owb.see
    have K8 := K7.then k8
    obtain ⟨pbb, cbb, pab, cab, prb, crb, pdb, cdb, hVb⟩ := sb.shapes
    subst hVb
    unfold Rcd.agg
    dsimp only
    obtain ⟨w9, hw9⟩ : ∃ wx, wx = w8.alloc (.cells #[.int .i64 xb.kind, .int .i64 xb.birth, .int .i64 xb.prev, .int .i64 xb.id, .int .i64 xb.page, .int .i64 xb.frm, .slice pbb xb.before.length cbb, .slice pab xb.after.length cab, .int .i64 xb.next, .slice prb xb.rows.length crb, .slice pdb xb.dirty.length cdb] 26) := ⟨_, rfl⟩
    have k9 : Kept [] w8 w9 := by rw [hw9]; exact (Kept.refl [] w8).alloc _
    have Bb : Blk w9 w8.heap.size 26 [.int .i64 xb.kind, .int .i64 xb.birth, .int .i64 xb.prev, .int .i64 xb.id, .int .i64 xb.page, .int .i64 xb.frm, .slice pbb xb.before.length cbb, .slice pab xb.after.length cab, .int .i64 xb.next, .slice prb xb.rows.length crb, .slice pdb xb.dirty.length cdb] := by rw [hw9]; exact Blk.new w8 _ _
    go_upto_region 11 with fail
    rw [← hw9]
    clear hw9
    have s9 := sb.kept k9
    have K9 := K8.then k9
    have cb0 := Bb.cell (j := 0) rfl
    have cb1 := Bb.cell (j := 1) rfl
    have cb2 := Bb.cell (j := 2) rfl
    have cb3 := Bb.cell (j := 3) rfl
    have cb4 := Bb.cell (j := 4) rfl
    have cb5 := Bb.cell (j := 5) rfl
    have cb6 := Bb.cell (j := 6) rfl
    have cb7 := Bb.cell (j := 7) rfl
    have cb8 := Bb.cell (j := 8) rfl
    have cb9 := Bb.cell (j := 9) rfl
    have cb10 := Bb.cell (j := 10) rfl
    clear Bb k8 k9 sb owb K8
    rcases hb.out with ⟨hp, hE⟩ | ⟨hp, hz, hE⟩
    · subst hE
      have hX := parseR_some hp
      have hB := qBytes _ _ w9 s9
      rw [errF_t hX.2.1, bytesF_t hX.2.1, ← hX.2.2] at hB
      unfold Rcd.agg at hB
      dsimp only at hB
      clear hb hp hX s9
      go_wp2_with fail
      refine (rNum _ _).mono ?_
      rintro e wq ⟨rfl, rfl⟩
      go_wp2_with fail
      refine hB.mono ?_
      clear hB
      rintro e w10 ⟨u10, rfl, a10⟩
      obtain ⟨p10, q10, hu⟩ := own_shape2 a10.1
      subst hu
      have t10 := a10.bs.textR
      have t11 := (HV.out.kept (K9.then a10.2)).textR
      have KE := @hideH _ (K9.then a10.2)
      clear a10 K9 cb0 cb1 cb2 cb3 cb4 cb5 cb6 cb7 cb8 cb9 cb10
      go_wp2_with fail
      refine (rNum _ _).mono ?_
      rintro e wq ⟨rfl, rfl⟩
      go_wp2
      go_ret
      exact ⟨by simp, KE.out⟩
    · subst hE
      have hSm := rSame _ nilV _ zeroR w9 s9 (see_zero w9)
      rw [bl_t hz] at hSm
      unfold Rcd.agg nilV zeroR at hSm
      dsimp only [List.length_nil] at hSm
      clear hb hp s9 hz
      go_wp2_with fail
      refine (rNum _ _).mono ?_
      rintro e wq ⟨rfl, rfl⟩
      go_wp2_with fail
      refine (rNum _ _).mono ?_
      rintro e wq ⟨rfl, rfl⟩
      go_wp2_with fail
      refine hSm.mono ?_
      clear hSm
      rintro e w10 ⟨rfl, k10⟩
      have KE := @hideH _ (K9.then k10)
      clear k10 K9 cb0 cb1 cb2 cb3 cb4 cb5 cb6 cb7 cb8 cb9 cb10
      go_wp2
      go_ret
      exact ⟨by simp, KE.out⟩
end Go.Proofs.Ytebcmcmboomgfaa

/-
  OWN WORK (by mklw3.py). RecordCuts.
-/
namespace Go.Proofs.Ytebcmcmboomgfaa
open Go.RowKit
set_option linter.unusedVariables false
set_option linter.unusedSimpArgs false

theorem set_same9 {α : Type} {l : List α} {n : Nat} {b : α} (h : l[n]? = some b) : l.set n b = l := by
  obtain ⟨hn, rfl⟩ := List.getElem?_eq_some_iff.1 h
  exact List.set_getElem_self hn
theorem own_at9 {w : World} {base e n : Nat} {v : Value} {xs : List Value} (h : w.ownsRow base e 1 v n xs) (hn : 0 < n) : ∃ g c, v = .slice (some ⟨g, 0, none⟩) n c ∧ base ≤ g ∧ ∀ (j : Nat) u, xs[j]? = some u → w.cell? ⟨g, j, none⟩ = some u ∧ w.frozen? ⟨g, j, none⟩ = false := by
  rcases h.2 with ⟨-, e0⟩ | ⟨g, cap, cur, rfl, h1, h2, h3, h4, -, h5⟩
  · omega
  · refine ⟨g, cap, rfl, h1, fun j u hj => ?_⟩
    rw [← h5, List.getElem?_take] at hj
    split at hj
    · refine ⟨?_, by simp [World.frozen?, h2]⟩
      simp [World.cell?, h2]
      simpa using hj
    · cases hj
theorem wrap_u8d {x : Nat} (h : x < 2 ^ 8) : IntKind.u8.wrap (x : Int) = (x : Int) := by
  simp only [IntKind.wrap, IntKind.bits, IntKind.signed]
  have : 2 ^ 8 = 256 := by decide
  simp
  omega
theorem xorB (y x : UInt8) : bits .xor .u8 (y.toNat : Int) (x.toNat : Int) = ((y ^^^ x).toNat : Int) := by
  have h1 : ∀ z : UInt8, (BitVec.ofInt 8 (z.toNat : Int)).toNat = z.toNat := fun z => by
    rw [BitVec.ofInt_natCast, BitVec.toNat_ofNat]; exact Nat.mod_eq_of_lt z.toNat_lt
  show IntKind.u8.wrap ((BitVec.ofInt 8 (y.toNat : Int) ^^^ BitVec.ofInt 8 (x.toNat : Int)).toNat : Int) = _
  rw [BitVec.toNat_xor, h1, h1, UInt8.toNat_xor]
  have hx : y.toNat ^^^ x.toNat < 2 ^ 8 := Nat.xor_lt_two_pow y.toNat_lt x.toNat_lt
  exact wrap_u8d hx
theorem xor_zero8 {y x : UInt8} (h : y ^^^ x = y) : x = 0 := by
  have h2 : y ^^^ (y ^^^ x) = y ^^^ y := by rw [h]
  rw [← UInt8.xor_assoc, UInt8.xor_self, UInt8.zero_xor] at h2
  exact h2
/-- where the rest of a division points -/
theorem rest_at (n : Int) (m : Nat) (hm : 0 < m) (hm2 : m ≤ 1000000) : ∃ N : Nat, N < m ∧ IntKind.i64.wrap (n.tmod (m : Int)) = n.tmod (m : Int) ∧ ((n.tmod (m : Int) < 0 ∧ IntKind.i64.wrap (n.tmod (m : Int) + (m : Int)) = (N : Int)) ∨ (¬ n.tmod (m : Int) < 0 ∧ n.tmod (m : Int) = (N : Int))) := by
  have hp : (0 : Int) < (m : Int) := by omega
  have b1 := Int.tmod_lt_of_pos n hp
  have b2 := Int.lt_tmod_of_pos n hp
  generalize n.tmod (m : Int) = z at b1 b2 ⊢
  by_cases c : z < 0
  · exact ⟨(z + m).toNat, by omega, wrap_i64_of (by omega) (by omega), .inl ⟨c, by rw [wrap_i64_of (by omega) (by omega)]; omega⟩⟩
  · exact ⟨z.toNat, by omega, wrap_i64_of (by omega) (by omega), .inr ⟨c, by omega⟩⟩
theorem ne_zero8 {x : UInt8} (h : x ≠ 0) : ((x.toNat : Int) != 0) = true := by
  simp only [bne_iff_ne, ne_eq]
  intro e
  apply h
  apply UInt8.toNat_inj.1
  simpa using e
theorem bl_turn {p : Prop} {x : UInt8} (h : p ↔ x = 0) : bl p = ((x.toNat : Int) == 0) := by
  by_cases hx : x = 0
  · rw [bl_t (h.2 hx), hx]
    rfl
  · rw [bl_f (fun q => hx (h.1 q))]
    have := ne_zero8 hx
    symm
    simpa using this
theorem cuts_turn {r y : Rcd} {x b : UInt8} {N : Nat} (hR : r.Right) (hN : (bytesR r)[N]? = some b) (h : parseR ((bytesR r).set N (b ^^^ x)) = some y) : y = r ↔ x = 0 := by
  obtain ⟨-, hY, hb⟩ := parseR_some h
  constructor
  · rintro rfl
    have h2 := congrArg (fun l => l[N]?) hb
    simp only [List.getElem?_set_self (List.getElem?_eq_some_iff.1 hN).1, hN, Option.some.injEq] at h2
    exact xor_zero8 h2
  · rintro rfl
    rw [UInt8.xor_zero, set_same9 hN] at hb
    exact (bytesR_inj hR hY hb).symm
theorem cuts_none {r : Rcd} {x b : UInt8} {N : Nat} (hR : r.Right) (hN : (bytesR r)[N]? = some b) (h : parseR ((bytesR r).set N (b ^^^ x)) = none) : x ≠ 0 := by
  rintro rfl
  rw [UInt8.xor_zero, set_same9 hN, parseR_of hR] at h
  cases h
set_option maxRecDepth 20000 in
set_option maxHeartbeats 12800000 in
theorem recordCuts_walk (Va : RV) (xa : Rcd) (n : Int) (x : UInt8) (w : World) (sa : SeeR w Va xa) : Calls Try.prog 3 #[xa.agg Va, .int .i64 n, .int .u8 (x.toNat : Int)] w fun e w' => e = .returned (.bool true) ∧ Kept [] w w' := by
  have hBy := fun wz (kz : Kept [] w wz) => qBytes _ xa wz (sa.kept kz)
  obtain ⟨pba, cba, paa, caa, pra, cra, pda, cda, hVa⟩ := sa.shapes
  subst hVa
  have HSA := @hideH _ sa
  clear sa
  unfold Rcd.agg at hBy ⊢
  dsimp only at hBy ⊢
  obtain ⟨w1, hw1⟩ : ∃ wx, wx = w.alloc (.cells #[.int .i64 xa.kind, .int .i64 xa.birth, .int .i64 xa.prev, .int .i64 xa.id, .int .i64 xa.page, .int .i64 xa.frm, .slice pba xa.before.length cba, .slice paa xa.after.length caa, .int .i64 xa.next, .slice pra xa.rows.length cra, .slice pda xa.dirty.length cda] 26) := ⟨_, rfl⟩
  have k1 : Kept [] w w1 := by rw [hw1]; exact (Kept.refl [] w).alloc _
  have Ba : Blk w1 w.heap.size 26 [.int .i64 xa.kind, .int .i64 xa.birth, .int .i64 xa.prev, .int .i64 xa.id, .int .i64 xa.page, .int .i64 xa.frm, .slice pba xa.before.length cba, .slice paa xa.after.length caa, .int .i64 xa.next, .slice pra xa.rows.length cra, .slice pda xa.dirty.length cda] := by rw [hw1]; exact Blk.new w _ _
  go_enter Try.func3, Try.ntmps3
  go_upto_region 1 with fail
  rw [← hw1]
  clear hw1
  go_wp2_with fail
  refine (alive_any _).mono ?_
  rintro e w2 ⟨rfl, k2⟩
  have K2 := k1.then k2
  have Ba2 := Ba.kept k2 (by simp)
  have ca0 := Ba2.cell (j := 0) rfl
  have ca1 := Ba2.cell (j := 1) rfl
  have ca2 := Ba2.cell (j := 2) rfl
  have ca3 := Ba2.cell (j := 3) rfl
  have ca4 := Ba2.cell (j := 4) rfl
  have ca5 := Ba2.cell (j := 5) rfl
  have ca6 := Ba2.cell (j := 6) rfl
  have ca7 := Ba2.cell (j := 7) rfl
  have ca8 := Ba2.cell (j := 8) rfl
  have ca9 := Ba2.cell (j := 9) rfl
  have ca10 := Ba2.cell (j := 10) rfl
  clear Ba k1 k2
  go_wp2_with fail
  refine (hBy _ K2).mono ?_
  clear hBy
  rintro e w3 ⟨u3, rfl, a3⟩
  have K3 := K2.then a3.2
  have b3 := a3.bs
  obtain ⟨p3, q3, rfl⟩ := own_shape2 a3.1
  have HBA := @hideH _ (Ba2.kept a3.2 (by simp))
  clear a3 K2 Ba2 ca0 ca1 ca2 ca3 ca4 ca5 ca6 ca7 ca8 ca9 ca10
  by_cases hR : xa.Right
  rotate_left
  · have eE := errF_f hR
    rw [eE]
    have KE := @hideH _ K3
    clear eE hR b3 K3
    go_wp2_with fail
    refine (rNum _ _).mono ?_
    rintro e wq ⟨rfl, hq⟩
    rw [hq]
    clear hq wq
    go_wp2_with fail
    refine (rNum _ _).mono ?_
    rintro e wq ⟨rfl, hq⟩
    rw [hq]
    clear hq wq
    go_wp2
    go_ret
    exact ⟨by simp, KE.out⟩
  have eE := errF_t hR
  have eB := bytesF_t hR
  rw [eB] at b3
  rw [eE, eB]
  have HR := @hideH _ hR
  obtain ⟨nn, hnn⟩ : ∃ nn, nn = (bytesR xa).length := ⟨_, rfl⟩
  have HNN := @hideH _ (show nn = (bytesR xa).length ∧ 17 ≤ nn ∧ nn ≤ 371 from ⟨hnn, by rw [hnn, bytesR_length hR]; unfold sizeT; split; omega; split; omega; split; omega; split; omega; omega, by rw [hnn]; exact bytesR_small hR⟩)
  rw [← hnn] at b3 ⊢
  clear eE eB hR hnn
  go_wp2_with fail
  refine (rNum _ _).mono ?_
  rintro e wq ⟨rfl, hq⟩
  rw [hq]
  clear hq wq
  go_wp2
  go_loopw [9, 10, 11] (fun vi _ _ wr => ∃ k : Nat, k ≤ nn ∧ vi = .int .i64 k ∧ Hid (Kept [] w3 wr)) (fun vi _ _ _ => nn - (intOf vi).toNat)
  case atStart => exact ⟨0, Nat.zero_le _, rfl, Kept.refl [] _⟩
  case round =>
    obtain ⟨k, hk, rfl, hh⟩ := hrel
    by_cases hkl : k < nn
    · have hkl' : (k : Int) < (nn : Int) := by omega
      have hk0 : (0 : Int) ≤ (k : Int) := by omega
      have wk : IntKind.i64.wrap ((k : Int) + 1) = (k : Int) + 1 := wrap_i64_of (by omega) (by have := HNN.out.2.2; omega)
      obtain ⟨p4, hcut, -, b4, -⟩ := b3.cuts (P := Try.prog) 22 5 Try.underlying22 sz8 k (by omega)
      have hno := parseR_cut HR.out (i := k) (by rw [← HNN.out.1]; exact hkl)
      have hP := qParse1 _ ((bytesR xa).take k) wr (b4.kept hh.out) (by rw [List.length_take]; have := HNN.out; omega)
      go_wp2_with fail
      refine hP.mono ?_
      clear hP hcut b4
      rintro e w5 ⟨Vb, xb, Eb, rfl, owb, k5, hb⟩
      obtain ⟨-, hE⟩ := parse_same hb.out (.inr ⟨hno, rfl, rfl⟩)
      subst hE
      have sb := owb.see
      obtain ⟨pbb, cbb, pab, cab, prb, crb, pdb, cdb, hVb⟩ := sb.shapes
      subst hVb
      have KE := @hideH _ (hh.out.then k5)
      clear hno hb owb k5 hh sb
      unfold Rcd.agg
      dsimp only
      go_wp2_with fail
      refine (rNum _ _).mono ?_
      rintro e wq ⟨rfl, hq⟩
      rw [hq]
      clear hq wq
      go_wp2
      go_roundw
      case rel => exact ⟨k + 1, by omega, by go_num, KE.out.alloc _⟩
      case measure => simp [intOf]; omega
    · have hkl' : ¬ (k : Int) < (nn : Int) := by omega
      obtain rfl : k = nn := by omega
      have bw := b3.kept hh.out
      have hng := (fun (m : List UInt8) (hm : m ≠ []) => parseR_more HR.out m hm)
      go_upto_region 14 with (at_builtin; refine wpList_append_bs rfl (.tmp 48) (.tmp 49) 22 rfl wr.heap.size 5 Try.underlying22 (by kernel_rfl) _ _ _ (by rfl) (own_nil wr wr.heap.size) _ (bytesR xa) (by rfl) bw (by have := HNN.out; omega) (Nat.le_refl _) ?_; intro v6 w6 o6 g6 at6)
      have k6 : Kept [] wr w6 := (Kept.refl [] wr).grown g6 (fun y hy => by cases hy)
      rw [← HNN.out.1, Nat.zero_add, show u8s [] ++ u8s (bytesR xa) = u8s (bytesR xa) from rfl] at o6
      obtain ⟨p6, q6, rfl⟩ := own_shape2 o6
      have hlit := Bs.litF w6 5 [x] #[.int .u8 (x.toNat : Int)] (0, 0) (by rfl) (by simp [maxLen]) _ rfl
      have k7 : Kept [] w6 (w6.alloc (.cells #[.int .u8 (x.toNat : Int)] 5)) := (Kept.refl [] w6).alloc _
      have o7 := own_of_kept o6 k7 (by simp)
      go_wp2_with (at_builtin; refine wpList_append_bs rfl (.tmp 52) (.tmp 54) 22 rfl wr.heap.size 5 Try.underlying22 (by kernel_rfl) _ _ _ (by rfl) o7 _ [x] (by rfl) hlit (by have := HNN.out; simp; omega) (by have := k6.size; rw [World.size_alloc]; omega) ?_; intro v8 w8 o8 g8 at8)
      have k8 : Kept [] wr w8 := (k6.then k7).grown g8 (fun y hy => .inr (own_ge o6 y hy))
      have b8 : Bs w8 v8 (bytesR xa ++ [x]) := Bs.ofOwn (n := (bytesR xa ++ [x]).length) (by rw [List.length_append, ← HNN.out.1, show u8s (bytesR xa ++ [x]) = u8s (bytesR xa) ++ u8s [x] from (by simp [u8s])]; exact o8)
      have hP := qParse1 _ (bytesR xa ++ [x]) w8 b8 (by rw [List.length_append, ← HNN.out.1]; have := HNN.out; simp; omega)
      skip
      obtain ⟨p8, q8, hv8⟩ := own_shape2 o8
      subst hv8
      clear hlit bw
      go_wp2_with fail
      refine hP.mono ?_
      clear hP
      rintro e w9 ⟨Vc, xc, Ec, rfl, owc, k9, hc⟩
      obtain ⟨-, hE⟩ := parse_same hc.out (.inr ⟨hng [x] (by simp), rfl, rfl⟩)
      subst hE
      have sc := owc.see
      obtain ⟨pbc, cbc, pac, cac, prc, crc, pdc, cdc, hVc⟩ := sc.shapes
      subst hVc
      have K9 := @hideH _ ((hh.out.then k8).then (k9.alloc (.cells #[.int .i64 xc.kind, .int .i64 xc.birth, .int .i64 xc.prev, .int .i64 xc.id, .int .i64 xc.page, .int .i64 xc.frm, .slice pbc xc.before.length cbc, .slice pac xc.after.length cac, .int .i64 xc.next, .slice prc xc.rows.length crc, .slice pdc xc.dirty.length cdc] 26)))
      obtain ⟨wd, hwd⟩ : ∃ wd, wd = w9.alloc (.cells #[.int .i64 xc.kind, .int .i64 xc.birth, .int .i64 xc.prev, .int .i64 xc.id, .int .i64 xc.page, .int .i64 xc.frm, .slice pbc xc.before.length cbc, .slice pac xc.after.length cac, .int .i64 xc.next, .slice prc xc.rows.length crc, .slice pdc xc.dirty.length cdc] 26) := ⟨_, rfl⟩
      rw [← hwd] at K9
      clear hc owc k9 sc hng b8 k8 hh o6 o7 o8 k6 k7 g6 g8 at6 at8
      unfold Rcd.agg
      dsimp only
      go_upto_region 15 with fail
      rw [← hwd]
      clear hwd
      go_wp2_with fail
      refine (rNum _ _).mono ?_
      rintro e wq ⟨rfl, hq⟩
      rw [hq]
      clear hq wq
      obtain ⟨N, hN, wm, hcase⟩ := rest_at n k (by have := HNN.out; omega) (by have := HNN.out; omega)
      have h0 : ¬ (k : Int) = 0 := by have := HNN.out; omega
      obtain ⟨y, hy⟩ : ∃ y, (bytesR xa)[N]? = some y := ⟨_, List.getElem?_eq_getElem (by rw [← HNN.out.1]; exact hN)⟩
      have hy8 : (u8s (bytesR xa))[N]? = some (.int .u8 (y.toNat : Int)) := by simp [u8s, hy]
      have n0 : (0 : Int) ≤ (N : Int) := by omega
      have n1 : (N : Int) < (k : Int) := by omega
      have HY := @hideH _ hy
      have bw := b3.kept K9.out
      clear hy
      rcases hcase with ⟨hlt, wa⟩ | ⟨hlt, wa⟩
      · skip
        go_upto_region 22 with (at_builtin; refine wpList_append_bs rfl (.tmp 72) (.tmp 73) 22 rfl wd.heap.size 5 Try.underlying22 (by kernel_rfl) _ _ _ (by rfl) (own_nil wd wd.heap.size) _ (bytesR xa) (by rfl) bw (by have := HNN.out; omega) (Nat.le_refl _) ?_; intro v10 w10 o10 g10 at10)
        have k10 : Kept [] wd w10 := (Kept.refl [] wd).grown g10 (fun y hy => by cases hy)
        rw [← HNN.out.1, Nat.zero_add, show u8s [] ++ u8s (bytesR xa) = u8s (bytesR xa) from rfl] at o10
        obtain ⟨gb, cb', hv10, hgb, hcell⟩ := own_at9 o10 (by have := HNN.out; omega)
        subst hv10
        obtain ⟨cN, fN⟩ := hcell N _ hy8
        obtain ⟨o11, k11⟩ := set_own o10 N (y ^^^ x) (bits .xor .u8 (y.toNat : Int) (x.toNat : Int)) (xorB y x)
        obtain ⟨w11, hw11⟩ : ∃ w11, w11 = w10.setCell ⟨gb, N, none⟩ (.int .u8 (bits .xor .u8 (y.toNat : Int) (x.toNat : Int))) := ⟨_, rfl⟩
        rw [← hw11] at o11 k11
        have b11 : Bs w11 (.slice (some ⟨gb, 0, none⟩) k cb') ((bytesR xa).set N (y ^^^ x)) := Bs.ofOwn (n := ((bytesR xa).set N (y ^^^ x)).length) (by rw [List.length_set, ← HNN.out.1]; exact o11)
        have K11 := @hideH _ ((K9.out.then k10).trans k11 (fun z hz => .inr (by simp at hz; have e1 := K9.out.size; omega)))
        clear hcell o10 o11 g10 at10 k10 k11 bw hgb
        go_upto_region 23 with fail
        rw [← hw11]
        clear hw11 cN fN
        have hP := qParse1 _ _ w11 b11 (by rw [List.length_set, ← HNN.out.1]; have := HNN.out; omega)
        go_wp2_with fail
        refine hP.mono ?_
        clear hP b11
        rintro e w12 ⟨Ve, xe, Ee, rfl, owe, k12, he⟩
        have se := owe.see
        obtain ⟨pbe, cbe, pae, cae, pre, cre, pde, cde, hVe⟩ := se.shapes
        subst hVe
        unfold Rcd.agg
        dsimp only
        obtain ⟨w13, hw13⟩ : ∃ wx, wx = w12.alloc (.cells #[.int .i64 xe.kind, .int .i64 xe.birth, .int .i64 xe.prev, .int .i64 xe.id, .int .i64 xe.page, .int .i64 xe.frm, .slice pbe xe.before.length cbe, .slice pae xe.after.length cae, .int .i64 xe.next, .slice pre xe.rows.length cre, .slice pde xe.dirty.length cde] 26) := ⟨_, rfl⟩
        have k13 : Kept [] w12 w13 := by rw [hw13]; exact (Kept.refl [] w12).alloc _
        have Be : Blk w13 w12.heap.size 26 [.int .i64 xe.kind, .int .i64 xe.birth, .int .i64 xe.prev, .int .i64 xe.id, .int .i64 xe.page, .int .i64 xe.frm, .slice pbe xe.before.length cbe, .slice pae xe.after.length cae, .int .i64 xe.next, .slice pre xe.rows.length cre, .slice pde xe.dirty.length cde] := by rw [hw13]; exact Blk.new w12 _ _
        have K13 := (K11.out.then k12).then k13
        have s13 := se.kept k13
        go_upto_region 24 with fail
        rw [← hw13]
        clear hw13 k12 k13 owe se
        rcases he.out with ⟨hp, hE⟩ | ⟨hp, -, hE⟩
        · subst hE
          have hIff := cuts_turn HR.out HY.out hp
          have hSm := rSame _ _ _ _ w13 s13 (HSA.out.kept (K3.then K13))
          unfold Rcd.agg at hSm
          dsimp only at hSm
          have ce0 := Be.cell (j := 0) rfl
          have ce1 := Be.cell (j := 1) rfl
          have ce2 := Be.cell (j := 2) rfl
          have ce3 := Be.cell (j := 3) rfl
          have ce4 := Be.cell (j := 4) rfl
          have ce5 := Be.cell (j := 5) rfl
          have ce6 := Be.cell (j := 6) rfl
          have ce7 := Be.cell (j := 7) rfl
          have ce8 := Be.cell (j := 8) rfl
          have ce9 := Be.cell (j := 9) rfl
          have ce10 := Be.cell (j := 10) rfl
          have Ba := HBA.out.kept K13 (by simp)
          have ca0 := Ba.cell (j := 0) rfl
          have ca1 := Ba.cell (j := 1) rfl
          have ca2 := Ba.cell (j := 2) rfl
          have ca3 := Ba.cell (j := 3) rfl
          have ca4 := Ba.cell (j := 4) rfl
          have ca5 := Ba.cell (j := 5) rfl
          have ca6 := Ba.cell (j := 6) rfl
          have ca7 := Ba.cell (j := 7) rfl
          have ca8 := Ba.cell (j := 8) rfl
          have ca9 := Ba.cell (j := 9) rfl
          have ca10 := Ba.cell (j := 10) rfl
          have hbl := bl_turn hIff
          rw [hbl] at hSm
          clear he hp hIff hbl s13 Be Ba
          go_wp2_with fail
          refine (rNum _ _).mono ?_
          rintro e wq ⟨rfl, hq⟩
          rw [hq]
          clear hq wq
          go_wp2_with fail
          refine hSm.mono ?_
          clear hSm ce0 ce1 ce2 ce3 ce4 ce5 ce6 ce7 ce8 ce9 ce10 ca0 ca1 ca2 ca3 ca4 ca5 ca6 ca7 ca8 ca9 ca10
          rintro e w14 ⟨rfl, k14⟩
          have KE := @hideH _ ((K3.then K13).then k14)
          clear k14 K13
          go_wp2
          go_ret
          exact ⟨by simp, KE.out⟩
        · subst hE
          have hx := cuts_none HR.out HY.out hp
          have hxb := ne_zero8 hx
          have KE := @hideH _ (K3.then K13)
          clear he hp s13 Be hx K13
          go_wp2_with fail
          refine (rNum _ _).mono ?_
          rintro e wq ⟨rfl, hq⟩
          rw [hq]
          clear hq wq
          go_wp2_with fail
          refine (rNum _ _).mono ?_
          rintro e wq ⟨rfl, hq⟩
          rw [hq]
          clear hq wq
          go_wp2
          go_ret
          exact ⟨by simp, KE.out⟩
      · skip
        go_upto_region 22 with (at_builtin; refine wpList_append_bs rfl (.tmp 72) (.tmp 73) 22 rfl wd.heap.size 5 Try.underlying22 (by kernel_rfl) _ _ _ (by rfl) (own_nil wd wd.heap.size) _ (bytesR xa) (by rfl) bw (by have := HNN.out; omega) (Nat.le_refl _) ?_; intro v10 w10 o10 g10 at10)
        have k10 : Kept [] wd w10 := (Kept.refl [] wd).grown g10 (fun y hy => by cases hy)
        rw [← HNN.out.1, Nat.zero_add, show u8s [] ++ u8s (bytesR xa) = u8s (bytesR xa) from rfl] at o10
        obtain ⟨gb, cb', hv10, hgb, hcell⟩ := own_at9 o10 (by have := HNN.out; omega)
        subst hv10
        obtain ⟨cN, fN⟩ := hcell N _ hy8
        obtain ⟨o11, k11⟩ := set_own o10 N (y ^^^ x) (bits .xor .u8 (y.toNat : Int) (x.toNat : Int)) (xorB y x)
        obtain ⟨w11, hw11⟩ : ∃ w11, w11 = w10.setCell ⟨gb, N, none⟩ (.int .u8 (bits .xor .u8 (y.toNat : Int) (x.toNat : Int))) := ⟨_, rfl⟩
        rw [← hw11] at o11 k11
        have b11 : Bs w11 (.slice (some ⟨gb, 0, none⟩) k cb') ((bytesR xa).set N (y ^^^ x)) := Bs.ofOwn (n := ((bytesR xa).set N (y ^^^ x)).length) (by rw [List.length_set, ← HNN.out.1]; exact o11)
        have K11 := @hideH _ ((K9.out.then k10).trans k11 (fun z hz => .inr (by simp at hz; have e1 := K9.out.size; omega)))
        clear hcell o10 o11 g10 at10 k10 k11 bw hgb
        go_upto_region 23 with fail
        rw [← hw11]
        clear hw11 cN fN
        have hP := qParse1 _ _ w11 b11 (by rw [List.length_set, ← HNN.out.1]; have := HNN.out; omega)
        go_wp2_with fail
        refine hP.mono ?_
        clear hP b11
        rintro e w12 ⟨Ve, xe, Ee, rfl, owe, k12, he⟩
        have se := owe.see
        obtain ⟨pbe, cbe, pae, cae, pre, cre, pde, cde, hVe⟩ := se.shapes
        subst hVe
        unfold Rcd.agg
        dsimp only
        obtain ⟨w13, hw13⟩ : ∃ wx, wx = w12.alloc (.cells #[.int .i64 xe.kind, .int .i64 xe.birth, .int .i64 xe.prev, .int .i64 xe.id, .int .i64 xe.page, .int .i64 xe.frm, .slice pbe xe.before.length cbe, .slice pae xe.after.length cae, .int .i64 xe.next, .slice pre xe.rows.length cre, .slice pde xe.dirty.length cde] 26) := ⟨_, rfl⟩
        have k13 : Kept [] w12 w13 := by rw [hw13]; exact (Kept.refl [] w12).alloc _
        have Be : Blk w13 w12.heap.size 26 [.int .i64 xe.kind, .int .i64 xe.birth, .int .i64 xe.prev, .int .i64 xe.id, .int .i64 xe.page, .int .i64 xe.frm, .slice pbe xe.before.length cbe, .slice pae xe.after.length cae, .int .i64 xe.next, .slice pre xe.rows.length cre, .slice pde xe.dirty.length cde] := by rw [hw13]; exact Blk.new w12 _ _
        have K13 := (K11.out.then k12).then k13
        have s13 := se.kept k13
        go_upto_region 24 with fail
        rw [← hw13]
        clear hw13 k12 k13 owe se
        rcases he.out with ⟨hp, hE⟩ | ⟨hp, -, hE⟩
        · subst hE
          have hIff := cuts_turn HR.out HY.out hp
          have hSm := rSame _ _ _ _ w13 s13 (HSA.out.kept (K3.then K13))
          unfold Rcd.agg at hSm
          dsimp only at hSm
          have ce0 := Be.cell (j := 0) rfl
          have ce1 := Be.cell (j := 1) rfl
          have ce2 := Be.cell (j := 2) rfl
          have ce3 := Be.cell (j := 3) rfl
          have ce4 := Be.cell (j := 4) rfl
          have ce5 := Be.cell (j := 5) rfl
          have ce6 := Be.cell (j := 6) rfl
          have ce7 := Be.cell (j := 7) rfl
          have ce8 := Be.cell (j := 8) rfl
          have ce9 := Be.cell (j := 9) rfl
          have ce10 := Be.cell (j := 10) rfl
          have Ba := HBA.out.kept K13 (by simp)
          have ca0 := Ba.cell (j := 0) rfl
          have ca1 := Ba.cell (j := 1) rfl
          have ca2 := Ba.cell (j := 2) rfl
          have ca3 := Ba.cell (j := 3) rfl
          have ca4 := Ba.cell (j := 4) rfl
          have ca5 := Ba.cell (j := 5) rfl
          have ca6 := Ba.cell (j := 6) rfl
          have ca7 := Ba.cell (j := 7) rfl
          have ca8 := Ba.cell (j := 8) rfl
          have ca9 := Ba.cell (j := 9) rfl
          have ca10 := Ba.cell (j := 10) rfl
          have hbl := bl_turn hIff
          rw [hbl] at hSm
          clear he hp hIff hbl s13 Be Ba
          go_wp2_with fail
          refine (rNum _ _).mono ?_
          rintro e wq ⟨rfl, hq⟩
          rw [hq]
          clear hq wq
          go_wp2_with fail
          refine hSm.mono ?_
          clear hSm ce0 ce1 ce2 ce3 ce4 ce5 ce6 ce7 ce8 ce9 ce10 ca0 ca1 ca2 ca3 ca4 ca5 ca6 ca7 ca8 ca9 ca10
          rintro e w14 ⟨rfl, k14⟩
          have KE := @hideH _ ((K3.then K13).then k14)
          clear k14 K13
          go_wp2
          go_ret
          exact ⟨by simp, KE.out⟩
        · subst hE
          have hx := cuts_none HR.out HY.out hp
          have hxb := ne_zero8 hx
          have KE := @hideH _ (K3.then K13)
          clear he hp s13 Be hx K13
          go_wp2_with fail
          refine (rNum _ _).mono ?_
          rintro e wq ⟨rfl, hq⟩
          rw [hq]
          clear hq wq
          go_wp2_with fail
          refine (rNum _ _).mono ?_
          rintro e wq ⟨rfl, hq⟩
          rw [hq]
          clear hq wq
          go_wp2
          go_ret
          exact ⟨by simp, KE.out⟩
end Go.Proofs.Ytebcmcmboomgfaa

/-
  OWN WORK (by mkropen.py). A record that came in, with the weights of its lists.
-/
namespace Go.Proofs.Ytebcmcmboomgfaa
open Go.ChangeShapes Go.WideShapes Go.ChangeAt Go.RowKit Go.Deep
set_option linter.unusedVariables false
set_option linter.unusedSimpArgs false

theorem wAll_mem9 {H : Type} {P : Program} {e : TypeId} : ∀ {ds : List (DataW H)} {d : DataW H}, d ∈ ds → ∀ n ∈ d.weights P e, n ∈ DataW.weightsAll P e ds
  | d0 :: ds, d, hd, n, hn => by
    simp only [DataW.weightsAll, List.mem_append]
    rcases List.mem_cons.1 hd with c | c
    · subst c; exact .inl hn
    · exact .inr (wAll_mem9 c n hn)
theorem all_le9 {l : List Nat} {r n : Nat} (h : l.all (· ≤ r) = true) (hn : n ∈ l) : n ≤ r := by simpa using List.all_eq_true.1 h n hn
theorem all_sub9 {l k : List Nat} {r : Nat} (h : l.all (· ≤ r) = true) (hs : ∀ n ∈ k, n ∈ l) : k.all (· ≤ r) = true := List.all_eq_true.2 fun n hn => List.all_eq_true.1 h n (hs n hn)
theorem lits_wt9 {H : Type} {P : Program} {t e : TypeId} {k : IntKind} {len : Nat} {zs : List Int} {r : Nat} (ht : P.underlying t = some (.slice e)) (h : ((DataW.slice (lits k (zs.take len)) (lits k (zs.drop len)) : DataW H).weights P t).all (· ≤ r) = true) : zs.length * P.bytesOf e ≤ r := by
  have hm : ((lits (H := H) k (zs.take len)).length + (lits (H := H) k (zs.drop len)).length) * P.bytesOf e ∈ (DataW.slice (lits k (zs.take len)) (lits k (zs.drop len)) : DataW H).weights P t := by
    simp only [DataW.weights, ht]
    exact List.mem_cons_self
  have := all_le9 h hm
  have e1 : (lits (H := H) k (zs.take len)).length + (lits (H := H) k (zs.drop len)).length = zs.length := by
    unfold lits
    rw [List.length_map, List.length_map, ← List.length_append, List.take_append_drop]
  rwa [e1] at this
theorem bsV_open9 {H : Type} {enc : TypeId × Value → H} {W : World} {t e : TypeId} {fuel : Nat} {v : Value} {x : DataW H × List MemPlace} (ht : Try.prog.underlying t = some (.slice e)) (he : Try.prog.underlying e = some (.int .u8)) (hc : Try.prog.cellsOf e = 1)
    (hf : DataW.trod enc Try.prog W 0 (fun _ => true) true fuel t [v] = some x) : ∃ l : List UInt8, Bs W v l ∧ ∀ r, (x.1.weights Try.prog t).all (· ≤ r) = true → l.length * Try.prog.bytesOf e ≤ r := by
  rcases open_ints ht he hc hf with ⟨hcs, hx⟩ | ⟨a, len, cap, zs, hcs, _, hl, hm, hz, hx, hcell, hwz⟩
  · simp at hcs
    subst hcs
    exact ⟨[], Bs.nil W, fun r _ => by simp⟩
  · simp at hcs
    subst hcs
    have hz' : zs.length = cap := by simpa using hz
    exact ⟨bytesOfInts (zs.take len), bs_cells hl hm hz' (fun e => by cases e) (fun a' ha i hi => by cases ha; exact hcell i (by omega)) hwz, fun r hr => by
      subst hx
      have := lits_wt9 ht hr
      refine Nat.le_trans (Nat.mul_le_mul_right _ ?_) this
      rw [bytes_length, List.length_take]; omega⟩
theorem list2_of {α : Type} {l : List α} (h : l.length = 2) : ∃ a0 a1, l = [a0, a1] := by
  match l, h with
  | [a0, a1], _ => exact ⟨a0, a1, rfl⟩
theorem list5_of {α : Type} {l : List α} (h : l.length = 5) : ∃ a0 a1 a2 a3 a4, l = [a0, a1, a2, a3, a4] := by
  match l, h with
  | [a0, a1, a2, a3, a4], _ => exact ⟨a0, a1, a2, a3, a4, rfl⟩
theorem list11_of {α : Type} {l : List α} (h : l.length = 11) : ∃ a0 a1 a2 a3 a4 a5 a6 a7 a8 a9 a10, l = [a0, a1, a2, a3, a4, a5, a6, a7, a8, a9, a10] := by
  match l, h with
  | [a0, a1, a2, a3, a4, a5, a6, a7, a8, a9, a10], _ => exact ⟨a0, a1, a2, a3, a4, a5, a6, a7, a8, a9, a10, rfl⟩
theorem choose_lt9 {α : Type} [Inhabited α] {n : Nat} {Q : Nat → α → Prop} (h : ∀ i, i < n → ∃ q, Q i q) : ∃ q : Nat → α, ∀ i, i < n → Q i (q i) := by
  refine ⟨fun i => if hi : i < n then Classical.choose (h i hi) else default, fun i hi => ?_⟩
  simp only [hi, dif_pos]
  exact Classical.choose_spec (h i hi)

theorem rcells_all {l : List RowR} {Q : Nat → Value → Prop} (h : ∀ (i : Nat) x, l[i]? = some x → Q (i * 5) (.int .i64 x.birth) ∧ Q (i * 5 + 1) (.int .i64 x.id) ∧ Q (i * 5 + 2) (.int .i64 x.state) ∧ Q (i * 5 + 3) (.int .i64 x.last) ∧ Q (i * 5 + 4) (.int .i64 x.next)) : ∀ (j : Nat) u, (rcells l)[j]? = some u → Q j u := by
  intro j u hj
  have hlt := (List.getElem?_eq_some_iff.1 hj).1
  rw [rcells_length] at hlt
  have hi : j / 5 < l.length := by omega
  have hx : l[j / 5]? = some l[j / 5] := List.getElem?_eq_getElem hi
  have hat := rcells_at hx
  have hh := h _ _ hx
  have hm : j % 5 < 5 := Nat.mod_lt _ (by omega)
  have hj2 : j = j / 5 * 5 + j % 5 := by omega
  rw [hj2] at hj ⊢
  generalize j % 5 = k at hm hj ⊢
  have : k = 0 ∨ k = 1 ∨ k = 2 ∨ k = 3 ∨ k = 4 := by omega
  rcases this with rfl | rfl | rfl | rfl | rfl
  · rw [Nat.add_zero, hat.1] at hj
    cases hj
    exact hh.1
  · rw [hat.2.1] at hj
    cases hj
    exact hh.2.1
  · rw [hat.2.2.1] at hj
    cases hj
    exact hh.2.2.1
  · rw [hat.2.2.2.1] at hj
    cases hj
    exact hh.2.2.2.1
  · rw [hat.2.2.2.2] at hj
    cases hj
    exact hh.2.2.2.2
set_option maxHeartbeats 800000 in
theorem rowsV_open {H : Type} {enc : TypeId × Value → H} {W : World} {t e : TypeId} {f0 f1 f2 f3 f4 : Field} {fuel : Nat} {v : Value} {x : DataW H × List MemPlace} (ht : Try.prog.underlying t = some (.slice e)) (he : Try.prog.underlying e = some (.struct #[f0, f1, f2, f3, f4]))
    (ce : Try.prog.cellsOf e = 5) (o0 : f0.offset = 0) (o1 : f1.offset = 1) (o2 : f2.offset = 2) (o3 : f3.offset = 3) (o4 : f4.offset = 4) (c0 : Try.prog.cellsOf f0.type = 1) (c1 : Try.prog.cellsOf f1.type = 1) (c2 : Try.prog.cellsOf f2.type = 1) (c3 : Try.prog.cellsOf f3.type = 1) (c4 : Try.prog.cellsOf f4.type = 1) (t0 : Try.prog.underlying f0.type = some (.int .i64)) (t1 : Try.prog.underlying f1.type = some (.int .i64)) (t2 : Try.prog.underlying f2.type = some (.int .i64)) (t3 : Try.prog.underlying f3.type = some (.int .i64)) (t4 : Try.prog.underlying f4.type = some (.int .i64))
    (hf : DataW.trod enc Try.prog W 0 (fun _ => true) true fuel t [v] = some x) : ∃ l : List RowR, Cs W 5 v l.length (rcells l) ∧ ∀ r, (x.1.weights Try.prog t).all (· ≤ r) = true → l.length * Try.prog.bytesOf e ≤ r := by
  rcases open_slice ht hf with ⟨hcs, hx⟩ | ⟨a, len, cap, m, n, D, Pl, hcs, hb, hl, hm, hmm, hx, hel⟩
  · simp at hcs
    subst hcs
    exact ⟨[], ⟨rfl, by simp [rcells], none, 0, rfl, Nat.le_refl _, by simp [maxLen], fun _ => rfl, fun a e => (by cases e)⟩, fun r _ => by simp⟩
  · simp at hcs
    subst hcs
    have hmm' : m = cap := by simpa using hmm
    have each : ∀ i, i < m → ∃ q : RowR, W.cell? (a.add (i * 5)) = some (.int .i64 q.birth) ∧ W.cell? (a.add (i * 5 + 1)) = some (.int .i64 q.id) ∧ W.cell? (a.add (i * 5 + 2)) = some (.int .i64 q.state) ∧ W.cell? (a.add (i * 5 + 3)) = some (.int .i64 q.last) ∧ W.cell? (a.add (i * 5 + 4)) = some (.int .i64 q.next) := by
      intro i hi
      obtain ⟨cs', g1, g2⟩ := hel i hi
      rw [ce] at g1
      obtain ⟨_, hlen, hcell⟩ := World.cells?_some g1
      obtain ⟨xs, k, hk, hxy, _, hxl, hff⟩ := DataW.trod_struct he g2
      obtain ⟨v0, v1, v2, v3, v4, rfl⟩ := list5_of hlen
      have q0 := hff 0 f0 rfl
      have q1 := hff 1 f1 rfl
      have q2 := hff 2 f2 rfl
      have q3 := hff 3 f3 rfl
      have q4 := hff 4 f4 rfl
      have hxl' : xs.length = 5 := hxl
      obtain ⟨y0, y1, y2, y3, y4, rfl⟩ := list5_of hxl'
      simp [o0, c0, o1, c1, o2, c2, o3, c3, o4, c4] at q0 q1 q2 q3 q4
      obtain ⟨z0, e0, -, -⟩ := DataW.trod_int t0 q0
      obtain ⟨z1, e1, -, -⟩ := DataW.trod_int t1 q1
      obtain ⟨z2, e2, -, -⟩ := DataW.trod_int t2 q2
      obtain ⟨z3, e3, -, -⟩ := DataW.trod_int t3 q3
      obtain ⟨z4, e4, -, -⟩ := DataW.trod_int t4 q4
      simp at e0 e1 e2 e3 e4
      subst e0 e1 e2 e3 e4
      have x0 := hcell 0 (by omega)
      have x1 := hcell 1 (by omega)
      have x2 := hcell 2 (by omega)
      have x3 := hcell 3 (by omega)
      have x4 := hcell 4 (by omega)
      refine ⟨⟨z0, z1, z2, z3, z4⟩, ?_, ?_, ?_, ?_, ?_⟩
      · rw [Go.Proofs.Ytebcmcmboomgfaa.add_add] at x0; simpa using x0
      · rw [Go.Proofs.Ytebcmcmboomgfaa.add_add] at x1; simpa using x1
      · rw [Go.Proofs.Ytebcmcmboomgfaa.add_add] at x2; simpa using x2
      · rw [Go.Proofs.Ytebcmcmboomgfaa.add_add] at x3; simpa using x3
      · rw [Go.Proofs.Ytebcmcmboomgfaa.add_add] at x4; simpa using x4
    haveI : Inhabited RowR := ⟨⟨0, 0, 0, 0, 0⟩⟩
    obtain ⟨q, hq⟩ := choose_lt9 each
    refine ⟨(List.range len).map q, ⟨by rw [rcells_length], rcells_one _, some a, cap, by simp, by simpa using hl, hm, fun e => (by cases e), fun a' ea => ?_⟩, fun r hr => ?_⟩
    · cases ea
      refine rcells_all (Q := fun j u => W.cell? (a.add j) = some u) fun i x hx2 => ?_
      simp only [List.getElem?_map] at hx2
      obtain ⟨j, hj, rfl⟩ := Option.map_eq_some_iff.1 hx2
      obtain ⟨hj2, rfl⟩ := List.getElem?_eq_some_iff.1 hj
      have hi : i < len := by simpa using hj2
      simp only [List.getElem_range]
      exact hq i (by omega)
    · subst hx
      simp only [List.length_map, List.length_range]
      have hmem : ((List.map D (List.range len)).length + (List.map (fun j => D (len + j)) (List.range (m - len))).length) * Try.prog.bytesOf e ∈ (DataW.slice (List.map D (List.range len)) (List.map (fun j => D (len + j)) (List.range (m - len))) : DataW H).weights Try.prog t := by
        simp only [DataW.weights, ht]
        exact List.mem_cons_self
      have h9 := all_le9 hr hmem
      simp only [List.length_map, List.length_range] at h9
      exact Nat.le_trans (Nat.mul_le_mul_right _ (by omega)) h9
theorem dcells_all {l : List RecR} {Q : Nat → Value → Prop} (h : ∀ (i : Nat) x, l[i]? = some x → Q (i * 2) (.int .i64 x.page) ∧ Q (i * 2 + 1) (.int .i64 x.lsn)) : ∀ (j : Nat) u, (dcells l)[j]? = some u → Q j u := by
  intro j u hj
  have hlt := (List.getElem?_eq_some_iff.1 hj).1
  rw [dcells_length] at hlt
  have hi : j / 2 < l.length := by omega
  have hx : l[j / 2]? = some l[j / 2] := List.getElem?_eq_getElem hi
  have hat := dcells_at hx
  have hh := h _ _ hx
  have hm : j % 2 < 2 := Nat.mod_lt _ (by omega)
  have hj2 : j = j / 2 * 2 + j % 2 := by omega
  rw [hj2] at hj ⊢
  generalize j % 2 = k at hm hj ⊢
  have : k = 0 ∨ k = 1 := by omega
  rcases this with rfl | rfl
  · rw [Nat.add_zero, hat.1] at hj
    cases hj
    exact hh.1
  · rw [hat.2] at hj
    cases hj
    exact hh.2
set_option maxHeartbeats 800000 in
theorem recsV_open {H : Type} {enc : TypeId × Value → H} {W : World} {t e : TypeId} {f0 f1 : Field} {fuel : Nat} {v : Value} {x : DataW H × List MemPlace} (ht : Try.prog.underlying t = some (.slice e)) (he : Try.prog.underlying e = some (.struct #[f0, f1]))
    (ce : Try.prog.cellsOf e = 2) (o0 : f0.offset = 0) (o1 : f1.offset = 1) (c0 : Try.prog.cellsOf f0.type = 1) (c1 : Try.prog.cellsOf f1.type = 1) (t0 : Try.prog.underlying f0.type = some (.int .i64)) (t1 : Try.prog.underlying f1.type = some (.int .i64))
    (hf : DataW.trod enc Try.prog W 0 (fun _ => true) true fuel t [v] = some x) : ∃ l : List RecR, Cs W 2 v l.length (dcells l) ∧ ∀ r, (x.1.weights Try.prog t).all (· ≤ r) = true → l.length * Try.prog.bytesOf e ≤ r := by
  rcases open_slice ht hf with ⟨hcs, hx⟩ | ⟨a, len, cap, m, n, D, Pl, hcs, hb, hl, hm, hmm, hx, hel⟩
  · simp at hcs
    subst hcs
    exact ⟨[], ⟨rfl, by simp [dcells], none, 0, rfl, Nat.le_refl _, by simp [maxLen], fun _ => rfl, fun a e => (by cases e)⟩, fun r _ => by simp⟩
  · simp at hcs
    subst hcs
    have hmm' : m = cap := by simpa using hmm
    have each : ∀ i, i < m → ∃ q : RecR, W.cell? (a.add (i * 2)) = some (.int .i64 q.page) ∧ W.cell? (a.add (i * 2 + 1)) = some (.int .i64 q.lsn) := by
      intro i hi
      obtain ⟨cs', g1, g2⟩ := hel i hi
      rw [ce] at g1
      obtain ⟨_, hlen, hcell⟩ := World.cells?_some g1
      obtain ⟨xs, k, hk, hxy, _, hxl, hff⟩ := DataW.trod_struct he g2
      obtain ⟨v0, v1, rfl⟩ := list2_of hlen
      have q0 := hff 0 f0 rfl
      have q1 := hff 1 f1 rfl
      have hxl' : xs.length = 2 := hxl
      obtain ⟨y0, y1, rfl⟩ := list2_of hxl'
      simp [o0, c0, o1, c1] at q0 q1
      obtain ⟨z0, e0, -, -⟩ := DataW.trod_int t0 q0
      obtain ⟨z1, e1, -, -⟩ := DataW.trod_int t1 q1
      simp at e0 e1
      subst e0 e1
      have x0 := hcell 0 (by omega)
      have x1 := hcell 1 (by omega)
      refine ⟨⟨z0, z1⟩, ?_, ?_⟩
      · rw [Go.Proofs.Ytebcmcmboomgfaa.add_add] at x0; simpa using x0
      · rw [Go.Proofs.Ytebcmcmboomgfaa.add_add] at x1; simpa using x1
    haveI : Inhabited RecR := ⟨⟨0, 0⟩⟩
    obtain ⟨q, hq⟩ := choose_lt9 each
    refine ⟨(List.range len).map q, ⟨by rw [dcells_length], dcells_one _, some a, cap, by simp, by simpa using hl, hm, fun e => (by cases e), fun a' ea => ?_⟩, fun r hr => ?_⟩
    · cases ea
      refine dcells_all (Q := fun j u => W.cell? (a.add j) = some u) fun i x hx2 => ?_
      simp only [List.getElem?_map] at hx2
      obtain ⟨j, hj, rfl⟩ := Option.map_eq_some_iff.1 hx2
      obtain ⟨hj2, rfl⟩ := List.getElem?_eq_some_iff.1 hj
      have hi : i < len := by simpa using hj2
      simp only [List.getElem_range]
      exact hq i (by omega)
    · subst hx
      simp only [List.length_map, List.length_range]
      have hmem : ((List.map D (List.range len)).length + (List.map (fun j => D (len + j)) (List.range (m - len))).length) * Try.prog.bytesOf e ∈ (DataW.slice (List.map D (List.range len)) (List.map (fun j => D (len + j)) (List.range (m - len))) : DataW H).weights Try.prog t := by
        simp only [DataW.weights, ht]
        exact List.mem_cons_self
      have h9 := all_le9 hr hmem
      simp only [List.length_map, List.length_range] at h9
      exact Nat.le_trans (Nat.mul_le_mul_right _ (by omega)) h9
set_option maxRecDepth 4000 in
set_option maxHeartbeats 1600000 in
theorem rcd_open {H : Type} {enc : TypeId × Value → H} {W : World} {t q er ed : TypeId} {f0 f1 f2 f3 f4 f5 f6 f7 f8 f9 f10 g0 g1 g2 g3 g4 k0 k1 : Field} {cs : Array Value} {d : DataW H} {p : List MemPlace} (ht : Try.prog.underlying t = some (.struct #[f0, f1, f2, f3, f4, f5, f6, f7, f8, f9, f10])) (hsz : cs.size = 11)
    (o0 : f0.offset = 0) (o1 : f1.offset = 1) (o2 : f2.offset = 2) (o3 : f3.offset = 3) (o4 : f4.offset = 4) (o5 : f5.offset = 5) (o6 : f6.offset = 6) (o7 : f7.offset = 7) (o8 : f8.offset = 8) (o9 : f9.offset = 9) (o10 : f10.offset = 10) (c0 : Try.prog.cellsOf f0.type = 1) (c1 : Try.prog.cellsOf f1.type = 1) (c2 : Try.prog.cellsOf f2.type = 1) (c3 : Try.prog.cellsOf f3.type = 1) (c4 : Try.prog.cellsOf f4.type = 1) (c5 : Try.prog.cellsOf f5.type = 1) (c6 : Try.prog.cellsOf f6.type = 1) (c7 : Try.prog.cellsOf f7.type = 1) (c8 : Try.prog.cellsOf f8.type = 1) (c9 : Try.prog.cellsOf f9.type = 1) (c10 : Try.prog.cellsOf f10.type = 1)
    (t0 : Try.prog.underlying f0.type = some (.int .i64)) (t1 : Try.prog.underlying f1.type = some (.int .i64)) (t2 : Try.prog.underlying f2.type = some (.int .i64)) (t3 : Try.prog.underlying f3.type = some (.int .i64)) (t4 : Try.prog.underlying f4.type = some (.int .i64)) (t5 : Try.prog.underlying f5.type = some (.int .i64)) (t8 : Try.prog.underlying f8.type = some (.int .i64)) (t6 : Try.prog.underlying f6.type = some (.slice q)) (t7 : Try.prog.underlying f7.type = some (.slice q)) (tq : Try.prog.underlying q = some (.int .u8)) (cq : Try.prog.cellsOf q = 1)
    (t9 : Try.prog.underlying f9.type = some (.slice er)) (te : Try.prog.underlying er = some (.struct #[g0, g1, g2, g3, g4])) (ce : Try.prog.cellsOf er = 5) (ro0 : g0.offset = 0) (ro1 : g1.offset = 1) (ro2 : g2.offset = 2) (ro3 : g3.offset = 3) (ro4 : g4.offset = 4) (rc0 : Try.prog.cellsOf g0.type = 1) (rc1 : Try.prog.cellsOf g1.type = 1) (rc2 : Try.prog.cellsOf g2.type = 1) (rc3 : Try.prog.cellsOf g3.type = 1) (rc4 : Try.prog.cellsOf g4.type = 1) (rt0 : Try.prog.underlying g0.type = some (.int .i64)) (rt1 : Try.prog.underlying g1.type = some (.int .i64)) (rt2 : Try.prog.underlying g2.type = some (.int .i64)) (rt3 : Try.prog.underlying g3.type = some (.int .i64)) (rt4 : Try.prog.underlying g4.type = some (.int .i64))
    (t10 : Try.prog.underlying f10.type = some (.slice ed)) (td : Try.prog.underlying ed = some (.struct #[k0, k1])) (cd : Try.prog.cellsOf ed = 2) (ko0 : k0.offset = 0) (ko1 : k1.offset = 1) (kc0 : Try.prog.cellsOf k0.type = 1) (kc1 : Try.prog.cellsOf k1.type = 1) (kt0 : Try.prog.underlying k0.type = some (.int .i64)) (kt1 : Try.prog.underlying k1.type = some (.int .i64))
    (h : DataW.Trod enc Try.prog W 0 (fun _ => true) true t (.agg cs) d p) : ∃ (V : RV) (x : Rcd), Value.agg cs = x.agg V ∧ SeeR W V x ∧ ∀ r, (d.weights Try.prog t).all (· ≤ r) = true → x.before.length * Try.prog.bytesOf q ≤ r ∧ x.after.length * Try.prog.bytesOf q ≤ r ∧ x.rows.length * Try.prog.bytesOf er ≤ r ∧ x.dirty.length * Try.prog.bytesOf ed ≤ r := by
  obtain ⟨fuel, hf⟩ := h
  obtain ⟨xs, k, hk, hxy, _, hxl, hff⟩ := DataW.trod_struct ht hf
  have hxl' : xs.length = 11 := hxl
  obtain ⟨y0, y1, y2, y3, y4, y5, y6, y7, y8, y9, y10, rfl⟩ := list11_of hxl'
  obtain ⟨v0, v1, v2, v3, v4, v5, v6, v7, v8, v9, v10, hv⟩ := list11_of (show cs.toList.length = 11 by simpa using hsz)
  have q0 := hff 0 f0 rfl
  have q1 := hff 1 f1 rfl
  have q2 := hff 2 f2 rfl
  have q3 := hff 3 f3 rfl
  have q4 := hff 4 f4 rfl
  have q5 := hff 5 f5 rfl
  have q6 := hff 6 f6 rfl
  have q7 := hff 7 f7 rfl
  have q8 := hff 8 f8 rfl
  have q9 := hff 9 f9 rfl
  have q10 := hff 10 f10 rfl
  simp [Value.cells, hv, o0, c0, o1, c1, o2, c2, o3, c3, o4, c4, o5, c5, o6, c6, o7, c7, o8, c8, o9, c9, o10, c10] at q0 q1 q2 q3 q4 q5 q6 q7 q8 q9 q10
  obtain ⟨z0, e0, -, -⟩ := DataW.trod_int t0 q0
  obtain ⟨z1, e1, -, -⟩ := DataW.trod_int t1 q1
  obtain ⟨z2, e2, -, -⟩ := DataW.trod_int t2 q2
  obtain ⟨z3, e3, -, -⟩ := DataW.trod_int t3 q3
  obtain ⟨z4, e4, -, -⟩ := DataW.trod_int t4 q4
  obtain ⟨z5, e5, -, -⟩ := DataW.trod_int t5 q5
  obtain ⟨z8, e8, -, -⟩ := DataW.trod_int t8 q8
  simp at e0 e1 e2 e3 e4 e5 e8
  subst e0 e1 e2 e3 e4 e5 e8
  obtain ⟨lb, bb, wb⟩ := bsV_open9 t6 tq cq q6
  obtain ⟨la, ba, wa⟩ := bsV_open9 t7 tq cq q7
  obtain ⟨lr, br, wr⟩ := rowsV_open t9 te ce ro0 ro1 ro2 ro3 ro4 rc0 rc1 rc2 rc3 rc4 rt0 rt1 rt2 rt3 rt4 q9
  obtain ⟨ld, bd, wd⟩ := recsV_open t10 td cd ko0 ko1 kc0 kc1 kt0 kt1 q10
  have hcs : cs = #[.int .i64 z0, .int .i64 z1, .int .i64 z2, .int .i64 z3, .int .i64 z4, .int .i64 z5, v6, v7, .int .i64 z8, v9, v10] := by rw [← Array.toArray_toList (xs := cs), hv]
  subst hcs
  have hd : d = .agg [y0.1, y1.1, y2.1, y3.1, y4.1, y5.1, y6.1, y7.1, y8.1, y9.1, y10.1] := by simpa using congrArg Prod.fst hxy
  refine ⟨⟨v6, v7, v9, v10⟩, ⟨z0, z1, z2, z3, z4, z5, lb, la, z8, lr, ld⟩, rfl, ⟨bb, ba, br, bd⟩, fun r hr => ?_⟩
  rw [hd] at hr
  simp only [DataW.weights, ht] at hr
  exact ⟨wb r (all_sub9 hr fun n hn => DataW.weights_mem_each (j := 6) rfl rfl n hn), wa r (all_sub9 hr fun n hn => DataW.weights_mem_each (j := 7) rfl rfl n hn), wr r (all_sub9 hr fun n hn => DataW.weights_mem_each (j := 9) rfl rfl n hn), wd r (all_sub9 hr fun n hn => DataW.weights_mem_each (j := 10) rfl rfl n hn)⟩
end Go.Proofs.Ytebcmcmboomgfaa

/-
  OWN WORK. THE STATEMENT, out of the walk.
-/
namespace Go.Proofs.Ytebcmcmboomgfaa.recordCuts
open Go.ChangeShapes Go.WideShapes Go.ChangeAt Go.RowKit
set_option linter.unusedVariables false
set_option maxRecDepth 100000 in
theorem contract (H : Type) (enc : TypeId × Value → H) (W : World) (base : Nat) (args : Array Value) (ds gs : List (DataW H)) (before : List MemPlace)
    (hval : ∀ (j : Nat) t v, Try.f3.params[j]? = some t → args[j]? = some v → Value.okWide Try.prog W .any base t v)
    (hW : DataW.Whole enc Try.prog Try.f3.params.toList Rows.recordCutsSpec.vars false W args.toList ds gs before) (hsz : (DataW.weightsEach Try.prog (Try.f3.params.toList ++ Rows.recordCutsSpec.plain.varTypes Try.prog) (ds ++ gs)).all (· ≤ reachBytes) = true) :
    Calls Try.prog 3 args W fun e W' => ∃ v, e = .returned v ∧ Rows.recordCutsSpec.post enc Try.prog Try.f3 false true false false W args v W' := by
  have hW' := hW
  obtain ⟨p, q, hA0, hV, rfl, hfz, hnd⟩ := hW
  have hA : DataW.TrodAll enc Try.prog W 0 (fun _ => true) true Try.f3.params.toList args.toList ds p := hA0
  rw [Try.params3] at hA hval hsz
  obtain ⟨v0, vs0, d0, ds0, p0, q0, hargs, rfl, rfl, h0, r0⟩ := trodAll_cons hA
  obtain ⟨v1, vs1, d1, ds1, p1, q1, rfl, rfl, rfl, h1, r1⟩ := trodAll_cons r0
  obtain ⟨v2, vs2, d2, ds2, p2, q2, rfl, rfl, rfl, h2, r2⟩ := trodAll_cons r1
  obtain ⟨rfl, rfl, rfl⟩ := trodAll_nil r2
  obtain rfl : args = #[v0, v1, v2] := by cases args; simp_all
  obtain ⟨rfl, rfl⟩ := trodVars_none hV
  have hv0 : Value.okWide Try.prog W .any base 26 v0 := hval 0 26 v0 (by rfl) (by rfl)
  obtain ⟨cs0, rfl, sz0⟩ := okWide_struct (P := Try.prog) (t := 26) Try.underlying26 hv0
  clear hv0
  have lt0 : ∀ x ∈ p0, x.block < W.heap.size := by obtain ⟨m, hm⟩ := h0; exact DataW.trod_lt m _ _ _ hm
  obtain ⟨V0, x0, hag0, see0, wt0⟩ := rcd_open Try.underlying26 (sz0.trans (by kernel_rfl)) rfl rfl rfl rfl rfl rfl rfl rfl rfl rfl rfl (by kernel_rfl) (by kernel_rfl) (by kernel_rfl) (by kernel_rfl) (by kernel_rfl) (by kernel_rfl) (by kernel_rfl) (by kernel_rfl) (by kernel_rfl) (by kernel_rfl) (by kernel_rfl) (by kernel_rfl) (by kernel_rfl) (by kernel_rfl) (by kernel_rfl) (by kernel_rfl) (by kernel_rfl) (by kernel_rfl) Try.underlying22 Try.underlying22 Try.underlying5 (by kernel_rfl) Try.underlying23 Try.underlying66 (by kernel_rfl) rfl rfl rfl rfl rfl (by kernel_rfl) (by kernel_rfl) (by kernel_rfl) (by kernel_rfl) (by kernel_rfl) (by kernel_rfl) (by kernel_rfl) (by kernel_rfl) (by kernel_rfl) (by kernel_rfl) Try.underlying24 Try.underlying68 (by kernel_rfl) rfl rfl (by kernel_rfl) (by kernel_rfl) (by kernel_rfl) (by kernel_rfl) h0
  rw [hag0] at h0 hW' ⊢
  obtain ⟨a1, rfl, rfl, rfl, w1⟩ := open_int Try.underlying3 (hval 1 3 v1 rfl rfl) h1
  have bd1 := bounds_i64 w1
  obtain ⟨a2, rfl, rfl, rfl, w2⟩ := open_int Try.underlying5 (hval 2 5 v2 rfl rfl) h2
  have bd2 := bounds_u8 w2
  obtain ⟨x2, rfl⟩ : ∃ x : Nat, a2 = (x : Int) := ⟨a2.toNat, by omega⟩
  clear hA0
  obtain ⟨y2, rfl⟩ : ∃ y : UInt8, x2 = y.toNat := ⟨UInt8.ofNat x2, by rw [UInt8.toNat_ofNat']; omega⟩
  refine (recordCuts_walk V0 x0 a1 y2 W see0).mono fun e W' ⟨he, kp⟩ => ?_
  subst he
  have bel := kp.below
  exact ⟨_, rfl, _, _, _, [], _, [], hW', trodAll_mk1 (shut_bool Try.underlying4 _), (trodAll_cons_mk (Below.trod laidOut (by kernel_rfl) (of_decide_eq_true (by kernel_rfl)) h0 bel lt0) (trodAll_cons_mk (shut_int Try.underlying3 w1) (trodAll_cons_mk (shut_int Try.underlying5 w2) trodAll_mk0))), rfl, bel.frame _, fun h => by cases h⟩

set_option maxRecDepth 100000 in
theorem lifted (os : Os) (started : os.Started) (H : Type) (enc : TypeId × Value → H) :
    ReturnsInHanded {} Try.checked os 3 .any (Rows.recordCutsSpec.pre6 enc Try.prog Try.f3 Rows.recordCutsRow.domain false) (Rows.recordCutsSpec.post enc Try.prog Try.f3 false true false false) := by
  refine returnsInHanded_of_change_sized (C := Try.checked) own started (by kernel_rfl) Try.func3
    (ChangeSpec.witness6 (enc := enc) (C := Try.checked) false ⟨#[], #[.agg #[.int .i64 0, .int .i64 0, .int .i64 0, .int .i64 0, .int .i64 0, .int .i64 0, .slice none 0 0, .slice none 0 0, .int .i64 0, .slice none 0 0, .slice none 0 0], .int .i64 0, .int .u8 0], []⟩ 8 (by kernel_rfl) (by kernel_rfl) (by kernel_rfl) (by kernel_rfl)) ?_
  intro W base args ds gs before hval hW _ hsz _
  exact contract H enc W base args ds gs before hval hW hsz

theorem proved : Rows.RecordCutsSaid :=
  OpenClaim.holds_of_wide 3 Try.f3 rfl rfl rfl rfl rfl rfl rfl ⟨rfl, rfl, rfl, rfl, rfl⟩ rfl rfl rfl rfl rfl (by kernel_rfl) Try.func3 (by kernel_rfl)
    (of_decide_eq_true (by kernel_rfl)) (by unfold Func.isWrapper; first | (rw [if_pos (by decide +kernel)]; kernel_rfl) | (rw [if_neg (by decide +kernel)]; exact ⟨rfl, rfl⟩))
    (fun os started H enc _ => lifted os started H enc)
#print axioms proved
end Go.Proofs.Ytebcmcmboomgfaa.recordCuts

