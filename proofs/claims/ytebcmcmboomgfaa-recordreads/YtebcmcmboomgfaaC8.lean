import Derived.Test.YtebcmcmboomgfaaRows
import Derived.Test.YtebcmcmboomgfaaC7
/-
  OWN WORK. The laws of record: whole, grown, full.
-/
namespace Go.Proofs.Ytebcmcmboomgfaa
open Go.RowKit
set_option linter.unusedVariables false
set_option linter.unusedSimpArgs false

set_option maxRecDepth 20000 in
set_option maxHeartbeats 3200000 in
theorem whole_any (u v : Value) (L b : List UInt8) (w : World) (hu : Bs w u L) (hv : Bs w v b) (hcap : b.length + 120 ≤ 140737488355328) :
    Calls Try.prog 24 #[u, v] w fun e w' => e = .returned (.bool (bl (L = b ++ lent9))) ∧ Kept [] w w' := by
  obtain ⟨pu, cu, rfl, -⟩ := id hu
  obtain ⟨pv, cv, rfl, -⟩ := id hv
  have HU := @hideH _ hu
  have HV := @hideH _ hv
  have HC := @hideH _ hcap
  have kx : Kept [] w w.drew := (Kept.refl [] w).drew
  obtain ⟨M, hM⟩ : ∃ M, M = b ++ lent9 := ⟨_, rfl⟩
  have HM := @hideH _ hM
  rw [← hM]
  clear hu hv hcap hM
  by_cases he : L = M
  · rw [bl_t he]
    subst he
    go_enter Try.func24, Try.ntmps24
    go_upto_region 1 with fail
    refine wp_region_late (fun w' => (Go.convert 22 9 (.slice pu L.length cu)).run Try.prog w' = .ok (.string ⟨L.toArray⟩) w') 6 (by kernel_rfl) ?_
    have hS : (Go.convert 22 9 (.slice pu L.length cu)).run Try.prog w.drew = .ok (.string ⟨L.toArray⟩) w.drew := (HU.out.kept kx).textR
    refine wpAnyZ_take 0 (v := ?v0) rfl (by kernel_rfl) (by kernel_rfl) (by kernel_rfl) (by kernel_rfl) (fun _ _ _ h => h) (by rfl) ?hy0 hS ?rest0
    case hy0 => (intro wx hSx; (try dsimp only at hSx); go_simp; (try with_reducible rfl))
    (try simp only [Act.put, List.setIfInBounds_toArray, List.set_cons_zero, List.set_cons_succ])
    refine wpAnyZ_take 1 (v := ?v1) rfl (by kernel_rfl) (by kernel_rfl) (by kernel_rfl) (by kernel_rfl) (fun _ _ _ h => h) (by rfl) ?hy1 hS ?rest1
    case hy1 => (intro wx hSx; (try dsimp only at hSx); go_simp; (try with_reducible rfl))
    (try simp only [Act.put, List.setIfInBounds_toArray, List.set_cons_zero, List.set_cons_succ])
    refine wpAnyZ_take 2 (v := ?v2) rfl (by kernel_rfl) (by kernel_rfl) (by kernel_rfl) (by kernel_rfl) (fun _ _ _ h => h) (by rfl) ?hy2 hS ?rest2
    case hy2 => (intro wx hSx; (try dsimp only at hSx); go_simp; (try with_reducible rfl))
    (try simp only [Act.put, List.setIfInBounds_toArray, List.set_cons_zero, List.set_cons_succ])
    refine wpAnyZ_one 3 rfl (by kernel_rfl) (fun K hK => ?_)
    go_simp
    refine (lent_any _ b _ (HV.out.kept kx) HC.out).mono ?_
    rintro e w5 ⟨v5, rfl, o5, kn⟩
    rw [← HM.out] at o5
    have t5 := (Bs.ofOwn o5).textR
    obtain ⟨p5, c5, rfl⟩ := own_shape2 o5
    have K5 := @hideH _ (kx.then kn)
    have hS3 : (Go.convert 22 9 (.slice pu L.length cu)).run Try.prog w5 = .ok (.string ⟨L.toArray⟩) w5 := (HU.out.kept K5.out).textR
    dsimp only
    refine hK _ _ (fun _ => hS3) ?_
    clear hK K hS kn kx
    (try simp only [Act.put, List.setIfInBounds_toArray, List.set_cons_zero, List.set_cons_succ])
    refine wpAnyZ_one 4 rfl (by kernel_rfl) (fun K hK => ?_)
    go_simp
    refine hK _ _ (fun _ => hS3) ?_
    clear hK K
    (try simp only [Act.put, List.setIfInBounds_toArray, List.set_cons_zero, List.set_cons_succ])
    refine wpAnyZ_one 5 rfl (by kernel_rfl) (fun K hK => ?_)
    go_simp
    refine hK _ _ (fun _ => hS3) ?_
    clear hK K
    (try simp only [Act.put, List.setIfInBounds_toArray, List.set_cons_zero, List.set_cons_succ])
    refine wpAnyZ_one 6 rfl (by kernel_rfl) (fun K hK => ?_)
    go_simp
    refine hK _ _ (fun h => absurd rfl h) ?_
    clear hK K
    (try simp only [Act.put, List.setIfInBounds_toArray, List.set_cons_zero, List.set_cons_succ])
    refine wpAnyZ_done (by kernel_rfl) ?_ _
    clear hS3 t5 o5
    go_wp2
    go_ret
    exact ⟨by simp, K5.out⟩
  · rw [bl_f he]
    go_enter Try.func24, Try.ntmps24
    go_upto_region 1 with fail
    refine wp_region_late (fun w' => (Go.convert 22 9 (.slice pu L.length cu)).run Try.prog w' = .ok (.string ⟨L.toArray⟩) w') 6 (by kernel_rfl) ?_
    have hS : (Go.convert 22 9 (.slice pu L.length cu)).run Try.prog w.drew = .ok (.string ⟨L.toArray⟩) w.drew := (HU.out.kept kx).textR
    refine wpAnyZ_take 0 (v := ?vb0) rfl (by kernel_rfl) (by kernel_rfl) (by kernel_rfl) (by kernel_rfl) (fun _ _ _ h => h) (by rfl) ?hyb0 hS ?restb0
    case hyb0 => (intro wx hSx; (try dsimp only at hSx); go_simp; (try with_reducible rfl))
    (try simp only [Act.put, List.setIfInBounds_toArray, List.set_cons_zero, List.set_cons_succ])
    refine wpAnyZ_take 1 (v := ?vb1) rfl (by kernel_rfl) (by kernel_rfl) (by kernel_rfl) (by kernel_rfl) (fun _ _ _ h => h) (by rfl) ?hyb1 hS ?restb1
    case hyb1 => (intro wx hSx; (try dsimp only at hSx); go_simp; (try with_reducible rfl))
    (try simp only [Act.put, List.setIfInBounds_toArray, List.set_cons_zero, List.set_cons_succ])
    refine wpAnyZ_take 2 (v := ?vb2) rfl (by kernel_rfl) (by kernel_rfl) (by kernel_rfl) (by kernel_rfl) (fun _ _ _ h => h) (by rfl) ?hyb2 hS ?restb2
    case hyb2 => (intro wx hSx; (try dsimp only at hSx); go_simp; (try with_reducible rfl))
    (try simp only [Act.put, List.setIfInBounds_toArray, List.set_cons_zero, List.set_cons_succ])
    refine wpAnyZ_one 3 rfl (by kernel_rfl) (fun K hK => ?_)
    go_simp
    refine (lent_any _ b _ (HV.out.kept kx) HC.out).mono ?_
    rintro e w5 ⟨v5, rfl, o5, kn⟩
    rw [← HM.out] at o5
    have t5 := (Bs.ofOwn o5).textR
    obtain ⟨p5, c5, rfl⟩ := own_shape2 o5
    have K5 := @hideH _ (kx.then kn)
    have hS3 : (Go.convert 22 9 (.slice pu L.length cu)).run Try.prog w5 = .ok (.string ⟨L.toArray⟩) w5 := (HU.out.kept K5.out).textR
    dsimp only
    refine hK _ _ (fun _ => hS3) ?_
    clear hK K hS kn kx
    (try simp only [Act.put, List.setIfInBounds_toArray, List.set_cons_zero, List.set_cons_succ])
    refine wpAnyZ_one 4 rfl (by kernel_rfl) (fun K hK => ?_)
    go_simp
    refine hK _ _ (fun _ => hS3) ?_
    clear hK K
    (try simp only [Act.put, List.setIfInBounds_toArray, List.set_cons_zero, List.set_cons_succ])
    refine wpAnyZ_one 5 rfl (by kernel_rfl) (fun K hK => ?_)
    go_simp
    refine hK _ _ (fun _ => hS3) ?_
    clear hK K
    (try simp only [Act.put, List.setIfInBounds_toArray, List.set_cons_zero, List.set_cons_succ])
    refine wpAnyZ_one 6 rfl (by kernel_rfl) (fun K hK => ?_)
    go_simp
    refine hK _ _ (fun h => absurd rfl h) ?_
    clear hK K
    (try simp only [Act.put, List.setIfInBounds_toArray, List.set_cons_zero, List.set_cons_succ])
    refine wpAnyZ_done (by kernel_rfl) ?_ _
    clear hS3 t5 o5
    go_wp2
    go_ret
    exact ⟨by simp [he], K5.out⟩
/-- eighty marks behind -/
theorem grown_any (u : Value) (b : List UInt8) (m : UInt8) (base : Nat) (w : World) (hu : w.ownsRow base 5 1 u b.length (u8s b)) (hcap : b.length + 80 ≤ 140737488355328) (hb : base ≤ w.heap.size) :
    Calls Try.prog 35 #[u, .int .u8 (m.toNat : Int)] w fun e w' => ∃ v, e = .returned v ∧ w'.ownsRow base 5 1 v (b.length + 80) (u8s (b ++ List.replicate 80 m)) ∧ Kept u.ownBlock.toList w w' ∧ ∀ y, v.ownBlock = some y → u.ownBlock = some y ∨ w.heap.size ≤ y := by
  obtain ⟨p0, c0, rfl⟩ := own_shape2 hu
  have HB := @hideH _ hb
  have HC := @hideH _ hcap
  have HU := @hideH _ hu
  clear hb hcap hu
  go_enter Try.func35, Try.ntmps35
  go_wp2
  go_loopw [0, 5] (fun l i wr => ∃ k : Nat, k ≤ 80 ∧ i = .int .i64 k ∧ Hid (wr.ownsRow base 5 1 l (b.length + k) (u8s (b ++ List.replicate k m)) ∧ Kept (Value.slice p0 b.length c0).ownBlock.toList w wr ∧ ∀ y, l.ownBlock = some y → (Value.slice p0 b.length c0).ownBlock = some y ∨ w.heap.size ≤ y)) (fun _ i _ => 80 - (intOf i).toNat)
  case atStart => exact ⟨0, Nat.zero_le _, rfl, by simpa using HU.out, Kept.refl _ _, fun y hy => .inl hy⟩
  case round =>
    clear HU
    obtain ⟨k, hk, rfl, hh⟩ := hrel
    obtain ⟨p, c, rfl⟩ := own_shape2 hh.out.1
    by_cases hkl : k < 80
    · have hkl' : (k : Int) < 80 := by omega
      have wk : IntKind.i64.wrap ((k : Int) + 1) = (k : Int) + 1 := wrap_i64_of (by omega) (by omega)
      have ha := @hideH _ (hh.out.1.alloc (.cells #[.int .u8 (m.toNat : Int)] 5))
      have bc := byte_cell wr 5 _ m rfl
      go_wp2_with (at_builtin; refine wpList_append_byte rfl (.tmp 10) (.tmp 12) 22 rfl base 5 Try.underlying22 (by kernel_rfl) _ _ _ (by rfl) ha.out ⟨wr.heap.size, 0, none⟩ 1 m (by rfl) bc (by have e1 := HC.out; omega) (by have e1 := HB.out; have e2 := hh.out.2.1.size; simp; omega) ?_; intro v2 w2 o2 g2 at2; have k2 : Kept (Value.slice p0 b.length c0).ownBlock.toList w w2 := (hh.out.2.1.alloc _).grown g2 (fun y hy => (hh.out.2.2 y hy).elim (fun e => .inl (by simp [e])) .inr); have REL := @hideH _ (And.intro (show w2.ownsRow base 5 1 v2 (b.length + (k + 1)) (u8s (b ++ List.replicate (k + 1) m)) by rw [List.replicate_succ', ← List.append_assoc]; exact o2) (And.intro k2 (show ∀ y, v2.ownBlock = some y → (Value.slice p0 b.length c0).ownBlock = some y ∨ w.heap.size ≤ y from fun y hy => by rcases at2 with e | e; (exact hh.out.2.2 y (by rw [← e]; exact hy)); (have e2 := hh.out.2.1.size; rw [e.1] at hy; simp at hy; right; omega)))); clear o2 g2 at2 k2)
      clear ha bc hh
      go_roundw
      case rel => exact ⟨k + 1, by omega, by go_num, REL⟩
      case measure => simp [intOf]; omega
    · obtain rfl : k = 80 := by omega
      have FIN := hh
      clear hh
      go_wp2
      go_ret
      exact ⟨_, rfl, FIN.out⟩
end Go.Proofs.Ytebcmcmboomgfaa

/-
  OWN WORK (by mklw1.py). RecordReads.
-/
namespace Go.Proofs.Ytebcmcmboomgfaa
open Go.RowKit
set_option linter.unusedVariables false
set_option linter.unusedSimpArgs false

def zeroR : Rcd := ⟨0, 0, 0, 0, 0, 0, [], [], 0, [], []⟩
/-- both answers of Parse in one form -/
theorem qParse1 (v : Value) (l : List UInt8) (w : World) (hv : Bs w v l) (hl : l.length ≤ 140737488355328) : Calls Try.prog 12 #[v] w fun e w' => ∃ (V : RV) (r : Rcd) (E : Int), e = .returned (.tuple #[r.agg V, .int .i64 E]) ∧ OwnR w.heap.size w' V r ∧ Kept [] w w' ∧ Hid ((parseR l = some r ∧ E = 0) ∨ (parseR l = none ∧ r = zeroR ∧ E = 90)) := by
  refine (qParse v l w hv hl).mono ?_
  rintro e w' (⟨x, V, hp, rfl, ow, k⟩ | ⟨hp, rfl, k⟩)
  · exact ⟨V, x, 0, rfl, ow, k, .inl ⟨hp, rfl⟩⟩
  · exact ⟨nilV, zeroR, 90, rfl, OwnR.bare _ _ _ _ _ _ _ _ _, k, .inr ⟨hp, rfl, rfl⟩⟩
theorem parse_same {l : List UInt8} {r s : Rcd} {E F : Int} (h1 : (parseR l = some r ∧ E = 0) ∨ (parseR l = none ∧ r = zeroR ∧ E = 90)) (h2 : (parseR l = some s ∧ F = 0) ∨ (parseR l = none ∧ s = zeroR ∧ F = 90)) : r = s ∧ E = F := by
  rcases h1 with ⟨a, rfl⟩ | ⟨a, rfl, rfl⟩ <;> rcases h2 with ⟨b, rfl⟩ | ⟨b, rfl, rfl⟩
  · rw [a] at b; cases b; exact ⟨rfl, rfl⟩
  · rw [a] at b; cases b
  · rw [a] at b; cases b
  · exact ⟨rfl, rfl⟩
set_option maxRecDepth 20000 in
set_option maxHeartbeats 6400000 in
theorem recordReads_walk (v : Value) (l : List UInt8) (w : World) (hv : Bs w v l) (hcap : l.length + 120 ≤ 140737488355328) : Calls Try.prog 7 #[v] w fun e w' => e = .returned (.bool true) ∧ Kept [] w w' := by
  have hLent := lent_any v l w hv hcap
  have HV := @hideH _ hv
  have HC := @hideH _ hcap
  obtain ⟨pv, cv, rfl, -⟩ := id hv
  clear hcap hv
  go_enter Try.func7, Try.ntmps7
  go_wp2_with fail
  refine hLent.mono ?_
  clear hLent
  rintro e w1 ⟨vl, rfl, o1, k1⟩
  obtain ⟨p1, c1, rfl⟩ := own_shape2 o1
  have b1 := Bs.ofOwn o1
  have hlen : (l ++ lent9).length = l.length + 120 := by rw [List.length_append, lent9_length]
  obtain ⟨p2, hcut, -, b2, -⟩ := b1.cuts (P := Try.prog) 22 5 Try.underlying22 sz8 l.length (by omega)
  rw [List.take_left' rfl] at b2
  have hP := qParse1 _ l w1 b2 (by have := HC.out; omega)
  have HB1 := @hideH _ b1
  clear o1 b1 b2
  go_wp2_with fail
  refine hP.mono ?_
  clear hP hcut
  rintro e w2 ⟨Va, xa, Ea, rfl, owa, k2, ha⟩
  have sa := owa.see
  obtain ⟨pba, cba, paa, caa, pra, cra, pda, cda, hVa⟩ := sa.shapes
  subst hVa
  obtain ⟨kinda, birtha, preva, ida, pagea, frma, beforea, aftera, nexta, rowsa, dirtya⟩ := xa
  unfold Rcd.agg
  dsimp only
  obtain ⟨w3, hw3⟩ : ∃ wx, wx = w2.alloc (.cells #[.int .i64 kinda, .int .i64 birtha, .int .i64 preva, .int .i64 ida, .int .i64 pagea, .int .i64 frma, .slice pba beforea.length cba, .slice paa aftera.length caa, .int .i64 nexta, .slice pra rowsa.length cra, .slice pda dirtya.length cda] 26) := ⟨_, rfl⟩
  have k3 : Kept [] w2 w3 := by rw [hw3]; exact (Kept.refl [] w2).alloc _
  have Ba : Blk w3 w2.heap.size 26 [.int .i64 kinda, .int .i64 birtha, .int .i64 preva, .int .i64 ida, .int .i64 pagea, .int .i64 frma, .slice pba beforea.length cba, .slice paa aftera.length caa, .int .i64 nexta, .slice pra rowsa.length cra, .slice pda dirtya.length cda] := by rw [hw3]; exact Blk.new w2 _ _
  go_upto_region 3 with fail
  rw [← hw3]
  clear hw3
  have hQ := rParse _ l w3 (HV.out.kept ((k1.then k2).then k3))
  go_wp2_with fail
  refine hQ.mono ?_
  clear hQ
  rintro e w4 ⟨Vb, xb, Eb, rfl, sb, k4, hb⟩
  obtain ⟨hx, rfl⟩ := parse_same ha.out hb.out
  subst hx
  clear ha hb
  obtain ⟨pbb, cbb, pab, cab, prb, crb, pdb, cdb, hVb⟩ := sb.shapes
  subst hVb
  unfold Rcd.agg
  dsimp only
  obtain ⟨w5, hw5⟩ : ∃ wx, wx = w4.alloc (.cells #[.int .i64 kinda, .int .i64 birtha, .int .i64 preva, .int .i64 ida, .int .i64 pagea, .int .i64 frma, .slice pbb beforea.length cbb, .slice pab aftera.length cab, .int .i64 nexta, .slice prb rowsa.length crb, .slice pdb dirtya.length cdb] 26) := ⟨_, rfl⟩
  have k5 : Kept [] w4 w5 := by rw [hw5]; exact (Kept.refl [] w4).alloc _
  have Bb : Blk w5 w4.heap.size 26 [.int .i64 kinda, .int .i64 birtha, .int .i64 preva, .int .i64 ida, .int .i64 pagea, .int .i64 frma, .slice pbb beforea.length cbb, .slice pab aftera.length cab, .int .i64 nexta, .slice prb rowsa.length crb, .slice pdb dirtya.length cdb] := by rw [hw5]; exact Blk.new w4 _ _
  go_upto_region 4 with fail
  rw [← hw5]
  clear hw5
  go_wp2_with fail
  refine (alive_any _).mono ?_
  rintro e w6 ⟨rfl, k6⟩
  have hSm := rSame _ _ _ _ w6 (((sa.kept k3).kept k4).kept (k5.then k6)) (sb.kept (k5.then k6))
  rw [bl_t rfl] at hSm
  unfold Rcd.agg at hSm
  dsimp only at hSm
  have Ba6 := (Ba.kept k4 (by simp)).kept (k5.then k6) (by simp)
  have Bb6 := Bb.kept k6 (by simp)
  have ca0 := Ba6.cell (j := 0) rfl
  have ca1 := Ba6.cell (j := 1) rfl
  have ca2 := Ba6.cell (j := 2) rfl
  have ca3 := Ba6.cell (j := 3) rfl
  have ca4 := Ba6.cell (j := 4) rfl
  have ca5 := Ba6.cell (j := 5) rfl
  have ca6 := Ba6.cell (j := 6) rfl
  have ca7 := Ba6.cell (j := 7) rfl
  have ca8 := Ba6.cell (j := 8) rfl
  have ca9 := Ba6.cell (j := 9) rfl
  have ca10 := Ba6.cell (j := 10) rfl
  have cb0 := Bb6.cell (j := 0) rfl
  have cb1 := Bb6.cell (j := 1) rfl
  have cb2 := Bb6.cell (j := 2) rfl
  have cb3 := Bb6.cell (j := 3) rfl
  have cb4 := Bb6.cell (j := 4) rfl
  have cb5 := Bb6.cell (j := 5) rfl
  have cb6 := Bb6.cell (j := 6) rfl
  have cb7 := Bb6.cell (j := 7) rfl
  have cb8 := Bb6.cell (j := 8) rfl
  have cb9 := Bb6.cell (j := 9) rfl
  have cb10 := Bb6.cell (j := 10) rfl
  have K6 := @hideH _ ((((((k1.then k2).then k3).then k4).then k5).then k6))
  have K16 := @hideH _ (((((k2.then k3).then k4).then k5).then k6))
  clear k1 k2 k3 k4 k5 k6 sa sb owa Ba Bb Ba6 Bb6
  go_wp2_with fail
  refine hSm.mono ?_
  clear hSm
  rintro e w7 ⟨rfl, k7⟩
  clear ca0 cb0 ca1 cb1 ca2 cb2 ca3 cb3 ca4 cb4 ca5 cb5 ca6 cb6 ca7 cb7 ca8 cb8 ca9 cb9 ca10 cb10
  go_wp2_with fail
  refine (rNum _ _).mono ?_
  rintro e w8 ⟨rfl, rfl⟩
  have hW := whole_any _ _ (l ++ lent9) l _ (HB1.out.kept (K16.out.then k7)) (HV.out.kept (K6.out.then k7)) HC.out
  rw [bl_t rfl] at hW
  skip
  go_wp2_with fail
  refine hW.mono ?_
  clear hW
  rintro e w9 ⟨rfl, k9⟩
  have KE := @hideH _ ((K6.out.then k7).then k9)
  clear k7 k9
  go_wp2
  go_ret
  exact ⟨by simp, KE.out⟩
end Go.Proofs.Ytebcmcmboomgfaa

/-
  OWN WORK. THE STATEMENT, out of the walk.
-/
namespace Go.Proofs.Ytebcmcmboomgfaa.recordReads
open Go.ChangeShapes Go.WideShapes Go.ChangeAt Go.RowKit
set_option linter.unusedVariables false
set_option maxRecDepth 100000 in
theorem contract (H : Type) (enc : TypeId × Value → H) (W : World) (base : Nat) (args : Array Value) (ds gs : List (DataW H)) (before : List MemPlace)
    (hval : ∀ (j : Nat) t v, Try.f7.params[j]? = some t → args[j]? = some v → Value.okWide Try.prog W .any base t v)
    (hW : DataW.Whole enc Try.prog Try.f7.params.toList Rows.recordReadsSpec.vars false W args.toList ds gs before) (hsz : (DataW.weightsEach Try.prog (Try.f7.params.toList ++ Rows.recordReadsSpec.plain.varTypes Try.prog) (ds ++ gs)).all (· ≤ reachBytes) = true) :
    Calls Try.prog 7 args W fun e W' => ∃ v, e = .returned v ∧ Rows.recordReadsSpec.post enc Try.prog Try.f7 false true false false W args v W' := by
  have hW' := hW
  obtain ⟨p, q, hA0, hV, rfl, hfz, hnd⟩ := hW
  have hA : DataW.TrodAll enc Try.prog W 0 (fun _ => true) true Try.f7.params.toList args.toList ds p := hA0
  rw [Try.params7] at hA hval hsz
  obtain ⟨v0, vs0, d0, ds0, p0, q0, hargs, rfl, rfl, h0, r0⟩ := trodAll_cons hA
  obtain ⟨rfl, rfl, rfl⟩ := trodAll_nil r0
  obtain rfl : args = #[v0] := by cases args; simp_all
  obtain ⟨rfl, rfl⟩ := trodVars_none hV
  obtain ⟨ao0, len0, cap0, rfl⟩ := okWide_slice Try.underlying22 (hval 0 22 v0 rfl rfl)
  have lt0 : ∀ x ∈ p0, x.block < W.heap.size := by obtain ⟨m, hm⟩ := h0; exact DataW.trod_lt m _ _ _ hm
  obtain ⟨l0, hl0, B0, b0, dd0⟩ := bs_open Try.underlying22 Try.underlying5 (by kernel_rfl) h0
  clear hA0
  have sz0 := sized_len hsz (j := 0) (t := 22) (e := 5) rfl rfl Try.underlying22 (by kernel_rfl) dd0
  refine (recordReads_walk _ l0 W B0 (by omega)).mono fun e W' ⟨he, kp⟩ => ?_
  subst he
  have bel := kp.below
  exact ⟨_, rfl, _, _, _, [], _, [], hW', trodAll_mk1 (shut_bool Try.underlying4 _), (trodAll_cons_mk (Below.trod laidOut (by kernel_rfl) (of_decide_eq_true (by kernel_rfl)) h0 bel lt0) trodAll_mk0), rfl, bel.frame _, fun h => by cases h⟩

set_option maxRecDepth 100000 in
theorem lifted (os : Os) (started : os.Started) (H : Type) (enc : TypeId × Value → H) :
    ReturnsInHanded {} Try.checked os 7 .any (Rows.recordReadsSpec.pre6 enc Try.prog Try.f7 Rows.recordReadsRow.domain false) (Rows.recordReadsSpec.post enc Try.prog Try.f7 false true false false) := by
  refine returnsInHanded_of_change_sized (C := Try.checked) own started (by kernel_rfl) Try.func7
    (ChangeSpec.witness6 (enc := enc) (C := Try.checked) false ⟨#[], #[.slice none 0 0], []⟩ 8 (by kernel_rfl) (by kernel_rfl) (by kernel_rfl) (by kernel_rfl)) ?_
  intro W base args ds gs before hval hW _ hsz _
  exact contract H enc W base args ds gs before hval hW hsz

theorem proved : Rows.RecordReadsSaid :=
  OpenClaim.holds_of_wide 7 Try.f7 rfl rfl rfl rfl rfl rfl rfl ⟨rfl, rfl, rfl, rfl, rfl⟩ rfl rfl rfl rfl rfl (by kernel_rfl) Try.func7 (by kernel_rfl)
    (of_decide_eq_true (by kernel_rfl)) (by unfold Func.isWrapper; first | (rw [if_pos (by decide +kernel)]; kernel_rfl) | (rw [if_neg (by decide +kernel)]; exact ⟨rfl, rfl⟩))
    (fun os started H enc _ => lifted os started H enc)
#print axioms proved
end Go.Proofs.Ytebcmcmboomgfaa.recordReads

