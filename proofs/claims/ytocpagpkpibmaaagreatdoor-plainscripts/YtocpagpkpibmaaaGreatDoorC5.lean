import Derived.Test.YtocpagpkpibmaaaGreatDoorC4
/-
  OWN WORK (by mkpnm.py). The law's told (layer 18), for any State.
-/
namespace Go.Proofs.YtocpagpkpibmaaaGreatDoor
open Go.RowKit
set_option linter.unusedVariables false
set_option linter.unusedSimpArgs false

set_option maxRecDepth 20000 in
set_option maxHeartbeats 1600000 in
theorem changes_q (a b : Value) (l : List Chg) (b1 b2 : Nat) (w : World) (ha : Cs w b1 a l) (hb : Cs w b2 b l) : Calls Tryz.prog 60 #[a, b] w fun e w' => e = .returned (.bool true) ∧ ∃ m, w' = w.drewN m := by
  obtain ⟨p, c, hpa, hnc, hcm⟩ := ha.shape
  subst hpa
  obtain ⟨q, d, hqb, -, -⟩ := hb.shape
  subst hqb
  obtain ⟨n, hn⟩ : ∃ n, n = l.length := ⟨_, rfl⟩
  have HN := @hideH _ (And.intro hn (Nat.le_trans hnc hcm))
  have HA := @hideH _ ha
  have HB := @hideH _ hb
  rw [← hn] at HA HB ⊢
  clear ha hb hn hnc hcm
  go_enter Tryz.func60, Tryz.ntmps60
  go_wp2
  go_loopw [5] (fun vi wr => ∃ k : Nat, k ≤ n ∧ vi = .int .i64 k ∧ Hid (∃ m, wr = w.drewN m)) (fun vi _ => n - (intOf vi).toNat)
  case atStart => exact ⟨0, Nat.zero_le _, rfl, 0, rfl⟩
  case round =>
    obtain ⟨k, hk, rfl, hh⟩ := hrel
    have HKK := @hideH _ (show Kept [] w wr by obtain ⟨m, hm⟩ := hh.out; rw [hm]; exact (Kept.refl [] w).drewN' _)
    by_cases hkl : k < n
    · have hkl' : (k : Int) < (n : Int) := by omega
      have h0 : (0 : Int) ≤ (k : Int) := by omega
      have wk : IntKind.i64.wrap ((k : Int) + 1) = (k : Int) + 1 := wrap_i64_of (by omega) (by have e := HN.out.2; rw [← HN.out.1] at e; unfold maxLen at e; omega)
      obtain ⟨x, hx⟩ : ∃ x, l[k]? = some x := ⟨_, List.getElem?_eq_getElem (by have := HN.out.1; omega)⟩
      obtain ⟨ga, epa, -, -, a0, a1, a2⟩ := (HA.out.kept HKK.out (by simp)).at hx
      obtain ⟨gb, epb, -, -, b0_, b1_, b2_⟩ := (HB.out.kept HKK.out (by simp)).at hx
      subst epa epb
      have hk1 : (x.key != x.key) = false := by simp
      have hk2 : (x.val != x.val) = false := by simp
      have hk3 : (x.gone != x.gone) = false := by simp
      have HK := @hideH _ hh.out
      clear hx hh
      go_upto_region 6 with fail
      go_quiet (fail)
      go_wp2
      go_roundw
      case rel => exact ⟨k + 1, by omega, by go_num, by obtain ⟨m, hm⟩ := HK.out; exact ⟨m + nq, by rw [hm, World.drewN_drewN]⟩⟩
      case measure => simp [intOf]; omega
    · have hkl' : ¬ (k : Int) < (n : Int) := by omega
      go_wp2
      go_ret
      exact ⟨rfl, hh.out⟩
variable {Ks : List Nat} {Vr : World → Prop} {Pn : World → Nat → List Nat → Cf → St → Prop} (O : PnOps Ks Vr Pn) (E : PnTel Vr Pn)
include O E
set_option maxRecDepth 20000 in
set_option maxHeartbeats 6400000 in
theorem told_any {gP gR : Nat} {FP FR : List Nat} {c : Cf} {S : St} (w : World) (h : Two Ks Vr Pn w gP FP gR FR c S) (hs : small S) : Calls Tryz.prog 29 #[.pointer (some ⟨gP, 0, none⟩), .pointer (some ⟨gR, 0, none⟩)] w fun e w' => e = .returned (.bool true) ∧ Kept [] w w' := by
  have HT := @hideH _ h
  have HSM := @hideH _ (And.intro hs (small_few h.r.ok hs))
  clear h hs
  go_enter Tryz.func29, Tryz.ntmps29
  go_wp2_with fail
  refine (E.entries _ HT.out.v HT.out.p HSM.out.1).mono ?_
  rintro e w1 ⟨va, rfl, ea, k1⟩
  have T1 := HT.out.then O k1
  go_wp2_with fail
  refine (rEntries _ T1.r HSM.out.2.2.2).mono ?_
  rintro e w2 ⟨vb, rfl, eb, k2⟩
  have T2 := T1.then O k2
  replace ea := ea.kept k2 (by simp)
  replace k2 := k1.then k2
  clear k1 T1
  go_wp2_with fail
  refine (O.used _ T2.v T2.p).mono ?_
  rintro e w3 ⟨rfl, k3⟩
  have T3 := T2.then O k3
  replace ea := ea.kept k3 (by simp)
  replace eb := eb.kept k3 (by simp)
  replace k3 := k2.then k3
  clear k2 T2
  go_wp2_with fail
  refine (entries_eq _ _ _ _ _ _ ea eb).mono ?_
  rintro e w4 ⟨rfl, k4⟩
  have T4 := T3.then O k4
  replace k4 := k3.then k4
  clear k3 T3 ea eb
  go_wp2_with fail
  refine (num_any _ _).mono ?_
  rintro e wb ⟨rfl, hwb⟩
  rw [hwb]
  clear hwb
  have hE : (entE S != entE S) = false := by simp
  have hU : (S.used != S.used) = false := by simp
  have hKp : (keptO S.opn != keptO S.opn) = false := by simp
  obtain ⟨vd, vo, u, D, Q, hp, hS, hok, hF⟩ := T4.r
  have c8 : w4.cell? ⟨gR, 8, none⟩ = some (.int .i64 S.used) := by
    have := hp.box.cell (j := 8) rfl
    rw [hS]; exact this
  clear hp hS hok hF
  go_wp2_with fail
  refine (rKeptS _ T4.r).mono ?_
  rintro e wb ⟨rfl, hwb⟩
  rw [hwb]
  clear hwb c8
  go_wp2_with fail
  refine (O.ids _ T4.v T4.p).mono ?_
  rintro e w5 ⟨vi, rfl, ia, k5⟩
  have T5 := T4.then O k5
  replace k5 := k4.then k5
  clear k4 T4
  go_wp2_with fail
  refine (rIds _ T5.r).mono ?_
  rintro e w6 ⟨vj, rfl, ib, k6⟩
  have T6 := T5.then O k6
  replace ia := ia.kept k6 (by simp)
  replace k6 := k5.then k6
  clear k5 T5
  go_wp2_with fail
  refine (numbers_eq _ _ _ _ _ _ ia ib).mono ?_
  rintro e w7 ⟨rfl, k7⟩
  have T7 := T6.then O k7
  replace k7 := k6.then k7
  clear k6 T6 ia ib
  go_wp2_with fail
  refine (E.done _ T7.v T7.p HSM.out.1).mono ?_
  rintro e w8 ⟨vp, DP, rfl, lp, ep, k8⟩
  have T8 := T7.then O k8
  replace k8 := k7.then k8
  clear k7 T7
  clear vd vo u D Q
  obtain ⟨vd, vo, u, D, Q, hp, hS, hok, hF⟩ := T8.r
  obtain ⟨pp, kp, hvp, hpc, hpm⟩ := lp.row.shape
  subst hvp
  obtain ⟨pd, kd, hvd, -, -⟩ := hp.rowD.shape
  subst hvd
  obtain ⟨n, hn⟩ : ∃ n, n = DP.length := ⟨_, rfl⟩
  have hnD : D.length = n := by have e1 := congrArg List.length ep; rw [hS] at e1; unfold SrP.st at e1; simp at e1; omega
  have hEq : DP.map Prod.fst = D.map Prod.fst := by rw [ep, hS]; rfl
  have HN := @hideH _ (And.intro hn (And.intro hnD (And.intro hEq (Nat.le_trans hpc hpm))))
  have HP := @hideH _ hp
  have HLP := @hideH _ lp.ll
  have HK8 := @hideH _ k8
  rw [← hn] at HLP ⊢
  rw [hnD] at HP
  have c6 := HP.out.box.cell (j := 6) rfl
  have hnn : ((n : Int) != (n : Int)) = false := by simp
  clear hp hS hok hF lp ep hn hnD hEq hpc hpm k8 T8
  go_wp2
  go_loopw [12] (fun vi wr => ∃ k : Nat, k ≤ n ∧ vi = .int .i64 k ∧ Hid (Kept [] w8 wr)) (fun vi _ => n - (intOf vi).toNat)
  case atStart => exact ⟨0, Nat.zero_le _, rfl, Kept.refl _ _⟩
  case round =>
    obtain ⟨k, hk, rfl, hh⟩ := hrel
    by_cases hkl : k < n
    rotate_left
    · have hkl' : ¬ (k : Int) < (n : Int) := by omega
      go_wp2
      go_ret
      exact ⟨rfl, HK8.out.then hh.out⟩
    have hkl' : (k : Int) < (n : Int) := by omega
    have h0 : (0 : Int) ≤ (k : Int) := by omega
    have wk : IntKind.i64.wrap ((k : Int) + 1) = (k : Int) + 1 := wrap_i64_of (by omega) (by have e := HN.out.2.2.2; rw [← HN.out.1] at e; unfold maxLen at e; omega)
    obtain ⟨d, hd⟩ : ∃ d, DP[k]? = some d := ⟨_, List.getElem?_eq_getElem (by have := HN.out.1; omega)⟩
    obtain ⟨q, hq⟩ : ∃ q, D[k]? = some q := ⟨_, List.getElem?_eq_getElem (by have := HN.out.2.1; omega)⟩
    have hdq : d.1 = q.1 := by
      have h1 : (DP.map Prod.fst)[k]? = some d.1 := by rw [List.getElem?_map, hd]; rfl
      have h2 : (D.map Prod.fst)[k]? = some q.1 := by rw [List.getElem?_map, hq]; rfl
      rw [HN.out.2.2.1, h2] at h1
      exact (Option.some.inj h1).symm
    obtain ⟨dl, dv⟩ := d
    obtain ⟨ql, qv⟩ := q
    dsimp only at hdq
    subst hdq
    obtain ⟨ga, hpp, x0⟩ := (HLP.out.then hh.out).at hd
    subst hpp
    obtain ⟨gb, hpd, y0⟩ := (HP.out.then hh.out).atD hq
    subst hpd
    dsimp only at x0 y0
    have cx := (HLP.out.then hh.out).2 _ (List.mem_of_getElem? hd)
    have cy := (HP.out.then hh.out).done (List.mem_of_getElem? hq)
    dsimp only at cx cy
    obtain ⟨pl, cl, hvl, -⟩ := cx.shape
    subst hvl
    obtain ⟨pl', cl', hvl', -⟩ := cy.shape
    subst hvl'
    obtain ⟨m, hm⟩ : ∃ m, m = dl.length := ⟨_, rfl⟩
    rw [← hm] at x0 y0 cx cy
    replace c6 := hh.out.cell c6 (by simp)
    have HC := @hideH _ (And.intro cx cy)
    have HK := @hideH _ hh.out
    clear hd hq cx cy hh hm hE hU hKp hnn hk hkl
    have HQ : ∀ q, Calls Tryz.prog 60 #[.slice pl m cl, .slice pl' m cl'] (wr.drewN q) fun e w'' => e = .returned (.bool true) ∧ ∃ j, w'' = wr.drewN j := fun q => Calls.quiet_of (changes_q _ _ _ _ _ _ (HC.out.1.kept ((Kept.refl [] wr).drewN' q) (by simp)) (HC.out.2.kept ((Kept.refl [] wr).drewN' q) (by simp)))
    have HQH := @hideH _ HQ
    clear HQ
    go_upto_region 12 with fail
    go_quiet ((go_at_call 60; exact HQH.out _))
    clear c6 x0 y0
    go_wp2
    go_roundw
    case rel => exact ⟨k + 1, by omega, by go_num, HK.out.drewN' _⟩
    case measure => simp [intOf]; omega
end Go.Proofs.YtocpagpkpibmaaaGreatDoor

