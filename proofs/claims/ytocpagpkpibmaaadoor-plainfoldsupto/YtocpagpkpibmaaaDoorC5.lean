import Derived.Test.YtocpagpkpibmaaaDoorC4
/-
  OWN WORK (by mkpny.py). The law: PlainFolds, for any State.
-/
namespace Go.Proofs.YtocpagpkpibmaaaDoor
open Go.RowKit
set_option linter.unusedVariables false
set_option linter.unusedSimpArgs false

theorem Li.ok {w : World} {v : Value} {L : List (List Chg)} (h : Li w v L) : ∀ l ∈ L, ∀ x ∈ l, I64 x.key ∧ u64 x.val := fun l hl x hx => by
  obtain ⟨k, hk, rfl⟩ := List.getElem_of_mem hl
  obtain ⟨b, o, c, u, -, -, hc⟩ := h.at (List.getElem?_eq_getElem hk)
  obtain ⟨j, hj, rfl⟩ := List.getElem_of_mem hx
  obtain ⟨_, _, _, -, -, q⟩ := hc.at (List.getElem?_eq_getElem hj)
  exact q
variable {Ks : List Nat} {Vr : World → Prop} {Pn : World → Nat → List Nat → Cf → St → Prop} (O : PnOps Ks Vr Pn) (FO : PnFold)
include O FO
set_option maxRecDepth 20000 in
set_option maxHeartbeats 12800000 in
theorem plainFolds_walk (v : Value) (L : List (List Chg)) (w : World) (hv : Vr w) (hL : Li w v L) (hN : L.flatten.length + L.length ≤ 1048576) (hg : 0 < w.heap.size) : Calls Tryd.prog 3 #[v] w fun e w' => e = .returned (.bool true) ∧ Kept [] w w' := by
  obtain ⟨p0, q0, hvv, -⟩ := hL.shape
  subst hvv
  obtain ⟨n, hn⟩ : ∃ n, n = L.length := ⟨_, rfl⟩
  have HL := @hideH _ hL
  have HV := @hideH _ hv
  have HN := @hideH _ (show n = L.length ∧ L.flatten.length + n ≤ 1048576 ∧ 0 < w.heap.size from ⟨hn, by omega, hg⟩)
  have hT := taken_any (.slice p0 L.length q0) L 0 w hL hN hg
  rw [← hn] at hT ⊢
  have HT := @hideH _ hT
  clear hL hN hg hn hv hT
  go_enter Tryd.func3, Tryd.ntmps3
  go_wp2_with fail
  refine HT.out.mono ?_
  clear HT
  rintro e w1 ⟨vo, vr, D, E, rfl, T⟩
  have hfD : D.map Prod.fst = L := by rw [T.fD]; exact List.take_of_length_le (by have := HN.out.1; omega)
  have hfE : E.map Prod.fst = L := by rw [T.fE]; exact List.take_of_length_le (by have := HN.out.1; omega)
  have hlD : D.length = n := by have := congrArg List.length hfD; rw [List.length_map] at this; have := HN.out.1; omega
  have hlE : E.length = n := by have := congrArg List.length hfE; rw [List.length_map] at this; have := HN.out.1; omega
  obtain ⟨pd, cd, hvd, -⟩ := T.lls.1.1.shape
  rw [hlD] at hvd
  subst hvd
  obtain ⟨pe, ce, hve, -⟩ := T.lls.2.1.shape
  rw [hlE] at hve
  subst hve
  have HF := @hideH _ (show D.map Prod.fst = L ∧ E.map Prod.fst = L ∧ D.length = n ∧ E.length = n from ⟨hfD, hfE, hlD, hlE⟩)
  have HLD := @hideH _ T.lls.1
  have HLE := @hideH _ T.lls.2
  have HK1 := @hideH _ T.kp
  clear T hfD hfE hlD hlE
  have HQ := @hideH _ (FO.fold (.slice pd n cd) D w1 HLD.out (by rw [HF.out.1]; have := HN.out.2.1; omega) (fun d hd x hx => HL.out.ok d.1 (by rw [← HF.out.1]; exact List.mem_map_of_mem hd) x hx))
  rw [HF.out.1] at HQ
  go_wp2_with fail
  refine HQ.out.mono ?_
  clear HQ
  rintro e w2 ⟨va, rfl, ha, k2⟩
  have HA2 := @hideH _ ha
  have HK2 := @hideH _ (HK1.out.then k2)
  have HLD2 := @hideH _ (HLD.out.then k2)
  have HLE2 := @hideH _ (HLE.out.then k2)
  clear ha k2 HLD HLE HK1
  go_wp2_with fail
  refine (alive_any O _ (O.vkept HV.out HK2.out (by simp))).mono ?_
  rintro e w3 ⟨rfl, k3⟩
  have HA3 := @hideH _ (HA2.out.kept k3 (by simp))
  have HK3 := @hideH _ (HK2.out.then k3)
  have HLD3 := @hideH _ (HLD2.out.then k3)
  have HLE3 := @hideH _ (HLE2.out.then k3)
  clear k3 HLD2 HLE2 HK2 HA2
  have HQ := @hideH _ (rFold (.slice pe n ce) E w3 HLE3.out (by rw [HF.out.2.1]; have := HN.out.2.1; omega))
  rw [HF.out.2.1] at HQ
  go_wp2_with fail
  refine HQ.out.mono ?_
  clear HQ
  rintro e w4 ⟨vb, rfl, hb, k4⟩
  have HB4 := @hideH _ hb
  have HA4 := @hideH _ (HA3.out.kept k4 (by simp))
  have HK4 := @hideH _ (HK3.out.then k4)
  have HLD4 := @hideH _ (HLD3.out.then k4)
  have HLE4 := @hideH _ (HLE3.out.then k4)
  clear hb k4 HLD3 HLE3 HK3 HA3
  go_wp2_with fail
  refine (entries_eq _ _ _ _ _ _ HA4.out HB4.out).mono ?_
  rintro e w5 ⟨rfl, k5⟩
  have HK5 := @hideH _ (HK4.out.then k5)
  have HLD5 := @hideH _ (HLD4.out.then k5)
  have HLE5 := @hideH _ (HLE4.out.then k5)
  clear k5 HLD4 HLE4 HK4 HA4 HB4
  have hnn : ((n : Int) != (n : Int)) = false := by simp
  go_wp2
  go_loopw [6] (fun vi wr => ∃ k : Nat, k ≤ n ∧ vi = .int .i64 k ∧ Hid (Kept [] w5 wr)) (fun vi _ => n - (intOf vi).toNat)
  case atStart => exact ⟨0, Nat.zero_le _, rfl, Kept.refl _ _⟩
  case round =>
    obtain ⟨k, hk, rfl, hh⟩ := hrel
    by_cases hkl : k < n
    rotate_left
    · have hkl' : ¬ (k : Int) < (n : Int) := by omega
      go_wp2
      go_ret
      exact ⟨by first | rfl | simp, HK5.out.then hh.out⟩
    have hkl' : (k : Int) < (n : Int) := by omega
    have hk0 : (0 : Int) ≤ (k : Int) := by omega
    have wk : IntKind.i64.wrap ((k : Int) + 1) = (k : Int) + 1 := wrap_i64_of (by omega) (by have := HN.out.2.1; omega)
    obtain ⟨d, hd⟩ : ∃ d, D[k]? = some d := ⟨_, List.getElem?_eq_getElem (by have := HF.out.2.2.1; omega)⟩
    obtain ⟨f, hf⟩ : ∃ f, E[k]? = some f := ⟨_, List.getElem?_eq_getElem (by have := HF.out.2.2.2; omega)⟩
    have he : f.1 = d.1 := by
      have e1 : (D.map Prod.fst)[k]? = some d.1 := by rw [List.getElem?_map, hd]; rfl
      have e2 : (E.map Prod.fst)[k]? = some f.1 := by rw [List.getElem?_map, hf]; rfl
      rw [HF.out.1] at e1
      rw [HF.out.2.1, e1] at e2
      exact (Option.some.inj e2).symm
    have hLD := HLD5.out.then hh.out
    have hLE := HLE5.out.then hh.out
    obtain ⟨gd, hpd, y0⟩ := hLD.at hd
    subst hpd
    obtain ⟨ge, hpe, y1⟩ := hLE.at hf
    subst hpe
    have hCD := hLD.2 d (List.mem_of_getElem? hd)
    have hCE := hLE.2 f (List.mem_of_getElem? hf)
    rw [he] at hCE
    obtain ⟨l, va', vb', hd1, hd2, hf2⟩ : ∃ l va vb, d.1 = l ∧ d.2 = va ∧ f.2 = vb := ⟨_, _, _, rfl, rfl, rfl⟩
    rw [hd1, hd2] at hCD
    rw [hd1, hf2] at hCE
    rw [hd2] at y0
    rw [hf2] at y1
    obtain ⟨pa, ca, hva, -⟩ := hCD.shape
    obtain ⟨pb, cb, hvb, -⟩ := hCE.shape
    have HQ := @hideH _ (fun (wx : World) (kk : Kept [] wr wx) => changes_eq va' vb' l 0 0 wx (hCD.kept kk (by simp)) (hCE.kept kk (by simp)))
    have HW := @hideH _ hh.out
    have kx : Kept [] wr wr.drew := (Kept.refl [] wr).drew
    subst hva hvb
    clear hd hf he hLD hLE hCD hCE hd1 hd2 hf2 hh
    go_upto_region 8 with fail
    go_region_held3 (fun w' => w'.cell? ⟨gd, k, none⟩ = some (.slice pa l.length ca) ∧ w'.cell? ⟨ge, k, none⟩ = some (.slice pb l.length cb))
      (first
        | (exact ⟨kx.cell y0 (by simp), kx.cell y1 (by simp)⟩)
        | fail)
      (first
        | (go_at_call 10; refine (HQ.out _ kx).mono ?_; rintro e w6 ⟨rfl, k6⟩; replace kx := kx.then k6; clear k6)
        | fail)
    have HKX := @hideH _ (HW.out.then kx)
    clear kx y0 y1 HQ HW
    go_wp2
    go_roundw
    case rel => exact ⟨k + 1, by omega, by go_num, HKX.out⟩
    case measure => simp [intOf]; omega
end Go.Proofs.YtocpagpkpibmaaaDoor

