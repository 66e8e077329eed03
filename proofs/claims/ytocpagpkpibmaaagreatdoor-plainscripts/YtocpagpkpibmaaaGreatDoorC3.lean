import Derived.Test.YtocpagpkpibmaaaGreatDoorC2
/-
  OWN WORK (by mkpn9.py). The document's State (layer 18): Abort, Renew, Get, Checkpoint.
-/
namespace Go.Proofs.YtocpagpkpibmaaaGreatDoor
open Go.RowKit
set_option linter.unusedVariables false
set_option linter.unusedSimpArgs false

theorem len_st {c : Cf} {u : Int} {D : List (List Chg × Value)} {P : List Pt} (ok : OkS c (SrP.st u D P)) : P.length ≤ 8 := by
  have q := ok.lenN
  have l : (SrP.st u D P).opn.length = P.length := by simp [SrP.st]
  omega
theorem st_opn (u : Int) (D : List (List Chg × Value)) (P : List Pt) : (SrP.st u D P).opn = P.map Prod.fst ∧ (SrP.st u D P).done = D.map Prod.fst ∧ (SrP.st u D P).used = u := ⟨rfl, rfl, rfl⟩
set_option maxRecDepth 20000 in
set_option maxHeartbeats 1600000 in
theorem rAbort {g : Nat} {F : List Nat} {c : Cf} {S : St} (id : Int) (w : World) (h : Sr w g F c S) : Calls Tryz.prog 53 #[.pointer (some ⟨g, 0, none⟩), .int .i64 id] w fun e w' => ∃ F', e = .returned (.int .i64 (endE S id)) ∧ Sr w' g F' c (aboS S id) ∧ Fr w F F' ∧ Kept F w w' := by
  have HT := @hideH _ h
  obtain ⟨vd, vo, u, D, P, hp, hs, ok, hF⟩ := h
  have HP := @hideH _ hp
  have HS := @hideH _ hs
  have HOK := @hideH _ ok
  have HF := @hideH _ hF
  clear hp hs ok hF
  have HA := @hideH _ (rAt id w HP.out)
  go_enter Tryz.func53, Tryz.ntmps53
  go_wp2_with fail
  refine HA.out.mono ?_
  clear HA
  rintro e w1 ⟨hw, i, rfl, (⟨rfl, hf⟩ | ⟨k, x, rfl, hx, hid, hf⟩)⟩
  · have HE := @hideH _ (abo_none (s := S) (id := id) (by rw [HS.out]; exact hf))
    rw [hw]
    clear hw hf
    go_wp2
    go_ret
    exact ⟨F, by rw [HE.out.1]; rfl, by rw [HE.out.2.1]; exact HT.out, Fr.refl _ _, Kept.refl _ _⟩
  · have hk := sr_k hx
    have ok := HOK.out
    rw [HS.out] at ok
    have HE := @hideH _ (abo_some (s := S) (id := id) (k := k) (t := x.1) HOK.out (by rw [HS.out]; exact hk) (by rw [HS.out]; exact hf))
    have HK := @hideH _ hk
    have e1 := ok.one hk
    have e2 := ok.kept
    have e3 := ok.low
    have e4 := len_st ok
    have HQ := @hideH _ (rUndo k w HP.out hx (by omega) ((ok.tns _ (List.mem_of_getElem? hk)).lens) (by have := e2.2.1; omega) ⟨e3, e2.2.2⟩)
    have hk0 : ¬ (k : Int) < 0 := by omega
    rw [hw]
    clear hw hf hx hid hk ok e1 e2 e3 e4
    go_wp2_with fail
    refine HQ.out.mono ?_
    clear HQ
    rintro e w2 ⟨rfl, vl, h2, hv, k2⟩
    have HN := @hideH _ (show Sr w2 g (g :: blks (things vd vl D (P.eraseIdx k))) c (aboS S id) from ⟨vd, vl, _, D, _, h2, by rw [HE.out.2.1, HS.out]; unfold SrP.st; simp [map_erase], by rw [HE.out.2.1]; exact HOK.out.undo (by rw [HS.out]; exact HK.out), rfl⟩)
    have HFR := @hideH _ (And.intro (over_fr (vd := vd) (vo := vo) (D := D) (P := P) (k := k) hv) k2)
    clear h2 hv k2
    go_wp2
    go_ret
    exact ⟨_, by rw [HE.out.1]; rfl, HN.out, by rw [HF.out]; exact HFR.out.1.cons, by rw [HF.out]; exact HFR.out.2.mono (by simp)⟩
set_option maxRecDepth 20000 in
set_option maxHeartbeats 1600000 in
theorem rRenew {g : Nat} {F : List Nat} {c : Cf} {S : St} (w : World) (h : Sr w g F c S) : Calls Tryz.prog 56 #[.pointer (some ⟨g, 0, none⟩)] w fun e w' => ∃ F', e = .returned (.int .i64 (renE S)) ∧ Sr w' g F' c (renS S) ∧ Fr w F F' ∧ Kept F w w' := by
  have HT := @hideH _ h
  obtain ⟨vd, vo, u, D, P, hp, hs, ok, hF⟩ := h
  have HP := @hideH _ hp
  have HS := @hideH _ hs
  have HOK := @hideH _ ok
  have HF := @hideH _ hF
  clear hp hs ok hF
  obtain ⟨po, ko, hvo, -, -⟩ := HP.out.rowO.shape
  subst hvo
  obtain ⟨n, hn⟩ : ∃ n, n = P.length := ⟨_, rfl⟩
  have B := HP.out.box
  rw [← hn] at B
  have c7 := B.cell (j := 7) rfl
  have c8 := B.cell (j := 8) rfl
  have f8 := B.free 8
  have HN := @hideH _ hn
  clear B hn
  go_enter Tryz.func56, Tryz.ntmps56
  by_cases hn0 : 0 < n
  · have HE := @hideH _ (show renE S = 210 ∧ renS S = S from by
      have : S.opn ≠ [] := by rw [HS.out]; unfold SrP.st; dsimp only; intro q; have := List.map_eq_nil_iff.1 q; rw [this] at HN; have := HN.out; simp at this; omega
      unfold renE renS; rw [if_neg this, if_neg this]; exact ⟨rfl, rfl⟩)
    go_wp2
    go_ret
    exact ⟨F, by rw [HE.out.1]; rfl, by rw [HE.out.2]; exact HT.out, Fr.refl _ _, Kept.refl _ _⟩
  · have HE := @hideH _ (show renE S = 0 ∧ renS S = ⟨S.done, S.opn, 0⟩ from by
      have : S.opn = [] := by rw [HS.out]; unfold SrP.st; dsimp only; rw [show P = [] from List.eq_nil_of_length_eq_zero (by have := HN.out; omega)]; rfl
      unfold renE renS; rw [if_pos this, if_pos this]; exact ⟨rfl, rfl⟩)
    obtain ⟨q1, q2⟩ := sr_used HP.out 0
    obtain ⟨w1, hw1⟩ : ∃ wx, wx = w.setCell ⟨g, 8, none⟩ (.int .i64 0) := ⟨_, rfl⟩
    rw [← hw1] at q1 q2
    have HQ := @hideH _ (And.intro q1 q2)
    clear q1 q2
    go_wp2
    rw [← hw1]
    go_ret
    exact ⟨F, by rw [HE.out.1]; rfl, ⟨vd, _, 0, D, P, HQ.out.1, by rw [HE.out.2, HS.out]; rfl, HOK.out.ren, HF.out⟩, Fr.refl _ _, HQ.out.2.mono (by rw [HF.out]; simp)⟩
set_option maxRecDepth 20000 in
set_option maxHeartbeats 1600000 in
theorem rGet {g : Nat} {F : List Nat} {c : Cf} {S : St} (id key : Int) (w : World) (h : Sr w g F c S) : Calls Tryz.prog 48 #[.pointer (some ⟨g, 0, none⟩), .int .i64 id, .int .i64 key] w fun e w' => ∃ F', e = .returned (.tuple #[.int .u64 (getA c S id key).1, .bool (getA c S id key).2.1, .int .i64 (getA c S id key).2.2]) ∧ Sr w' g F' c (getS c S id key) ∧ Fr w F F' ∧ Kept F w w' := by
  have HT := @hideH _ h
  obtain ⟨vd, vo, u, D, P, hp, hs, ok, hF⟩ := h
  have HP := @hideH _ hp
  have HS := @hideH _ hs
  have HOK := @hideH _ ok
  have HF := @hideH _ hF
  clear hp hs ok hF
  have HA := @hideH _ (rAsked id key w HP.out (by rw [← HS.out]; exact HOK.out))
  rw [← HS.out] at HA
  go_enter Tryz.func48, Tryz.ntmps48
  go_wp2_with fail
  refine HA.out.mono ?_
  clear HA
  rintro e w1 ⟨k1, (⟨ha, rfl⟩ | ⟨ha, k, x, hx, hid, hf, rfl⟩)⟩
  · have HE := @hideH _ (get_no ha)
    have HK := @hideH _ k1
    obtain ⟨a, hab⟩ : ∃ a, a = askE c S id key := ⟨_, rfl⟩
    rw [← hab] at ha ⊢
    have hne : (a != 0) = true := by simpa using ha
    have HAB := @hideH _ hab
    clear ha k1 hab
    go_wp2
    go_ret3
    exact ⟨F, by rw [HE.out.1, ← HAB.out]; rfl, by rw [HE.out.2]; exact HT.out.kept HK.out (by simp), Fr.refl _ _, HK.out.mono (by simp)⟩
  · have hk := sr_k hx
    have HE := @hideH _ (get_yes (k := k) (t := x.1) HOK.out ha (by rw [HS.out]; exact hk) (by rw [HS.out]; exact hf))
    have HPG := @hideH _ (ask_page HOK.out ha)
    have HKK := @hideH _ hk
    have HX := @hideH _ hx
    have ok := HOK.out
    have fw := ok.few (k := k) (t := x.1) (by rw [HS.out]; exact hk)
    have HK1 := @hideH _ k1
    have HQ := @hideH _ (rHold k (key % c.pages) w1 (HP.out.then k1) hx (by omega))
    obtain ⟨pg, hpg⟩ : ∃ pg, pg = key % c.pages := ⟨_, rfl⟩
    rw [← hpg] at HQ ⊢
    have HPP := @hideH _ hpg
    clear ha hx hid hf hk ok fw k1 hpg
    go_wp2_with fail
    refine HQ.out.mono ?_
    clear HQ
    rintro e w2 ⟨rfl, P', h2, hm, k2, fr2⟩
    obtain ⟨x', hx'⟩ : ∃ x', P'[k]? = some x' := by
      have hl := (List.getElem?_eq_some_iff.1 HKK.out).1
      have := congrArg List.length hm
      simp at this hl
      exact ⟨_, List.getElem?_eq_getElem (by omega)⟩
    have hx1 : x'.1 = heldT x.1 pg := by
      have q := sr_k hx'
      have hl := (List.getElem?_eq_some_iff.1 HKK.out).1
      rw [hm, List.getElem?_set_self hl] at q
      exact (Option.some.inj q).symm
    have HSE := @hideH _ (show seesT (SrP.st u D P') x'.1 key = seesT S x.1 key by rw [hx1, HS.out]; unfold seesT SrP.st; rw [(heldT_id _ _).2.2.1])
    have q := rSees k key w2 h2 hx'
    rw [HSE.out] at q
    have HQ := @hideH _ q
    have HN := @hideH _ (show Sr w2 g (g :: blks (things vd vo D P')) c (getS c S id key) from ⟨vd, vo, u, D, P', h2, by rw [HE.out.2, HS.out]; unfold SrP.st; rw [hm, HPP.out], by rw [HE.out.2]; exact HOK.out.hold (by rw [HS.out]; exact HKK.out) HPG.out.2, rfl⟩)
    have HFR := @hideH _ (And.intro fr2 k2)
    obtain ⟨r, hr⟩ : ∃ r, r = seesT S x.1 key := ⟨_, rfl⟩
    rw [← hr] at HQ HE
    clear q h2 hm k2 fr2 hx1 hr hx'
    go_wp2_with fail
    refine HQ.out.mono ?_
    clear HQ
    rintro e w3 ⟨rfl, hw3⟩
    subst hw3
    go_wp2
    go_ret3
    refine ⟨_, by rw [HE.out.1]; rfl, HN.out, by rw [HF.out]; exact (HFR.out.1.old HK1.out.size).cons, ?_⟩
    rw [HF.out]
    refine (HK1.out.mono (T := g :: blks (things vd vo D P)) (by simp)).trans (HFR.out.2.mono (T := g :: blks (things vd vo D P)) (fun y hy => List.mem_cons_of_mem _ ?_)) (fun y hy => .inl hy)
    rcases List.mem_append.1 hy with hy | hy
    · exact vo_in (own_mem.1 hy)
    · exact pages_in (List.mem_of_getElem? HX.out) (own_mem.1 hy)
end Go.Proofs.YtocpagpkpibmaaaGreatDoor

/-
  OWN WORK (by mkpnf.py). The document's State (layer 18): change.
-/
namespace Go.Proofs.YtocpagpkpibmaaaGreatDoor
open Go.RowKit
set_option linter.unusedVariables false
set_option linter.unusedSimpArgs false

set_option maxRecDepth 20000 in
set_option maxHeartbeats 6400000 in
theorem rChange {g : Nat} {F : List Nat} {c : Cf} {S : St} (k : Nat) (page : Int) (x : Chg) (w : World) (h : Sr w g F c S) {t : Tn} (hk : S.opn[k]? = some t) (hx : okC c x) (hpg : 0 ≤ page ∧ page < c.pages) : Calls Tryz.prog 86 #[.pointer (some ⟨g, 0, none⟩), .int .i64 (k : Int), .int .i64 page, .agg #[.int .i64 x.key, .int .u64 x.val, .bool x.gone]] w fun e w' => ∃ F', e = .returned (.int .i64 (chgE c S t x)) ∧ Sr w' g F' c (chgS c S t page x) ∧ Fr w F F' ∧ Kept F w w' := by
  obtain ⟨vd, vo, u, D, P, hp, hs, ok, hF⟩ := h
  have HOK := @hideH _ ok
  have HF := @hideH _ hF
  have HS := @hideH _ hs
  have HKT := @hideH _ hk
  obtain ⟨p, hpk, hpt⟩ : ∃ p, P[k]? = some p ∧ p.1 = t := by
    rw [hs] at hk
    have hk' : (P.map Prod.fst)[k]? = some t := hk
    rw [List.getElem?_map] at hk'
    cases e : P[k]? with
    | none => rw [e] at hk'; cases hk'
    | some p => rw [e] at hk'; exact ⟨p, rfl, Option.some.inj hk'⟩
  obtain ⟨t', v1, v2, v3⟩ := p
  dsimp only at hpt
  subst hpt
  have hv := sees_u64 ok (List.mem_of_getElem? hk) x.key
  obtain ⟨sv, hsv⟩ : ∃ sv, sv = seesT S t' x.key := ⟨_, rfl⟩
  rw [← hsv] at hv
  obtain ⟨n, hn⟩ : ∃ n, n = lenC S t' x := ⟨_, rfl⟩
  have hn2 : n = lengthL (slotL x.key sv.1 sv.2) (slotL x.key x.val (!x.gone)) := by rw [hn]; unfold lenC; rw [← hsv]
  have hn3 : 0 ≤ n ∧ n ≤ 16 := by rw [hn]; exact ⟨lenC_low _ _ _, lenC_le _ _ _⟩
  have hkey : 0 ≤ x.key ∧ x.key < 4294967296 := by have := hx.1; have := ok.may.2.2.2.2.2; omega
  obtain ⟨w1, hw1⟩ : ∃ wx, wx = w.alloc (.cells #[.int .i64 x.key, .int .u64 x.val, .bool x.gone] 149) := ⟨_, rfl⟩
  have k1 : Kept [] w w1 := by rw [hw1]; exact (Kept.refl [] w).alloc _
  have X1 : Blk w1 w.heap.size 149 [.int .i64 x.key, .int .u64 x.val, .bool x.gone] := by rw [hw1]; exact Blk.new w _ _
  have q := rSees k x.key w1 (hp.then k1) hpk
  rw [← hs] at q
  dsimp only at q
  rw [← hsv] at q
  have HQ := @hideH _ q
  have HX1 := @hideH _ X1
  have HK1 := @hideH _ k1
  have HP := @hideH _ hp
  have HPK := @hideH _ hpk
  have HV := @hideH _ (And.intro hkey (And.intro hv hx))
  have HN := @hideH _ (And.intro hn (And.intro hn2 hn3))
  have HPG := @hideH _ hpg
  have y0 := X1.cell (j := 0) rfl
  have y1 := X1.cell (j := 1) rfl
  have y2 := X1.cell (j := 2) rfl
  clear hp hs ok hF hk hpk hv hsv hn hn2 hn3 hkey k1 X1 q hx hpg
  go_enter Tryz.func86, Tryz.ntmps86
  go_upto_region 1 with fail
  rw [← hw1]
  clear hw1
  go_wp2_with fail
  refine HQ.out.mono ?_
  clear HQ
  rintro e w2 ⟨rfl, hw2⟩
  subst hw2
  go_upto_region 2 with fail
  have kx : Kept [] w2 w2.drew := (Kept.refl [] w2).drew
  have tk : True := trivial
  go_region_held3 (fun w' => w'.cell? ⟨w.heap.size, 0, none⟩ = some (.int .i64 x.key) ∧ w'.cell? ⟨w.heap.size, 1, none⟩ = some (.int .u64 x.val) ∧ w'.cell? ⟨w.heap.size, 2, none⟩ = some (.bool x.gone))
    (first
      | (exact ⟨kx.cell y0 List.not_mem_nil, kx.cell y1 List.not_mem_nil, kx.cell y2 List.not_mem_nil⟩)
      | fail)
    (first
      | (go_at_call 103; clear tk; refine (rSlot x.key sv.1 sv.2 _ HV.out.1 HV.out.2.1).mono ?_; rintro e wa ⟨rfl, ka⟩; replace kx := kx.then ka; clear ka)
      | (go_at_call 103; refine (rSlot x.key x.val (!x.gone) _ HV.out.1 HV.out.2.2.2).mono ?_; rintro e wb ⟨rfl, kb⟩; replace kx := kx.then kb; clear kb)
      | (go_at_call 102; refine (rLength _ _ (slot_len _ _ _) (slot_len _ _ _) _).mono ?_; rintro e wc ⟨rfl, kc⟩; rw [← HN.out.2.1]; replace kx := kx.then kc; clear kc)
      | fail)
  have HK3 := @hideH _ (HK1.out.then kx)
  have HX3 := @hideH _ (HX1.out.kept kx (by simp))
  clear kx y0 y1 y2
  rename_i hheld
  clear hheld
  have okP := HOK.out
  rw [HS.out] at okP
  have HOP := @hideH _ okP
  clear okP
  by_cases hn0 : 0 < n
  rotate_left
  · have HE := @hideH _ (chg_zero (c := c) (page := page) (x := x) HOK.out HKT.out HN.out.1 hn0)
    have HQ := @hideH _ (rHold k page wc (HP.out.then HK3.out) HPK.out (by have := HOK.out.few HKT.out; show t'.pages.length ≤ 1000; omega))
    go_wp2_with fail
    refine HQ.out.mono ?_
    clear HQ
    rintro e wz ⟨rfl, P', h2, hm, k2, fr2⟩
    have HZ := @hideH _ (And.intro h2 (And.intro hm (And.intro k2 fr2)))
    clear h2 hm k2 fr2
    go_wp2
    go_ret
    refine ⟨g :: blks (things vd vo D P'), by rw [HE.out.1]; rfl, ⟨vd, vo, u, D, P', HZ.out.1, ?_, ?_, rfl⟩, ?_, ?_⟩
    · rw [HE.out.2, HS.out]; unfold SrP.st; rw [HZ.out.2.1]
    · rw [HE.out.2]; exact HOK.out.hold HKT.out HPG.out
    · rw [HF.out]; exact (HZ.out.2.2.2.old HK3.out.size).cons
    · rw [HF.out]
      refine (HK3.out.mono (T := g :: blks (things vd vo D P)) (by simp)).trans (HZ.out.2.2.1.mono (T := g :: blks (things vd vo D P)) (fun y hy => List.mem_cons_of_mem _ ?_)) (fun y hy => .inl hy)
      rcases List.mem_append.1 hy with hy | hy
      · exact vo_in (own_mem.1 hy)
      · exact pages_in (List.mem_of_getElem? HPK.out) (own_mem.1 hy)
  have e2 := HOP.out.kept
  have e3 := HOP.out.low
  rw [show (SrP.st u D P).used = u from rfl] at e2 e3
  have HUU := @hideH _ (And.intro e2 e3)
  have wn1 : IntKind.i64.wrap (2 * n) = 2 * n := wrap_i64_of (by have := HN.out.2.2; omega) (by have := HN.out.2.2; omega)
  have wn2 : IntKind.i64.wrap (38 + 2 * n) = 38 + 2 * n := wrap_i64_of (by have := HN.out.2.2; omega) (by have := HN.out.2.2; omega)
  have wn3 : IntKind.i64.wrap (46 + n) = 46 + n := wrap_i64_of (by have := HN.out.2.2; omega) (by have := HN.out.2.2; omega)
  have wu1 : IntKind.i64.wrap (u + 38) = u + 38 := wrap_i64_of (by omega) (by omega)
  obtain ⟨u', hu'⟩ : ∃ u', u' = u + 38 + 2 * n := ⟨_, rfl⟩
  have wu2 : IntKind.i64.wrap (u + 38 + 2 * n) = u' := by rw [hu']; exact wrap_i64_of (by have := HN.out.2.2; omega) (by have := HN.out.2.2; omega)
  have q := rFits (38 + 2 * n) (46 + n) wc (HP.out.then HK3.out) HOP.out (by have := HN.out.2.2; omega) (by have := HN.out.2.2; omega)
  rw [← HS.out] at q
  obtain ⟨b, hb⟩ : ∃ b, b = fitsS c S (38 + 2 * n) (46 + n) := ⟨_, rfl⟩
  rw [← hb] at q
  have HQ := @hideH _ q
  have HB := @hideH _ (And.intro hb hu')
  have HN0 := @hideH _ hn0
  clear q hb hu' e2 e3
  go_wp2_with fail
  refine HQ.out.mono ?_
  clear HQ
  rintro e wd ⟨rfl, kd⟩
  have HK4 := @hideH _ (HK3.out.then kd)
  have HX4 := @hideH _ (HX3.out.kept kd (by simp))
  clear kd
  cases b
  · have HE := @hideH _ (chg_not (c := c) (page := page) (x := x) HOK.out HKT.out HN.out.1 HN0.out HB.out.1.symm)
    have HQ := @hideH _ (rUndo k wd (HP.out.then HK4.out) HPK.out (by have := len_st HOP.out; omega) ((HOK.out.tns _ (List.mem_of_getElem? HKT.out)).lens) (by have := HOK.out.one HKT.out; have := HOK.out.kept; show sumL t'.lens ≤ 65536; omega) ⟨HUU.out.2, HUU.out.1.2.2⟩)
    go_wp2_with fail
    refine HQ.out.mono ?_
    clear HQ
    rintro e wz ⟨rfl, vl, h2, hv, k2⟩
    have HZ := @hideH _ (And.intro h2 (And.intro hv k2))
    clear h2 hv k2
    go_wp2
    go_ret
    refine ⟨g :: blks (things vd vl D (P.eraseIdx k)), by rw [HE.out.1]; rfl, ⟨vd, vl, _, D, _, HZ.out.1, ?_, ?_, rfl⟩, ?_, ?_⟩
    · rw [HE.out.2, HS.out]; unfold SrP.st; simp [map_erase]
    · rw [HE.out.2]; exact HOK.out.undo HKT.out
    · rw [HF.out]; exact ((over_fr HZ.out.2.1).old HK4.out.size).cons
    · rw [HF.out]; exact (HK4.out.mono (T := g :: blks (things vd vo D P)) (by simp)).trans (HZ.out.2.2.mono (by simp)) (fun y hy => .inl hy)
  have HE := @hideH _ (chg_fit (c := c) (page := page) (x := x) HOK.out HKT.out HN.out.1 HN0.out HB.out.1.symm)
  have S4 := HP.out.then HK4.out
  have c8 := S4.box.cell (j := 8) (v := .int .i64 u) rfl
  have f8 := S4.box.free 8
  obtain ⟨we, hwe⟩ : ∃ wx, wx = wd.setCell ⟨g, 8, none⟩ (.int .i64 u') := ⟨_, rfl⟩
  obtain ⟨S5, k5⟩ := sr_used S4 u'
  rw [← hwe] at S5 k5
  have X5 := HX4.out.kept k5 (by have := HP.out.box.lt; simp; omega)
  have HS5 := @hideH _ S5
  have HX5 := @hideH _ X5
  have HK5 := @hideH _ ((HK4.out.mono (T := g :: blks (things vd vo D P)) (by simp)).trans (k5.mono (by simp)) (fun y hy => .inl hy))
  clear S4 S5 k5 X5
  go_upto_region 8 with fail
  rw [← hwe]
  clear hwe c8 f8 wn1 wn2 wn3 wu1 wu2
  obtain ⟨po, ko, hvo, -, -⟩ := HS5.out.rowO.shape
  subst hvo
  obtain ⟨np, hnp⟩ : ∃ np, np = P.length := ⟨_, rfl⟩
  have HNP := @hideH _ hnp
  have B5 := HS5.out.box
  rw [← hnp] at B5
  have c7 := B5.cell (j := 7) rfl
  have hkn : (k : Int) < (np : Int) := by have := (List.getElem?_eq_some_iff.1 HPK.out).1; omega
  have hk0 : (0 : Int) ≤ (k : Int) := by omega
  obtain ⟨gl, hp, -, -, d2, d3⟩ := HS5.out.at HPK.out
  subst hp
  dsimp only at d2 d3
  have h3 := HS5.out.three (List.mem_of_getElem? HPK.out)
  dsimp only at h3
  obtain ⟨p3, c3, e3, -⟩ := h3.2.2.shape
  subst e3
  obtain ⟨p2, c2, e2, -⟩ := h3.2.1.shape
  subst e2
  obtain ⟨q3, hq3⟩ : ∃ q, q = t'.lens.length := ⟨_, rfl⟩
  obtain ⟨q2, hq2⟩ : ∃ q, q = t'.chs.length := ⟨_, rfl⟩
  rw [← hq3] at d3
  have fw := HOK.out.few HKT.out
  have HQ3 := @hideH _ (And.intro hq3 (show q3 ≤ 1400 by omega))
  have HQ2 := @hideH _ (And.intro hq2 (show q2 ≤ 1400 by omega))
  have HNS := @hideH _ h3.2.2
  have HLT := @hideH _ HP.out.lt
  clear B5 hnp h3 hq3 hq2 fw d2
  obtain ⟨infI, hin1, hin2, hin3, hin4⟩ := info_parts3 (show (Tryz.prog.info? 3).map (fun i => (i.zero, i.size, i.bytes)) = some (some (.int .i64 0), 1, 8) by kernel_rfl)
  have HII := @hideH _ (And.intro hin1 (And.intro hin2 (And.intro hin3 hin4)))
  clear hin1 hin2 hin3 hin4
  obtain ⟨infC, hin1, hin2, hin3, hin4⟩ := info_parts3 (show (Tryz.prog.info? 149).map (fun i => (i.zero, i.size, i.bytes)) = some (some (.agg #[.int .i64 0, .int .u64 0, .bool false]), 3, 24) by kernel_rfl)
  have HIC := @hideH _ (And.intro hin1 (And.intro hin2 (And.intro hin3 hin4)))
  clear hin1 hin2 hin3 hin4
  obtain ⟨w6, hw6⟩ : ∃ wx, wx = we.drew := ⟨_, rfl⟩
  have k6 : Kept [] we w6 := by rw [hw6]; exact (Kept.refl [] we).drew
  have hS : (fun w' => w'.cell? ⟨g, 7, none⟩ = some (.slice (some ⟨gl, 0, none⟩) np ko) ∧ w'.cell? ⟨gl, k * 4 + 3, none⟩ = some (.slice p3 q3 c3)) w6 := ⟨k6.cell c7 (by simp), k6.cell d3 (by simp)⟩
  try dsimp only at hS
  obtain ⟨w7, hw7⟩ : ∃ wx, wx = w6.alloc (.cells #[.int .i64 n] 3) := ⟨_, rfl⟩
  have k7 : Kept [] w6 w7 := by rw [hw7]; exact (Kept.refl [] w6).alloc _
  have hS7 := (⟨k7.cell hS.1 (by simp), k7.cell hS.2 (by simp)⟩ : (fun w' => w'.cell? ⟨g, 7, none⟩ = some (.slice (some ⟨gl, 0, none⟩) np ko) ∧ w'.cell? ⟨gl, k * 4 + 3, none⟩ = some (.slice p3 q3 c3)) w7)
  try dsimp only at hS7
  refine wp_region_late (fun w' => w'.cell? ⟨g, 7, none⟩ = some (.slice (some ⟨gl, 0, none⟩) np ko) ∧ w'.cell? ⟨gl, k * 4 + 3, none⟩ = some (.slice p3 q3 c3)) 18 (by kernel_rfl) ?_
  rw [← hw6]
  clear hw6 c7 d3
  refine wpAnyZ_take 0 (v := ?va0_1) rfl (by kernel_rfl) (by kernel_rfl) (by kernel_rfl) (by kernel_rfl) (fun _ _ _ h => h) (by rfl) ?hya0_1 hS ?resta0_1
  case hya0_1 => (intro wx hSx; obtain ⟨s1, s2⟩ := hSx; go_simp; (try with_reducible rfl))
  (try simp only [Act.put, List.getElem_toArray, List.getElem_cons_zero, List.getElem_cons_succ, List.setIfInBounds_toArray, List.set_cons_zero, List.set_cons_succ])
  refine wpAnyZ_take 1 (v := ?va1_2) rfl (by kernel_rfl) (by kernel_rfl) (by kernel_rfl) (by kernel_rfl) (fun _ _ _ h => h) (by rfl) ?hya1_2 hS ?resta1_2
  case hya1_2 => (intro wx hSx; obtain ⟨s1, s2⟩ := hSx; go_simp; (try with_reducible rfl))
  (try simp only [Act.put, List.getElem_toArray, List.getElem_cons_zero, List.getElem_cons_succ, List.setIfInBounds_toArray, List.set_cons_zero, List.set_cons_succ])
  refine wpAnyZ_take 2 (v := ?va2_3) rfl (by kernel_rfl) (by kernel_rfl) (by kernel_rfl) (by kernel_rfl) (fun _ _ _ h => h) (by rfl) ?hya2_3 hS ?resta2_3
  case hya2_3 => (intro wx hSx; obtain ⟨s1, s2⟩ := hSx; go_simp; (try with_reducible rfl))
  (try simp only [Act.put, List.getElem_toArray, List.getElem_cons_zero, List.getElem_cons_succ, List.setIfInBounds_toArray, List.set_cons_zero, List.set_cons_succ])
  refine wpAnyZ_take 3 (v := ?va3_4) rfl (by kernel_rfl) (by kernel_rfl) (by kernel_rfl) (by kernel_rfl) (fun _ _ _ h => h) (by rfl) ?hya3_4 hS ?resta3_4
  case hya3_4 => (intro wx hSx; obtain ⟨s1, s2⟩ := hSx; go_simp; (try with_reducible rfl))
  (try simp only [Act.put, List.getElem_toArray, List.getElem_cons_zero, List.getElem_cons_succ, List.setIfInBounds_toArray, List.set_cons_zero, List.set_cons_succ])
  refine wpAnyZ_take 4 (v := ?va4_5) rfl (by kernel_rfl) (by kernel_rfl) (by kernel_rfl) (by kernel_rfl) (fun _ _ _ h => h) (by rfl) ?hya4_5 hS ?resta4_5
  case hya4_5 => (intro wx hSx; obtain ⟨s1, s2⟩ := hSx; go_simp; (try with_reducible rfl))
  (try simp only [Act.put, List.getElem_toArray, List.getElem_cons_zero, List.getElem_cons_succ, List.setIfInBounds_toArray, List.set_cons_zero, List.set_cons_succ])
  refine wpAnyZ_take 5 (v := ?va5_6) rfl (by kernel_rfl) (by kernel_rfl) (by kernel_rfl) (by kernel_rfl) (fun _ _ _ h => h) (by rfl) ?hya5_6 hS ?resta5_6
  case hya5_6 => (intro wx hSx; obtain ⟨s1, s2⟩ := hSx; go_simp; (try with_reducible rfl))
  (try simp only [Act.put, List.getElem_toArray, List.getElem_cons_zero, List.getElem_cons_succ, List.setIfInBounds_toArray, List.set_cons_zero, List.set_cons_succ])
  refine wpAnyZ_take 6 (v := ?va6_7) rfl (by kernel_rfl) (by kernel_rfl) (by kernel_rfl) (by kernel_rfl) (fun _ _ _ h => h) (by rfl) ?hya6_7 hS ?resta6_7
  case hya6_7 => (intro wx hSx; obtain ⟨s1, s2⟩ := hSx; go_simp; (try with_reducible rfl))
  (try simp only [Act.put, List.getElem_toArray, List.getElem_cons_zero, List.getElem_cons_succ, List.setIfInBounds_toArray, List.set_cons_zero, List.set_cons_succ])
  refine wpAnyZ_take 7 (v := ?va7_8) rfl (by kernel_rfl) (by kernel_rfl) (by kernel_rfl) (by kernel_rfl) (fun _ _ _ h => h) (by rfl) ?hya7_8 hS ?resta7_8
  case hya7_8 => (intro wx hSx; obtain ⟨s1, s2⟩ := hSx; go_simp; (try with_reducible rfl))
  (try simp only [Act.put, List.getElem_toArray, List.getElem_cons_zero, List.getElem_cons_succ, List.setIfInBounds_toArray, List.set_cons_zero, List.set_cons_succ])
  refine wpAnyZ_take 8 (v := ?va8_9) rfl (by kernel_rfl) (by kernel_rfl) (by kernel_rfl) (by kernel_rfl) (fun _ _ _ h => h) (by rfl) ?hya8_9 hS ?resta8_9
  case hya8_9 => (intro wx hSx; obtain ⟨s1, s2⟩ := hSx; go_simp; (try with_reducible rfl))
  (try simp only [Act.put, List.getElem_toArray, List.getElem_cons_zero, List.getElem_cons_succ, List.setIfInBounds_toArray, List.set_cons_zero, List.set_cons_succ])
  refine wpAnyZ_take 9 (v := ?va9_10) rfl (by kernel_rfl) (by kernel_rfl) (by kernel_rfl) (by kernel_rfl) (fun _ _ _ h => h) (by rfl) ?hya9_10 hS ?resta9_10
  case hya9_10 => (intro wx hSx; obtain ⟨s1, s2⟩ := hSx; go_simp; (try with_reducible rfl))
  (try simp only [Act.put, List.getElem_toArray, List.getElem_cons_zero, List.getElem_cons_succ, List.setIfInBounds_toArray, List.set_cons_zero, List.set_cons_succ])
  refine wpAnyZ_take 10 (v := ?va10_11) rfl (by kernel_rfl) (by kernel_rfl) (by kernel_rfl) (by kernel_rfl) (fun _ _ _ h => h) (by rfl) ?hya10_11 hS ?resta10_11
  case hya10_11 => (intro wx hSx; obtain ⟨s1, s2⟩ := hSx; go_simp; (try with_reducible rfl))
  (try simp only [Act.put, List.getElem_toArray, List.getElem_cons_zero, List.getElem_cons_succ, List.setIfInBounds_toArray, List.set_cons_zero, List.set_cons_succ])
  refine wpAnyZ_take 11 (v := ?va11_12) rfl (by kernel_rfl) (by kernel_rfl) (by kernel_rfl) (by kernel_rfl) (fun _ _ _ h => h) (by rfl) ?hya11_12 hS ?resta11_12
  case hya11_12 => (intro wx hSx; obtain ⟨s1, s2⟩ := hSx; go_simp; (try with_reducible rfl))
  (try simp only [Act.put, List.getElem_toArray, List.getElem_cons_zero, List.getElem_cons_succ, List.setIfInBounds_toArray, List.set_cons_zero, List.set_cons_succ])
  refine wpAnyZ_take 12 (v := ?va12_13) rfl (by kernel_rfl) (by kernel_rfl) (by kernel_rfl) (by kernel_rfl) (fun _ _ _ h => h) (by rfl) ?hya12_13 hS ?resta12_13
  case hya12_13 => (intro wx hSx; obtain ⟨s1, s2⟩ := hSx; go_simp; (try with_reducible rfl))
  (try simp only [Act.put, List.getElem_toArray, List.getElem_cons_zero, List.getElem_cons_succ, List.setIfInBounds_toArray, List.set_cons_zero, List.set_cons_succ])
  refine wpAnyZ_take 13 (v := ?va13_14) rfl (by kernel_rfl) (by kernel_rfl) (by kernel_rfl) (by kernel_rfl) (fun _ _ _ h => h) (by rfl) ?hya13_14 hS ?resta13_14
  case hya13_14 => (intro wx hSx; obtain ⟨s1, s2⟩ := hSx; go_simp; (try with_reducible rfl))
  (try simp only [Act.put, List.getElem_toArray, List.getElem_cons_zero, List.getElem_cons_succ, List.setIfInBounds_toArray, List.set_cons_zero, List.set_cons_succ])
  refine wpAnyZ_one 14 rfl (by kernel_rfl) (fun K hK => ?_)
  go_simp
  refine hK _ _ (fun _ => by rw [← hw7]; exact hS7) ?_
  clear hK K
  (try simp only [Act.put, List.getElem_toArray, List.getElem_cons_zero, List.getElem_cons_succ, List.setIfInBounds_toArray, List.set_cons_zero, List.set_cons_succ])
  have hsrc := src_i64 (P := Tryz.prog) w6 31 3 Tryz.underlying31 n
  rw [← hw7] at hsrc
  rw [← hw7]
  clear hw7
  have k07 := k6.then k7
  have R7 := HNS.out.kept k07 (by simp)
  unfold Ns at R7
  rw [← HQ3.out.1] at R7
  refine wpAnyZ_one 15 rfl (by kernel_rfl) (fun K hK => ?_)
  refine step_append_row2 rfl (.tmp 70) (.tmp 72) 31 rfl 0 3 infI (.int .i64 0) 1 8 Tryz.underlying31 HII.out.1 HII.out.2.1 HII.out.2.2.1 HII.out.2.2.2 rfl _ _ _ (by rfl) R7 _ 1 _ (by rfl) hsrc (by have e1 := HQ3.out.2; omega) (by have e1 := HQ3.out.2; unfold maxLen; omega) (by have e1 := HQ3.out.2; omega) (Nat.zero_le _) ?_
  intro v' w8 r8 k8 o8
  obtain ⟨p', c', hv', -⟩ := Row.shape r8
  subst hv'
  have FIN := sr_len (w8 := w8) (v' := .slice p' (q3 + 1) c') (m := n) HS5.out HPK.out k07 (by rw [← HQ3.out.1]; exact r8) (by rw [← HQ3.out.1]; exact k8) (by rw [← HQ3.out.1]; exact o8)
  obtain ⟨c8, d8', f8, FIN⟩ := FIN
  rw [← HQ3.out.1] at d8'
  rw [← HNP.out] at c8
  have hS8 := (⟨c8, d8'⟩ : (fun w' => w'.cell? ⟨g, 7, none⟩ = some (.slice (some ⟨gl, 0, none⟩) np ko) ∧ w'.cell? ⟨gl, k * 4 + 3, none⟩ = some (.slice p3 q3 c3)) w8)
  try dsimp only at hS8
  have HFIN := @hideH _ FIN
  clear FIN r8 k8 o8 hsrc R7 k07 hS7 k7 hS k6 c8
  refine hK _ _ (fun _ => hS8) ?_
  clear hK K
  (try simp only [Act.put, List.getElem_toArray, List.getElem_cons_zero, List.getElem_cons_succ, List.setIfInBounds_toArray, List.set_cons_zero, List.set_cons_succ])
  refine wpAnyZ_one 16 rfl (by kernel_rfl) (fun K hK => ?_)
  go_simp
  refine hK _ _ (fun _ => hS8) ?_
  clear hK K
  (try simp only [Act.put, List.getElem_toArray, List.getElem_cons_zero, List.getElem_cons_succ, List.setIfInBounds_toArray, List.set_cons_zero, List.set_cons_succ])
  refine wpAnyZ_one 17 rfl (by kernel_rfl) (fun K hK => ?_)
  go_simp
  refine hK _ _ (fun _ => hS8) ?_
  clear hK K
  (try simp only [Act.put, List.getElem_toArray, List.getElem_cons_zero, List.getElem_cons_succ, List.setIfInBounds_toArray, List.set_cons_zero, List.set_cons_succ])
  refine wpAnyZ_one 18 rfl (by kernel_rfl) (fun K hK => ?_)
  go_simp
  refine hK _ _ (fun h => absurd rfl h) ?_
  clear hK K
  (try simp only [Act.put, List.getElem_toArray, List.getElem_cons_zero, List.getElem_cons_succ, List.setIfInBounds_toArray, List.set_cons_zero, List.set_cons_succ])
  refine wpAnyZ_done (by kernel_rfl) ?_ _
  obtain ⟨w9, hw9⟩ : ∃ wx, wx = w8.setCell ⟨gl, k * 4 + 3, none⟩ (.slice p' (q3 + 1) c') := ⟨_, rfl⟩
  rw [← hw9] at HFIN
  rw [← hw9]
  clear hw9 hS8 f8 d8'
  obtain ⟨P1, hP1⟩ : ∃ P1, P1 = P.set k (⟨t'.id, t'.pages, t'.chs, t'.lens ++ [n]⟩, v1, .slice p2 t'.chs.length c2, .slice p' (q3 + 1) c') := ⟨_, rfl⟩
  rw [← hP1] at HFIN
  have HPK1 := @hideH _ (show P1[k]? = some (⟨t'.id, t'.pages, t'.chs, t'.lens ++ [n]⟩, v1, .slice p2 t'.chs.length c2, .slice p' (q3 + 1) c') by rw [hP1]; exact List.getElem?_set_self (List.getElem?_eq_some_iff.1 HPK.out).1)
  have HP1 := @hideH _ hP1
  have X9 := HX5.out.kept HFIN.out.2.1 (fun hm => by have := HLT.out _ (List.mem_cons_of_mem _ (HFIN.out.2.2.2 _ hm)); omega)
  have HX9 := @hideH _ X9
  have B9 := HFIN.out.1.box
  have c7 := B9.cell (j := 7) rfl
  rw [show P.length = np from HNP.out.symm] at c7
  obtain ⟨gl', hp', -, -, d2, -⟩ := HFIN.out.1.at HPK1.out
  cases hp'
  dsimp only at d2
  rw [← HQ2.out.1] at d2
  have h3 := HFIN.out.1.three (List.mem_of_getElem? HPK1.out)
  dsimp only at h3
  have HCS := @hideH _ h3.2.1
  have y0 := X9.cell (j := 0) rfl
  have y1 := X9.cell (j := 1) rfl
  have y2 := X9.cell (j := 2) rfl
  clear hP1 X9 B9 h3
  go_upto_region 9 with fail
  obtain ⟨w6, hw6⟩ : ∃ wx, wx = w9.drew := ⟨_, rfl⟩
  have k6 : Kept [] w9 w6 := by rw [hw6]; exact (Kept.refl [] w9).drew
  have hS : (fun w' => w'.cell? ⟨g, 7, none⟩ = some (.slice (some ⟨gl, 0, none⟩) np ko) ∧ w'.cell? ⟨gl, k * 4 + 2, none⟩ = some (.slice p2 q2 c2) ∧ w'.cell? ⟨w.heap.size, 0, none⟩ = some (.int .i64 x.key) ∧ w'.cell? ⟨w.heap.size, 1, none⟩ = some (.int .u64 x.val) ∧ w'.cell? ⟨w.heap.size, 2, none⟩ = some (.bool x.gone)) w6 := ⟨k6.cell c7 (by simp), k6.cell d2 (by simp), k6.cell y0 (by simp), k6.cell y1 (by simp), k6.cell y2 (by simp)⟩
  try dsimp only at hS
  obtain ⟨w7, hw7⟩ : ∃ wx, wx = w6.alloc (.cells #[.int .i64 x.key, .int .u64 x.val, .bool x.gone] 149) := ⟨_, rfl⟩
  have k7 : Kept [] w6 w7 := by rw [hw7]; exact (Kept.refl [] w6).alloc _
  have hS7 := (⟨k7.cell hS.1 (by simp), k7.cell hS.2.1 (by simp), k7.cell hS.2.2.1 (by simp), k7.cell hS.2.2.2.1 (by simp), k7.cell hS.2.2.2.2 (by simp)⟩ : (fun w' => w'.cell? ⟨g, 7, none⟩ = some (.slice (some ⟨gl, 0, none⟩) np ko) ∧ w'.cell? ⟨gl, k * 4 + 2, none⟩ = some (.slice p2 q2 c2) ∧ w'.cell? ⟨w.heap.size, 0, none⟩ = some (.int .i64 x.key) ∧ w'.cell? ⟨w.heap.size, 1, none⟩ = some (.int .u64 x.val) ∧ w'.cell? ⟨w.heap.size, 2, none⟩ = some (.bool x.gone)) w7)
  try dsimp only at hS7
  refine wp_region_late (fun w' => w'.cell? ⟨g, 7, none⟩ = some (.slice (some ⟨gl, 0, none⟩) np ko) ∧ w'.cell? ⟨gl, k * 4 + 2, none⟩ = some (.slice p2 q2 c2) ∧ w'.cell? ⟨w.heap.size, 0, none⟩ = some (.int .i64 x.key) ∧ w'.cell? ⟨w.heap.size, 1, none⟩ = some (.int .u64 x.val) ∧ w'.cell? ⟨w.heap.size, 2, none⟩ = some (.bool x.gone)) 18 (by kernel_rfl) ?_
  rw [← hw6]
  clear hw6 c7 d2 y0 y1 y2
  refine wpAnyZ_take 0 (v := ?va0_15) rfl (by kernel_rfl) (by kernel_rfl) (by kernel_rfl) (by kernel_rfl) (fun _ _ _ h => h) (by rfl) ?hya0_15 hS ?resta0_15
  case hya0_15 => (intro wx hSx; obtain ⟨s1, s2, s3, s4, s5⟩ := hSx; go_simp; (try with_reducible rfl))
  (try simp only [Act.put, List.getElem_toArray, List.getElem_cons_zero, List.getElem_cons_succ, List.setIfInBounds_toArray, List.set_cons_zero, List.set_cons_succ])
  refine wpAnyZ_take 1 (v := ?va1_16) rfl (by kernel_rfl) (by kernel_rfl) (by kernel_rfl) (by kernel_rfl) (fun _ _ _ h => h) (by rfl) ?hya1_16 hS ?resta1_16
  case hya1_16 => (intro wx hSx; obtain ⟨s1, s2, s3, s4, s5⟩ := hSx; go_simp; (try with_reducible rfl))
  (try simp only [Act.put, List.getElem_toArray, List.getElem_cons_zero, List.getElem_cons_succ, List.setIfInBounds_toArray, List.set_cons_zero, List.set_cons_succ])
  refine wpAnyZ_take 2 (v := ?va2_17) rfl (by kernel_rfl) (by kernel_rfl) (by kernel_rfl) (by kernel_rfl) (fun _ _ _ h => h) (by rfl) ?hya2_17 hS ?resta2_17
  case hya2_17 => (intro wx hSx; obtain ⟨s1, s2, s3, s4, s5⟩ := hSx; go_simp; (try with_reducible rfl))
  (try simp only [Act.put, List.getElem_toArray, List.getElem_cons_zero, List.getElem_cons_succ, List.setIfInBounds_toArray, List.set_cons_zero, List.set_cons_succ])
  refine wpAnyZ_take 3 (v := ?va3_18) rfl (by kernel_rfl) (by kernel_rfl) (by kernel_rfl) (by kernel_rfl) (fun _ _ _ h => h) (by rfl) ?hya3_18 hS ?resta3_18
  case hya3_18 => (intro wx hSx; obtain ⟨s1, s2, s3, s4, s5⟩ := hSx; go_simp; (try with_reducible rfl))
  (try simp only [Act.put, List.getElem_toArray, List.getElem_cons_zero, List.getElem_cons_succ, List.setIfInBounds_toArray, List.set_cons_zero, List.set_cons_succ])
  refine wpAnyZ_take 4 (v := ?va4_19) rfl (by kernel_rfl) (by kernel_rfl) (by kernel_rfl) (by kernel_rfl) (fun _ _ _ h => h) (by rfl) ?hya4_19 hS ?resta4_19
  case hya4_19 => (intro wx hSx; obtain ⟨s1, s2, s3, s4, s5⟩ := hSx; go_simp; (try with_reducible rfl))
  (try simp only [Act.put, List.getElem_toArray, List.getElem_cons_zero, List.getElem_cons_succ, List.setIfInBounds_toArray, List.set_cons_zero, List.set_cons_succ])
  refine wpAnyZ_take 5 (v := ?va5_20) rfl (by kernel_rfl) (by kernel_rfl) (by kernel_rfl) (by kernel_rfl) (fun _ _ _ h => h) (by rfl) ?hya5_20 hS ?resta5_20
  case hya5_20 => (intro wx hSx; obtain ⟨s1, s2, s3, s4, s5⟩ := hSx; go_simp; (try with_reducible rfl))
  (try simp only [Act.put, List.getElem_toArray, List.getElem_cons_zero, List.getElem_cons_succ, List.setIfInBounds_toArray, List.set_cons_zero, List.set_cons_succ])
  refine wpAnyZ_take 6 (v := ?va6_21) rfl (by kernel_rfl) (by kernel_rfl) (by kernel_rfl) (by kernel_rfl) (fun _ _ _ h => h) (by rfl) ?hya6_21 hS ?resta6_21
  case hya6_21 => (intro wx hSx; obtain ⟨s1, s2, s3, s4, s5⟩ := hSx; go_simp; (try with_reducible rfl))
  (try simp only [Act.put, List.getElem_toArray, List.getElem_cons_zero, List.getElem_cons_succ, List.setIfInBounds_toArray, List.set_cons_zero, List.set_cons_succ])
  refine wpAnyZ_take 7 (v := ?va7_22) rfl (by kernel_rfl) (by kernel_rfl) (by kernel_rfl) (by kernel_rfl) (fun _ _ _ h => h) (by rfl) ?hya7_22 hS ?resta7_22
  case hya7_22 => (intro wx hSx; obtain ⟨s1, s2, s3, s4, s5⟩ := hSx; go_simp; (try with_reducible rfl))
  (try simp only [Act.put, List.getElem_toArray, List.getElem_cons_zero, List.getElem_cons_succ, List.setIfInBounds_toArray, List.set_cons_zero, List.set_cons_succ])
  refine wpAnyZ_take 8 (v := ?va8_23) rfl (by kernel_rfl) (by kernel_rfl) (by kernel_rfl) (by kernel_rfl) (fun _ _ _ h => h) (by rfl) ?hya8_23 hS ?resta8_23
  case hya8_23 => (intro wx hSx; obtain ⟨s1, s2, s3, s4, s5⟩ := hSx; go_simp; (try with_reducible rfl))
  (try simp only [Act.put, List.getElem_toArray, List.getElem_cons_zero, List.getElem_cons_succ, List.setIfInBounds_toArray, List.set_cons_zero, List.set_cons_succ])
  refine wpAnyZ_take 9 (v := ?va9_24) rfl (by kernel_rfl) (by kernel_rfl) (by kernel_rfl) (by kernel_rfl) (fun _ _ _ h => h) (by rfl) ?hya9_24 hS ?resta9_24
  case hya9_24 => (intro wx hSx; obtain ⟨s1, s2, s3, s4, s5⟩ := hSx; go_simp; (try with_reducible rfl))
  (try simp only [Act.put, List.getElem_toArray, List.getElem_cons_zero, List.getElem_cons_succ, List.setIfInBounds_toArray, List.set_cons_zero, List.set_cons_succ])
  refine wpAnyZ_take 10 (v := ?va10_25) rfl (by kernel_rfl) (by kernel_rfl) (by kernel_rfl) (by kernel_rfl) (fun _ _ _ h => h) (by rfl) ?hya10_25 hS ?resta10_25
  case hya10_25 => (intro wx hSx; obtain ⟨s1, s2, s3, s4, s5⟩ := hSx; go_simp; (try with_reducible rfl))
  (try simp only [Act.put, List.getElem_toArray, List.getElem_cons_zero, List.getElem_cons_succ, List.setIfInBounds_toArray, List.set_cons_zero, List.set_cons_succ])
  refine wpAnyZ_take 11 (v := ?va11_26) rfl (by kernel_rfl) (by kernel_rfl) (by kernel_rfl) (by kernel_rfl) (fun _ _ _ h => h) (by rfl) ?hya11_26 hS ?resta11_26
  case hya11_26 => (intro wx hSx; obtain ⟨s1, s2, s3, s4, s5⟩ := hSx; go_simp; (try with_reducible rfl))
  (try simp only [Act.put, List.getElem_toArray, List.getElem_cons_zero, List.getElem_cons_succ, List.setIfInBounds_toArray, List.set_cons_zero, List.set_cons_succ])
  refine wpAnyZ_take 12 (v := ?va12_27) rfl (by kernel_rfl) (by kernel_rfl) (by kernel_rfl) (by kernel_rfl) (fun _ _ _ h => h) (by rfl) ?hya12_27 hS ?resta12_27
  case hya12_27 => (intro wx hSx; obtain ⟨s1, s2, s3, s4, s5⟩ := hSx; go_simp; (try with_reducible rfl))
  (try simp only [Act.put, List.getElem_toArray, List.getElem_cons_zero, List.getElem_cons_succ, List.setIfInBounds_toArray, List.set_cons_zero, List.set_cons_succ])
  refine wpAnyZ_take 13 (v := ?va13_28) rfl (by kernel_rfl) (by kernel_rfl) (by kernel_rfl) (by kernel_rfl) (fun _ _ _ h => h) (by rfl) ?hya13_28 hS ?resta13_28
  case hya13_28 => (intro wx hSx; obtain ⟨s1, s2, s3, s4, s5⟩ := hSx; go_simp; (try with_reducible rfl))
  (try simp only [Act.put, List.getElem_toArray, List.getElem_cons_zero, List.getElem_cons_succ, List.setIfInBounds_toArray, List.set_cons_zero, List.set_cons_succ])
  refine wpAnyZ_one 14 rfl (by kernel_rfl) (fun K hK => ?_)
  go_simp
  refine hK _ _ (fun _ => by rw [← hw7]; exact hS7) ?_
  clear hK K
  (try simp only [Act.put, List.getElem_toArray, List.getElem_cons_zero, List.getElem_cons_succ, List.setIfInBounds_toArray, List.set_cons_zero, List.set_cons_succ])
  have hsrc := src_chg (P := Tryz.prog) w6 113 149 Tryz.underlying113 x
  rw [← hw7] at hsrc
  rw [← hw7]
  clear hw7
  have k07 := k6.then k7
  have R7 := HCS.out.kept k07 (by simp)
  unfold Cs at R7
  rw [← HQ2.out.1] at R7
  refine wpAnyZ_one 15 rfl (by kernel_rfl) (fun K hK => ?_)
  refine step_append_row2 rfl (.tmp 88) (.tmp 90) 113 rfl 0 149 infC (.agg #[.int .i64 0, .int .u64 0, .bool false]) 3 24 Tryz.underlying113 HIC.out.1 HIC.out.2.1 HIC.out.2.2.1 HIC.out.2.2.2 rfl _ _ _ (by rfl) R7 _ 1 _ (by rfl) hsrc (by have e1 := HQ2.out.2; omega) (by have e1 := HQ2.out.2; unfold maxLen; omega) (by have e1 := HQ2.out.2; omega) (Nat.zero_le _) ?_
  intro v' w8' r8 k8 o8
  obtain ⟨p'', c'', hv', -⟩ := Row.shape r8
  subst hv'
  have FIN := sr_chs (w8 := w8') (v' := .slice p'' (q2 + 1) c'') (x := x) HFIN.out.1 HPK1.out k07 (by dsimp only; rw [← HQ2.out.1]; exact r8) (by rw [← HQ2.out.1]; exact k8) (by rw [← HQ2.out.1]; exact o8)
  obtain ⟨c8, d8', f8, FIN⟩ := FIN
  rw [← HQ2.out.1] at d8'
  rw [← HNP.out] at c8
  have X8 := ((HX9.out.kept k07 (by simp)).kept k8 (fun hm => by have := HLT.out _ (List.mem_cons_of_mem _ (chs_in (List.mem_of_getElem? HPK.out) (y := w.heap.size) (by have q := own_mem.1 hm; rw [HQ2.out.1] at q; exact q))); omega))
  have hS8 := (⟨c8, d8', X8.cell (j := 0) rfl, X8.cell (j := 1) rfl, X8.cell (j := 2) rfl⟩ : (fun w' => w'.cell? ⟨g, 7, none⟩ = some (.slice (some ⟨gl, 0, none⟩) np ko) ∧ w'.cell? ⟨gl, k * 4 + 2, none⟩ = some (.slice p2 q2 c2) ∧ w'.cell? ⟨w.heap.size, 0, none⟩ = some (.int .i64 x.key) ∧ w'.cell? ⟨w.heap.size, 1, none⟩ = some (.int .u64 x.val) ∧ w'.cell? ⟨w.heap.size, 2, none⟩ = some (.bool x.gone)) w8')
  try dsimp only at hS8
  have HFI2 := @hideH _ FIN
  clear FIN r8 k8 o8 hsrc R7 k07 hS7 k7 hS k6 c8 X8
  refine hK _ _ (fun _ => hS8) ?_
  clear hK K
  (try simp only [Act.put, List.getElem_toArray, List.getElem_cons_zero, List.getElem_cons_succ, List.setIfInBounds_toArray, List.set_cons_zero, List.set_cons_succ])
  refine wpAnyZ_one 16 rfl (by kernel_rfl) (fun K hK => ?_)
  go_simp
  refine hK _ _ (fun _ => hS8) ?_
  clear hK K
  (try simp only [Act.put, List.getElem_toArray, List.getElem_cons_zero, List.getElem_cons_succ, List.setIfInBounds_toArray, List.set_cons_zero, List.set_cons_succ])
  refine wpAnyZ_one 17 rfl (by kernel_rfl) (fun K hK => ?_)
  go_simp
  refine hK _ _ (fun _ => hS8) ?_
  clear hK K
  (try simp only [Act.put, List.getElem_toArray, List.getElem_cons_zero, List.getElem_cons_succ, List.setIfInBounds_toArray, List.set_cons_zero, List.set_cons_succ])
  refine wpAnyZ_one 18 rfl (by kernel_rfl) (fun K hK => ?_)
  go_simp
  refine hK _ _ (fun h => absurd rfl h) ?_
  clear hK K
  (try simp only [Act.put, List.getElem_toArray, List.getElem_cons_zero, List.getElem_cons_succ, List.setIfInBounds_toArray, List.set_cons_zero, List.set_cons_succ])
  refine wpAnyZ_done (by kernel_rfl) ?_ _
  obtain ⟨w12, hw12⟩ : ∃ wx, wx = w8'.setCell ⟨gl, k * 4 + 2, none⟩ (.slice p'' (q2 + 1) c'') := ⟨_, rfl⟩
  rw [← hw12] at HFI2
  rw [← hw12]
  clear hw12 hS8 f8 d8'
  obtain ⟨P2, hP2⟩ : ∃ P2, P2 = P1.set k (⟨t'.id, t'.pages, t'.chs ++ [x], t'.lens ++ [n]⟩, v1, .slice p'' (q2 + 1) c'', .slice p' (q3 + 1) c') := ⟨_, rfl⟩
  dsimp only at HFI2
  rw [← hP2] at HFI2
  have HPK2 := @hideH _ (show P2[k]? = some (⟨t'.id, t'.pages, t'.chs ++ [x], t'.lens ++ [n]⟩, v1, .slice p'' (q2 + 1) c'', .slice p' (q3 + 1) c') by rw [hP2]; exact List.getElem?_set_self (List.getElem?_eq_some_iff.1 HPK1.out).1)
  have HP2 := @hideH _ hP2
  clear hP2
  have HQ := @hideH _ (rHold k page w12 HFI2.out.1 HPK2.out (by have := HOK.out.few HKT.out; show t'.pages.length ≤ 1000; omega))
  go_wp2_with fail
  refine HQ.out.mono ?_
  clear HQ
  rintro e wz ⟨rfl, P', h2, hm, k2, fr2⟩
  have HZ := @hideH _ (And.intro h2 (And.intro hm (And.intro k2 fr2)))
  clear h2 hm k2 fr2
  go_wp2
  go_ret
  have FR1 := (HFIN.out.2.2.1.trans HFI2.out.2.2.1 HFIN.out.2.1.size).trans HZ.out.2.2.2 (Nat.le_trans HFIN.out.2.1.size HFI2.out.2.1.size)
  have S5s : w.heap.size ≤ we.heap.size := HK5.out.size
  have mp : P'.map Prod.fst = (P.map Prod.fst).set k (heldT ⟨t'.id, t'.pages, t'.chs ++ [x], t'.lens ++ [n]⟩ page) := by rw [HZ.out.2.1, HP2.out, HP1.out, List.map_set, List.map_set, List.set_set, List.set_set]
  refine ⟨_, by rw [HE.out.1]; rfl, ⟨vd, _, u', D, P', HZ.out.1, ?_, ?_, rfl⟩, ?_, ?_⟩
  · rw [HE.out.2, HS.out]; unfold SrP.st; dsimp only; rw [mp, HB.out.2]
  · rw [HE.out.2]; exact HOK.out.chg HKT.out HV.out.2.2 HPG.out ⟨by have := HN0.out; omega, HN.out.2.2.2⟩ HB.out.1.symm
  · rw [HF.out]; exact (FR1.old S5s).cons
  · rw [HF.out]
    have K8 := HK5.out.trans HFIN.out.2.1 (fun y hy => .inl (List.mem_cons_of_mem _ (HFIN.out.2.2.2 y hy)))
    have K9 := K8.trans HFI2.out.2.1 (fun y hy => by
      rcases HFIN.out.2.2.1 y (HFI2.out.2.2.2 y hy) with q | q
      · exact .inl (List.mem_cons_of_mem _ q)
      · exact .inr (by omega))
    refine K9.trans HZ.out.2.2.1 (fun y hy => ?_)
    have hy2 : y ∈ blks (things vd (.slice (some ⟨gl, 0, none⟩) P.length ko) D P2) := by
      rcases List.mem_append.1 hy with hy | hy
      · exact vo_in (own_mem.1 hy)
      · exact pages_in (List.mem_of_getElem? HPK2.out) (own_mem.1 hy)
    rcases (HFIN.out.2.2.1.trans HFI2.out.2.2.1 HFIN.out.2.1.size) y hy2 with q | q
    · exact .inl (List.mem_cons_of_mem _ q)
    · exact .inr (by omega)
end Go.Proofs.YtocpagpkpibmaaaGreatDoor

/-
  OWN WORK (by mkpng.py). The document's State (layer 18): count.
-/
namespace Go.Proofs.YtocpagpkpibmaaaGreatDoor
open Go.RowKit
set_option linter.unusedVariables false
set_option linter.unusedSimpArgs false

theorem Row.src {P : Program} {w : World} {base sz : Nat} {v : Value} {n : Nat} {cs : List Value} {t e : TypeId} (ht : P.underlying t = some (.slice e)) (h : Row w base sz v n cs) : Src P sz t v n cs w := by
  obtain ⟨h1, h2, p, c, rfl, h3, h4, h5⟩ := h
  rcases h5 with ⟨rfl, rfl⟩ | ⟨g, rfl, h6, h7, h8, h9⟩
  · obtain rfl : n = 0 := by omega
    obtain rfl : cs = [] := List.eq_nil_of_length_eq_zero (by simpa using h1)
    exact Src.ofNil w ht 0
  · exact Src.ofSlice w ht _ _ _ _ h1 (fun j u hj => by rw [add_none rfl]; simpa using h8 j u hj) h2
def flatD (D : List (List Chg × Value)) (i : Nat) : List Chg := ((D.take i).map Prod.fst).flatten
theorem flatD_next {D : List (List Chg × Value)} {i : Nat} {d : List Chg × Value} (h : D[i]? = some d) : flatD D (i + 1) = flatD D i ++ d.1 := by
  unfold flatD
  rw [List.take_add_one, h]
  simp
theorem flatD_all (D : List (List Chg × Value)) : flatD D D.length = (D.map Prod.fst).flatten := by unfold flatD; rw [List.take_length]
theorem flatD_le (D : List (List Chg × Value)) : ∀ i, (flatD D i).length ≤ ((D.map Prod.fst).flatten).length := fun i => by
  unfold flatD
  rw [List.map_take]
  have : ((D.map Prod.fst).flatten) = ((D.map Prod.fst).take i).flatten ++ ((D.map Prod.fst).drop i).flatten := by rw [← List.flatten_append, List.take_append_drop]
  rw [this, List.length_append]; omega
theorem flat_bound {D : List (List Chg × Value)} {l ch : List Chg} {B : Nat} (h : l = flatD D D.length ++ ch) (hl : l.length ≤ B) (i : Nat) : (flatD D i).length ≤ B := by
  have e1 := flatD_le D i
  rw [h, List.length_append, flatD_all] at hl
  omega
theorem countTo_le (pages page : Int) (l : List Chg) : ∀ i : Nat, 0 ≤ countTo pages page l i ∧ countTo pages page l i ≤ (i : Int)
  | 0 => by simp [countTo]
  | i + 1 => by
    have := countTo_le pages page l i
    unfold countTo
    split <;> omega
theorem countTo_succ (pages page : Int) (l : List Chg) (i : Nat) : countTo pages page l (i + 1) = countTo pages page l i + (if lastC pages page l i = true then 1 else 0) := rfl
def partC (l : List Chg) (ck : Int) (i j : Nat) : Bool := ((l.drop (i + 1)).take (j - (i + 1))).all fun d => d.key != ck
theorem partC_start (l : List Chg) (ck : Int) (i : Nat) : partC l ck i (i + 1) = true := by unfold partC; simp
theorem partC_next {l : List Chg} {ck : Int} {i j : Nat} {d : Chg} (hij : i + 1 ≤ j) (h : l[j]? = some d) : partC l ck i (j + 1) = (partC l ck i j && (d.key != ck)) := by
  unfold partC
  rw [show j + 1 - (i + 1) = (j - (i + 1)) + 1 by omega, List.take_add_one, List.getElem?_drop, show i + 1 + (j - (i + 1)) = j by omega, h]
  simp
theorem partC_all {l : List Chg} {ck : Int} {i : Nat} : partC l ck i l.length = (l.drop (i + 1)).all fun d => d.key != ck := by
  unfold partC
  rw [List.take_of_length_le (by rw [List.length_drop]; omega)]
theorem lastC_at {pages page : Int} {l : List Chg} {i : Nat} {x : Chg} (h : l[i]? = some x) : lastC pages page l i = ((x.key % pages == page && !x.gone) && partC l x.key i l.length) := by
  unfold lastC
  rw [h, partC_all]
set_option maxRecDepth 20000 in
set_option maxHeartbeats 6400000 in
theorem rCount {g : Nat} {c : Cf} {vd vo : Value} {u : Int} {D : List (List Chg × Value)} {P : List Pt} (k : Nat) (page : Int) (w : World) (h : SrP w g c vd vo u D P) (hpg : 1 ≤ c.pages ∧ c.pages ≤ 16) {p : Pt} (hk : P[k]? = some p) (hlen : (allC (SrP.st u D P) p.1).length ≤ 4000000000000) (hkey : ∀ x ∈ allC (SrP.st u D P) p.1, 0 ≤ x.key ∧ x.key < 4294967296) : Calls Tryz.prog 85 #[.pointer (some ⟨g, 0, none⟩), .int .i64 (k : Int), .int .i64 page] w fun e w' => e = .returned (.int .i64 (countS c (SrP.st u D P) p.1 page)) ∧ Kept [] w w' := by
  obtain ⟨po, ko, hvo, -, -⟩ := h.rowO.shape
  subst hvo
  obtain ⟨pd, kd, hvd, -, -⟩ := h.rowD.shape
  subst hvd
  obtain ⟨n, hn⟩ : ∃ n, n = P.length := ⟨_, rfl⟩
  obtain ⟨nd, hnd⟩ : ∃ nd, nd = D.length := ⟨_, rfl⟩
  have HND := @hideH _ hnd
  have B := h.box
  rw [← hn, ← hnd] at B
  have c0 := B.cell (j := 0) (v := .int .i64 c.pages) rfl
  have c6 := B.cell (j := 6) rfl
  have c7 := B.cell (j := 7) rfl
  have hkn : (k : Int) < (n : Int) := by have := (List.getElem?_eq_some_iff.1 hk).1; omega
  have hk0 : (0 : Int) ≤ (k : Int) := by omega
  obtain ⟨gl, hp, -, -, d2, -⟩ := h.at hk
  subst hp
  obtain ⟨l, hl⟩ : ∃ l, l = allC (SrP.st u D P) p.1 := ⟨_, rfl⟩
  have hl2 : l = flatD D D.length ++ p.1.chs := by rw [hl, flatD_all]; rfl
  rw [← hl] at hlen hkey
  have HL := @hideH _ (And.intro hl (And.intro hl2 (And.intro hlen hkey)))
  have hndl : nd ≤ maxLen := by obtain ⟨_, _, e, h1, h2⟩ := h.rowD.shape; cases e; rw [hnd]; exact Nat.le_trans h1 h2
  have HNL := @hideH _ hndl
  have HPG := @hideH _ hpg
  have HR := @hideH _ h
  have HK := @hideH _ hk
  obtain ⟨p2, k2, e2, -⟩ := (h.three (List.mem_of_getElem? hk)).2.1.shape
  rw [e2] at d2
  obtain ⟨q2, hq2⟩ : ∃ q, q = p.1.chs.length := ⟨_, rfl⟩
  rw [← hq2] at d2 e2
  have HQ2 := @hideH _ (And.intro hq2 e2)
  clear B hn hnd hk hl hl2 hlen hkey hpg h hndl e2 hq2
  obtain ⟨infC, hin1, hin2, hin3, hin4⟩ := info_parts3 (show (Tryz.prog.info? 149).map (fun i => (i.zero, i.size, i.bytes)) = some (some (.agg #[.int .i64 0, .int .u64 0, .bool false]), 3, 24) by kernel_rfl)
  have HIC := @hideH _ (And.intro hin1 (And.intro hin2 (And.intro hin3 hin4)))
  clear hin1 hin2 hin3 hin4
  go_enter Tryz.func85, Tryz.ntmps85
  go_wp2
  go_loopw [7, 8] (fun vl vi wr => ∃ (i m : Nat) (pl : Option Addr) (cl : Nat), i ≤ nd ∧ vi = .int .i64 i ∧ vl = .slice pl m cl ∧ Hid (m = (flatD D i).length ∧ Cs wr w.heap.size (.slice pl m cl) (flatD D i) ∧ Kept [] w wr)) (fun _ vi _ => nd - (intOf vi).toNat)
  case atStart => exact ⟨0, 0, none, 0, Nat.zero_le _, rfl, rfl, by simp [flatD], by simp [flatD]; exact Cs.nil _ _, Kept.refl _ _⟩
  case round =>
    obtain ⟨i, m, pl, cl, hi, rfl, rfl, hh⟩ := hrel
    have c6' := hh.out.2.2.cell c6 (by simp)
    by_cases hil : i < nd
    · have hil' : (i : Int) < (nd : Int) := by omega
      have hi0 : (0 : Int) ≤ (i : Int) := by omega
      have wi : IntKind.i64.wrap ((i : Int) + 1) = (i : Int) + 1 := wrap_i64_of (by omega) (by have := HNL.out; unfold maxLen at this; omega)
      obtain ⟨d, hd⟩ : ∃ d, D[i]? = some d := ⟨_, List.getElem?_eq_getElem (by have := HND.out; omega)⟩
      obtain ⟨gd, hpd, dd⟩ := (HR.out.then hh.out.2.2).atD hd
      subst hpd
      have cd := (HR.out.then hh.out.2.2).done (List.mem_of_getElem? hd)
      obtain ⟨d1, v2⟩ := d
      dsimp only at dd cd
      obtain ⟨p3, k3, e3, -⟩ := cd.shape
      subst e3
      have hfn := flatD_next hd
      have hfl := flatD_le D (i + 1)
      dsimp only at hfn
      have hsrc := Row.src (P := Tryz.prog) (t := 113) Tryz.underlying113 cd
      have hrow := hh.out.2.1
      unfold Cs at hrow
      rw [← hh.out.1] at hrow
      have HB := @hideH _ (show m + d1.length ≤ 4000000000000 by rw [hh.out.1, ← List.length_append, ← hfn]; exact flat_bound HL.out.2.1 HL.out.2.2.1 _)
      obtain ⟨q1, hq1⟩ : ∃ q, q = d1.length := ⟨_, rfl⟩
      rw [← hq1] at dd hsrc HB
      have HH := @hideH _ hh.out
      have HFN := @hideH _ (And.intro hfn hq1)
      have hba := hh.out.2.2.size
      clear hd hfn hfl cd hh hq1
      go_wp2_with (at_builtin; refine wpList_append_row2 rfl (.tmp 22) (.tmp 29) 113 rfl w.heap.size 149 infC (.agg #[.int .i64 0, .int .u64 0, .bool false]) 3 24 Tryz.underlying113 HIC.out.1 HIC.out.2.1 HIC.out.2.2.1 HIC.out.2.2.2 rfl _ _ _ (by rfl) hrow _ q1 _ (by rfl) hsrc (by have e1 := HB.out; omega) (by have e1 := HB.out; unfold maxLen; omega) (by have e1 := HB.out; omega) hba ?_; intro v' w8 r8 k8 o8; obtain ⟨p8, c8, hv', -⟩ := Row.shape r8; subst hv'; have HX8 := @hideH _ (And.intro r8 k8); clear r8 k8 o8 hrow hsrc hba)
      go_roundw
      case rel => exact ⟨i + 1, m + q1, p8, c8, by omega, by go_num, rfl, by rw [HFN.out.1, List.length_append, ← HH.out.1, ← HFN.out.2], by unfold Cs; rw [HFN.out.1, List.length_append, ← HH.out.1, ← HFN.out.2, ccells_append]; exact HX8.out.1, HH.out.2.2.trans HX8.out.2 (fun y hy => .inr (Row.lt HH.out.2.1 y (own_mem.1 hy)).1)⟩
      case measure => simp [intOf]; omega
    · have hil' : ¬ (i : Int) < (nd : Int) := by omega
      have ei : i = D.length := by have := HND.out; omega
      have hh2 := hh.out
      rw [ei] at hh2
      have cs2 := ((HR.out.then hh2.2.2).three (List.mem_of_getElem? HK.out)).2.1
      rw [HQ2.out.2] at cs2
      have hsrc := Row.src (P := Tryz.prog) (t := 113) Tryz.underlying113 cs2
      rw [← HQ2.out.1] at hsrc
      have hrow := hh2.2.1
      unfold Cs at hrow
      rw [← hh2.1] at hrow
      have HB := @hideH _ (show m + q2 = l.length ∧ l.length ≤ 4000000000000 from ⟨by rw [HL.out.2.1, List.length_append, ← hh2.1, ← HQ2.out.1], HL.out.2.2.1⟩)
      have hba := hh2.2.2.size
      have HH := @hideH _ hh2
      have c7' := hh2.2.2.cell c7 (by simp)
      have d2' := hh2.2.2.cell d2 (by simp)
      have c0' := hh2.2.2.cell c0 (by simp)
      clear hh hh2 cs2 ei c7 d2 c0 c6
      go_wp2_with (at_builtin; refine wpList_append_row2 rfl (.tmp 31) (.tmp 39) 113 rfl w.heap.size 149 infC (.agg #[.int .i64 0, .int .u64 0, .bool false]) 3 24 Tryz.underlying113 HIC.out.1 HIC.out.2.1 HIC.out.2.2.1 HIC.out.2.2.2 rfl _ _ _ (by rfl) hrow _ q2 _ (by rfl) hsrc (by have e1 := HB.out; omega) (by have e1 := HB.out; unfold maxLen; omega) (by have e1 := HB.out; omega) hba ?_; intro v' w8 r8 k8 o8; obtain ⟨p8, c8, hv', -⟩ := Row.shape r8; subst hv'; have HX8 := @hideH _ (show Cs w8 w.heap.size (.slice p8 l.length c8) l ∧ Kept [] w w8 from ⟨by unfold Cs; rw [HL.out.2.1, List.length_append, ← HH.out.1, ← HQ2.out.1, ccells_append]; exact r8, HH.out.2.2.trans k8 (fun y hy => .inr (Row.lt HH.out.2.1 y (own_mem.1 hy)).1)⟩); replace c0' := k8.cell c0' (fun hm => by have e1 := (Row.lt HH.out.2.1 g (own_mem.1 hm)).1; have e2 := HR.out.box.lt; omega); rw [HB.out.1]; clear r8 k8 o8 hrow hsrc hba)
      obtain ⟨nl, hnl⟩ : ∃ nl, nl = l.length := ⟨_, rfl⟩
      rw [← hnl] at HX8 HB ⊢
      have HNN := @hideH _ hnl
      clear hnl c7' d2' c6' hil hil' hi HH
      go_loopw [9, 10] (fun vn vi wr => ∃ i2 : Nat, i2 ≤ nl ∧ vi = .int .i64 i2 ∧ vn = .int .i64 (countTo c.pages page l i2) ∧ Hid (Kept [] w8 wr)) (fun _ vi _ => nl - (intOf vi).toNat)
      case atStart => exact ⟨0, Nat.zero_le _, rfl, rfl, Kept.refl _ _⟩
      case round =>
        obtain ⟨i2, hi2, rfl, rfl, hh⟩ := hrel
        obtain ⟨wo, hwo⟩ : ∃ wo, wo = wr := ⟨_, rfl⟩
        rw [← hwo] at hh ⊢
        clear hwo
        have hct := countTo_le c.pages page l i2
        obtain ⟨ct, hcte⟩ : ∃ ct, ct = countTo c.pages page l i2 := ⟨_, rfl⟩
        have HCT := @hideH _ hcte
        rw [← hcte] at hct ⊢
        clear hcte
        by_cases hil : i2 < nl
        rotate_left
        · have hil' : ¬ (i2 : Int) < (nl : Int) := by omega
          have HE := @hideH _ (show countS c (SrP.st u D P) p.1 page = ct by rw [HCT.out]; unfold countS; rw [← HL.out.1, show i2 = l.length by have := HNN.out; omega])
          go_wp2
          go_ret
          exact ⟨by rw [HE.out]; rfl, HX8.out.2.then hh.out⟩
        have hil' : (i2 : Int) < (nl : Int) := by omega
        have hi0 : (0 : Int) ≤ (i2 : Int) := by omega
        have wi : IntKind.i64.wrap ((i2 : Int) + 1) = (i2 : Int) + 1 := wrap_i64_of (by omega) (by have := HB.out; omega)
        have wc1 : IntKind.i64.wrap (ct + 1) = ct + 1 := wrap_i64_of (by omega) (by have := HB.out; omega)
        obtain ⟨x, hx⟩ : ∃ x, l[i2]? = some x := ⟨_, List.getElem?_eq_getElem (by have := HNN.out; omega)⟩
        obtain ⟨ga, hpa, -, -, a0, -, a2⟩ := (HX8.out.1.kept hh.out (by simp)).at hx
        subst hpa
        have c0'' := hh.out.cell c0' (by simp)
        have hkx := HL.out.2.2.2 x (List.mem_of_getElem? hx)
        have hp0 : (c.pages == 0) = false := by have := HPG.out; simp; omega
        have hp1 : ¬ c.pages = 0 := by have := HPG.out; omega
        have hpp : 0 < c.pages := by have := HPG.out; omega
        obtain ⟨r, hr⟩ : ∃ r, r = x.key % c.pages := ⟨_, rfl⟩
        have htm : x.key.tmod c.pages = r := by rw [hr]; exact Int.tmod_eq_emod_of_nonneg hkx.1
        have hr1 : 0 ≤ r ∧ r < 16 := by have := HPG.out; rw [hr]; exact ⟨Int.emod_nonneg _ (by omega), by have := Int.emod_lt_of_pos x.key (show 0 < c.pages by omega); omega⟩
        have wr1 : IntKind.i64.wrap r = r := wrap_i64_of (by omega) (by omega)
        have HX := @hideH _ (And.intro hx hr)
        have HCN := @hideH _ (show ∀ b : Bool, b = lastC c.pages page l i2 → countTo c.pages page l (i2 + 1) = if b = true then ct + 1 else ct from fun b hb => by rw [countTo_succ, ← hb, HCT.out]; cases b <;> simp)
        have HHO := @hideH _ hh.out
        clear hx hr hr1 hkx hh hct
        by_cases er : r = page
        rotate_left
        · have er' : (r == page) = false := by simpa using er
          have HER := @hideH _ er
          clear er
          go_upto_region 11 with fail
          go_quiet (fail)
          clear a2 c0'' htm wr1 hp0 hp1 hpp
          obtain ⟨w11, hw11⟩ : ∃ wx, wx = wo.drewN nq := ⟨_, rfl⟩
          have k11 : Kept [] w8 w11 := by rw [hw11]; exact HHO.out.drewN' _
          rw [← hw11]
          have HK11 := @hideH _ k11
          clear hw11 k11 a0
          go_wp2
          go_loopw [11, 12] (fun vb vj wr => ∃ (j : Nat) (b : Bool), i2 + 1 ≤ j ∧ j ≤ nl ∧ vj = .int .i64 j ∧ vb = .bool b ∧ Hid (b = (false && partC l x.key i2 j) ∧ Kept [] w8 wr)) (fun _ vj _ => nl - (intOf vj).toNat)
          case atStart => exact ⟨i2 + 1, false, by omega, by omega, by go_num, rfl, by rw [partC_start, Bool.and_true], HK11.out⟩
          case round =>
            obtain ⟨j, b, hij, hj, rfl, rfl, hh⟩ := hrel
            by_cases hjl : j < nl
            rotate_left
            · have hjl' : ¬ (j : Int) < (nl : Int) := by omega
              have HBL := @hideH _ (show b = lastC c.pages page l i2 by rw [hh.out.1, lastC_at HX.out.1, show j = l.length by have := HNN.out; omega]; rw [← HX.out.2]; simp [HER.out])
              have HK := @hideH _ hh.out.2
              clear hh
              cases b
              · go_wp2
                go_roundw
                case rel => exact ⟨i2 + 1, by omega, by go_num, by rw [HCN.out _ HBL.out]; rfl, HK.out⟩
                case measure => simp [intOf]; omega
              · go_wp2
                go_roundw
                case rel => exact ⟨i2 + 1, by omega, by go_num, by rw [HCN.out _ HBL.out]; rfl, HK.out⟩
                case measure => simp [intOf]; omega
            have hjl' : (j : Int) < (nl : Int) := by omega
            have hj0 : (0 : Int) ≤ (j : Int) := by omega
            have wj : IntKind.i64.wrap ((j : Int) + 1) = (j : Int) + 1 := wrap_i64_of (by omega) (by have := HB.out; omega)
            obtain ⟨y, hy⟩ : ∃ y, l[j]? = some y := ⟨_, List.getElem?_eq_getElem (by have := HNN.out; omega)⟩
            obtain ⟨gb, hpb, -, -, b0, -, -⟩ := (HX8.out.1.kept hh.out.2 (by simp)).at hy
            cases hpb
            obtain ⟨gb, hpb, -, -, a0, -, -⟩ := (HX8.out.1.kept hh.out.2 (by simp)).at HX.out.1
            cases hpb
            have hpn := partC_next (ck := x.key) hij hy
            by_cases ek : y.key = x.key
            · have ek' : (y.key == x.key) = true := by simpa using ek
              have HN := @hideH _ (show false = (false && partC l x.key i2 (j + 1)) by rw [hpn]; simp [ek])
              have HK := @hideH _ hh.out.2
              clear ek hy hpn hh
              go_upto_region 15 with fail
              go_quiet (fail)
              go_wp2
              go_roundw
              case rel => exact ⟨j + 1, false, by omega, by omega, by go_num, rfl, HN.out, HK.out.drewN' _⟩
              case measure => simp [intOf]; omega
            · have ek' : (y.key == x.key) = false := by simpa using ek
              have HN := @hideH _ (show b = (false && partC l x.key i2 (j + 1)) by rw [hpn, hh.out.1, show (y.key != x.key) = true by simpa using ek, Bool.and_true])
              have HK := @hideH _ hh.out.2
              clear ek hy hpn hh
              go_upto_region 15 with fail
              go_quiet (fail)
              go_wp2
              go_roundw
              case rel => exact ⟨j + 1, b, by omega, by omega, by go_num, rfl, HN.out, HK.out.drewN' _⟩
              case measure => simp [intOf]; omega
        have er' : (r == page) = true := by simpa using er
        have HER := @hideH _ er
        clear er
        obtain ⟨bg, hbg⟩ : ∃ bg, bg = !x.gone := ⟨_, rfl⟩
        have HBG := @hideH _ hbg
        clear hbg
        go_upto_region 11 with fail
        go_quiet (fail)
        clear a2 c0'' htm wr1 hp0 hp1 hpp
        obtain ⟨w11, hw11⟩ : ∃ wx, wx = wo.drewN nq := ⟨_, rfl⟩
        have k11 : Kept [] w8 w11 := by rw [hw11]; exact HHO.out.drewN' _
        rw [← hw11]
        have HK11 := @hideH _ k11
        clear hw11 k11 a0
        go_wp2
        go_loopw [11, 12] (fun vb vj wr => ∃ (j : Nat) (b : Bool), i2 + 1 ≤ j ∧ j ≤ nl ∧ vj = .int .i64 j ∧ vb = .bool b ∧ Hid (b = ((!x.gone) && partC l x.key i2 j) ∧ Kept [] w8 wr)) (fun _ vj _ => nl - (intOf vj).toNat)
        case atStart => exact ⟨i2 + 1, (!x.gone), by omega, by omega, by go_num, rfl, by rw [partC_start, Bool.and_true], HK11.out⟩
        case round =>
          obtain ⟨j, b, hij, hj, rfl, rfl, hh⟩ := hrel
          by_cases hjl : j < nl
          rotate_left
          · have hjl' : ¬ (j : Int) < (nl : Int) := by omega
            have HBL := @hideH _ (show b = lastC c.pages page l i2 by rw [hh.out.1, lastC_at HX.out.1, show j = l.length by have := HNN.out; omega]; rw [← HX.out.2]; simp [HER.out, HBG.out])
            have HK := @hideH _ hh.out.2
            clear hh
            cases b
            · go_wp2
              go_roundw
              case rel => exact ⟨i2 + 1, by omega, by go_num, by rw [HCN.out _ HBL.out]; rfl, HK.out⟩
              case measure => simp [intOf]; omega
            · go_wp2
              go_roundw
              case rel => exact ⟨i2 + 1, by omega, by go_num, by rw [HCN.out _ HBL.out]; rfl, HK.out⟩
              case measure => simp [intOf]; omega
          have hjl' : (j : Int) < (nl : Int) := by omega
          have hj0 : (0 : Int) ≤ (j : Int) := by omega
          have wj : IntKind.i64.wrap ((j : Int) + 1) = (j : Int) + 1 := wrap_i64_of (by omega) (by have := HB.out; omega)
          obtain ⟨y, hy⟩ : ∃ y, l[j]? = some y := ⟨_, List.getElem?_eq_getElem (by have := HNN.out; omega)⟩
          obtain ⟨gb, hpb, -, -, b0, -, -⟩ := (HX8.out.1.kept hh.out.2 (by simp)).at hy
          cases hpb
          obtain ⟨gb, hpb, -, -, a0, -, -⟩ := (HX8.out.1.kept hh.out.2 (by simp)).at HX.out.1
          cases hpb
          have hpn := partC_next (ck := x.key) hij hy
          by_cases ek : y.key = x.key
          · have ek' : (y.key == x.key) = true := by simpa using ek
            have HN := @hideH _ (show false = ((!x.gone) && partC l x.key i2 (j + 1)) by rw [hpn]; simp [ek])
            have HK := @hideH _ hh.out.2
            clear ek hy hpn hh
            go_upto_region 15 with fail
            go_quiet (fail)
            go_wp2
            go_roundw
            case rel => exact ⟨j + 1, false, by omega, by omega, by go_num, rfl, HN.out, HK.out.drewN' _⟩
            case measure => simp [intOf]; omega
          · have ek' : (y.key == x.key) = false := by simpa using ek
            have HN := @hideH _ (show b = ((!x.gone) && partC l x.key i2 (j + 1)) by rw [hpn, hh.out.1, show (y.key != x.key) = true by simpa using ek, Bool.and_true])
            have HK := @hideH _ hh.out.2
            clear ek hy hpn hh
            go_upto_region 15 with fail
            go_quiet (fail)
            go_wp2
            go_roundw
            case rel => exact ⟨j + 1, b, by omega, by omega, by go_num, rfl, HN.out, HK.out.drewN' _⟩
            case measure => simp [intOf]; omega
end Go.Proofs.YtocpagpkpibmaaaGreatDoor

/-
  OWN WORK (by mkpnh.py). The document's State (layer 18): Put, Delete.
-/
namespace Go.Proofs.YtocpagpkpibmaaaGreatDoor
open Go.RowKit
set_option linter.unusedVariables false
set_option linter.unusedSimpArgs false

set_option maxRecDepth 20000 in
set_option maxHeartbeats 1600000 in
theorem rPut {g : Nat} {F : List Nat} {c : Cf} {S : St} (id key v : Int) (w : World) (h : Sr w g F c S) (hv : u64 v) (hfew : fewC S) : Calls Tryz.prog 49 #[.pointer (some ⟨g, 0, none⟩), .int .i64 id, .int .i64 key, .int .u64 v] w fun e w' => ∃ F', e = .returned (.int .i64 (putE c S id key v)) ∧ Sr w' g F' c (putS c S id key v) ∧ Fr w F F' ∧ Kept F w w' := by
  have HT := @hideH _ h
  obtain ⟨vd, vo, u, D, P, hp, hs, ok, hF⟩ := h
  have HP := @hideH _ hp
  have HS := @hideH _ hs
  have HOK := @hideH _ ok
  have HF := @hideH _ hF
  clear hp hs ok hF
  have HV := @hideH _ hv
  have HFW := @hideH _ hfew
  clear hv hfew
  have HA := @hideH _ (rAsked id key w HP.out (by rw [← HS.out]; exact HOK.out))
  rw [← HS.out] at HA
  go_enter Tryz.func49, Tryz.ntmps49
  go_wp2_with fail
  refine HA.out.mono ?_
  clear HA
  rintro e w1 ⟨k1, (⟨ha, rfl⟩ | ⟨ha, k, x, hx, hid, hf, rfl⟩)⟩
  · have HE := @hideH _ (put_no (v := v) ha)
    have HK := @hideH _ k1
    obtain ⟨a, hab⟩ : ∃ a, a = askE c S id key := ⟨_, rfl⟩
    rw [← hab] at ha ⊢
    have hne : (a != 0) = true := by simpa using ha
    have HAB := @hideH _ hab
    clear ha k1 hab
    go_wp2
    go_ret
    exact ⟨F, by rw [HE.out.1, ← HAB.out]; rfl, by rw [HE.out.2.1]; exact HT.out.kept HK.out (by simp), Fr.refl _ _, HK.out.mono (by simp)⟩
  have skip0 : True := trivial
  clear skip0
  have hk := sr_k hx
  have hkS : S.opn[k]? = some x.1 := by rw [HS.out]; exact hk
  have hfS : findO S.opn id = some x.1 := by rw [HS.out]; exact hf
  have HKS := @hideH _ (And.intro hkS (And.intro hfS ha))
  have HPG := @hideH _ (ask_page HOK.out ha)
  have HX := @hideH _ hx
  have HK1 := @hideH _ k1
  have q := rSees k key w1 (HP.out.then k1) hx
  rw [← HS.out] at q
  have HQ := @hideH _ q
  obtain ⟨pg, hpg⟩ : ∃ pg, pg = key % c.pages := ⟨_, rfl⟩
  have HPP := @hideH _ hpg
  rw [← hpg]
  obtain ⟨sv, hsv⟩ : ∃ sv, sv = seesT S x.1 key := ⟨_, rfl⟩
  rw [← hsv] at HQ
  have HSV := @hideH _ hsv
  clear ha hx hid hf hk k1 hpg hkS hfS q hsv
  go_wp2_with fail
  refine HQ.out.mono ?_
  clear HQ
  rintro e w2 ⟨rfl, hw2⟩
  subst hw2
  have T1 := HT.out.kept HK1.out (by simp)
  obtain ⟨sv1, sv2⟩ := sv
  dsimp only
  cases sv2
  · have HNT := @hideH _ (full_not (c := c) (s := S) (t := x.1) (key := key) (by rw [← HSV.out]))
    have c1 := (HP.out.then HK1.out).box.cell (j := 1) (v := .int .i64 c.slots) rfl
    have kx : Kept [] w2 w2.drew := (Kept.refl [] w2).drew
    have q := rCount k pg w2.drew (HP.out.then (HK1.out.then kx)) HOK.out.may.1 HX.out (by rw [← HS.out]; exact HFW.out _ (List.mem_of_getElem? HKS.out.1)) (by rw [← HS.out]; exact allC_ok HOK.out (List.mem_of_getElem? HKS.out.1))
    rw [← HS.out] at q
    obtain ⟨cn, hcn⟩ : ∃ cn, cn = countS c S x.1 pg := ⟨_, rfl⟩
    rw [← hcn] at q
    have HQ := @hideH _ q
    have HCN := @hideH _ hcn
    clear q hcn T1
    go_upto_region 5 with fail
    go_region_held3 (fun w' => w'.cell? ⟨g, 1, none⟩ = some (.int .i64 c.slots))
      (first
        | (exact kx.cell c1 List.not_mem_nil)
        | fail)
      (first
        | (go_at_call 85; refine HQ.out.mono ?_; clear HQ; rintro e w5 ⟨rfl, k5⟩; replace kx := kx.then k5; clear k5)
        | fail)
    have HK5 := @hideH _ (HK1.out.then kx)
    clear kx c1
    by_cases hfull : c.slots ≤ cn
    · have HE := @hideH _ (put_full (v := v) HKS.out.2.2 HKS.out.2.1 (by rw [HNT.out, ← HPP.out, ← HCN.out]; exact decide_eq_true hfull))
      go_wp2
      go_ret
      exact ⟨F, by rw [HE.out.1]; rfl, by rw [HE.out.2]; exact HT.out.kept HK5.out (by simp), Fr.refl _ _, HK5.out.mono (by simp)⟩
    · have HE := @hideH _ (put_chg (v := v) HKS.out.2.2 HKS.out.2.1 (by rw [HNT.out, ← HPP.out, ← HCN.out]; exact decide_eq_false hfull))
      have HQ := @hideH _ (rChange k pg ⟨key, v, false⟩ w5 (HT.out.kept HK5.out (by simp)) HKS.out.1 ⟨HPG.out.1, HV.out⟩ (by rw [HPP.out]; exact HPG.out.2))
      skip
      go_wp2_with fail
      refine HQ.out.mono ?_
      clear HQ
      rintro e w9 ⟨F', rfl, q1, q2, q3⟩
      have HZ := @hideH _ (And.intro q1 (And.intro q2 q3))
      clear q1 q2 q3
      go_wp2
      go_ret
      exact ⟨F', by rw [HE.out.1]; rfl, by rw [HE.out.2, ← HPP.out]; exact HZ.out.1, HZ.out.2.1.old HK5.out.size, (HK5.out.mono (T := F) (by simp)).trans HZ.out.2.2 (fun y hy => .inl hy)⟩
  · have HE := @hideH _ (put_chg (v := v) HKS.out.2.2 HKS.out.2.1 (full_there (by rw [← HSV.out])))
    clear T1
    go_upto_region 5 with fail
    go_quiet (fail)
    obtain ⟨w5, hw5⟩ : ∃ wx, wx = w2.drewN nq := ⟨_, rfl⟩
    have k5 : Kept [] w w5 := by rw [hw5]; exact HK1.out.drewN' _
    rw [← hw5]
    have HK5 := @hideH _ k5
    clear hw5 k5
    have HQ := @hideH _ (rChange k pg ⟨key, v, false⟩ w5 (HT.out.kept HK5.out (by simp)) HKS.out.1 ⟨HPG.out.1, HV.out⟩ (by rw [HPP.out]; exact HPG.out.2))
    skip
    go_wp2_with fail
    refine HQ.out.mono ?_
    clear HQ
    rintro e w9 ⟨F', rfl, q1, q2, q3⟩
    have HZ := @hideH _ (And.intro q1 (And.intro q2 q3))
    clear q1 q2 q3
    go_wp2
    go_ret
    exact ⟨F', by rw [HE.out.1]; rfl, by rw [HE.out.2, ← HPP.out]; exact HZ.out.1, HZ.out.2.1.old HK5.out.size, (HK5.out.mono (T := F) (by simp)).trans HZ.out.2.2 (fun y hy => .inl hy)⟩
set_option maxRecDepth 20000 in
set_option maxHeartbeats 1600000 in
theorem rDelete {g : Nat} {F : List Nat} {c : Cf} {S : St} (id key : Int) (w : World) (h : Sr w g F c S) : Calls Tryz.prog 51 #[.pointer (some ⟨g, 0, none⟩), .int .i64 id, .int .i64 key] w fun e w' => ∃ F', e = .returned (.tuple #[.bool (delB c S id key), .int .i64 (delE c S id key)]) ∧ Sr w' g F' c (delS c S id key) ∧ Fr w F F' ∧ Kept F w w' := by
  have HT := @hideH _ h
  obtain ⟨vd, vo, u, D, P, hp, hs, ok, hF⟩ := h
  have HP := @hideH _ hp
  have HS := @hideH _ hs
  have HOK := @hideH _ ok
  have HF := @hideH _ hF
  clear hp hs ok hF
  have HA := @hideH _ (rAsked id key w HP.out (by rw [← HS.out]; exact HOK.out))
  rw [← HS.out] at HA
  go_enter Tryz.func51, Tryz.ntmps51
  go_wp2_with fail
  refine HA.out.mono ?_
  clear HA
  rintro e w1 ⟨k1, (⟨ha, rfl⟩ | ⟨ha, k, x, hx, hid, hf, rfl⟩)⟩
  · have HE := @hideH _ (put_no (v := 0) ha).2.2
    have HK := @hideH _ k1
    obtain ⟨a, hab⟩ : ∃ a, a = askE c S id key := ⟨_, rfl⟩
    rw [← hab] at ha ⊢
    have hne : (a != 0) = true := by simpa using ha
    have HAB := @hideH _ hab
    clear ha k1 hab
    go_wp2
    go_ret2
    exact ⟨F, by rw [HE.out.1, HE.out.2.1, ← HAB.out]; rfl, by rw [HE.out.2.2]; exact HT.out.kept HK.out (by simp), Fr.refl _ _, HK.out.mono (by simp)⟩
  have hk := sr_k hx
  have hkS : S.opn[k]? = some x.1 := by rw [HS.out]; exact hk
  have hfS : findO S.opn id = some x.1 := by rw [HS.out]; exact hf
  have HKS := @hideH _ (And.intro hkS (And.intro hfS ha))
  have HPG := @hideH _ (ask_page HOK.out ha)
  have HX := @hideH _ hx
  have HK1 := @hideH _ k1
  have q := rSees k key w1 (HP.out.then k1) hx
  rw [← HS.out] at q
  have HQ := @hideH _ q
  obtain ⟨pg, hpg⟩ : ∃ pg, pg = key % c.pages := ⟨_, rfl⟩
  have HPP := @hideH _ hpg
  rw [← hpg]
  obtain ⟨sv, hsv⟩ : ∃ sv, sv = seesT S x.1 key := ⟨_, rfl⟩
  rw [← hsv] at HQ
  have HSV := @hideH _ hsv
  clear ha hx hid hf hk k1 hpg hkS hfS q hsv
  go_wp2_with fail
  refine HQ.out.mono ?_
  clear HQ
  rintro e w2 ⟨rfl, hw2⟩
  subst hw2
  obtain ⟨sv1, sv2⟩ := sv
  dsimp only
  cases sv2
  · have HE := @hideH _ (del_none (k := k) HOK.out HKS.out.1 HKS.out.2.2 HKS.out.2.1 (by rw [← HSV.out]))
    have HQ := @hideH _ (rHold k pg w2 (HP.out.then HK1.out) HX.out (by have := HOK.out.few HKS.out.1; omega))
    go_wp2_with fail
    refine HQ.out.mono ?_
    clear HQ
    rintro e wz ⟨rfl, P', h2, hm, k2, fr2⟩
    have HZ := @hideH _ (And.intro h2 (And.intro hm (And.intro k2 fr2)))
    clear h2 hm k2 fr2
    go_wp2
    go_ret2
    refine ⟨g :: blks (things vd vo D P'), by rw [HE.out.1, HE.out.2.1]; rfl, ⟨vd, vo, u, D, P', HZ.out.1, ?_, ?_, rfl⟩, ?_, ?_⟩
    · rw [HE.out.2.2, HS.out]; unfold SrP.st; rw [HZ.out.2.1, HPP.out]
    · rw [HE.out.2.2]; exact HOK.out.hold HKS.out.1 HPG.out.2
    · rw [HF.out]; exact (HZ.out.2.2.2.old HK1.out.size).cons
    · rw [HF.out]
      refine (HK1.out.mono (T := g :: blks (things vd vo D P)) (by simp)).trans (HZ.out.2.2.1.mono (T := g :: blks (things vd vo D P)) (fun y hy => List.mem_cons_of_mem _ ?_)) (fun y hy => .inl hy)
      rcases List.mem_append.1 hy with hy | hy
      · exact vo_in (own_mem.1 hy)
      · exact pages_in (List.mem_of_getElem? HX.out) (own_mem.1 hy)
  · have HE := @hideH _ (del_chg (c := c) HKS.out.2.2 HKS.out.2.1 (by rw [← HSV.out]))
    have HQ := @hideH _ (rChange k pg ⟨key, 0, true⟩ w2 (HT.out.kept HK1.out (by simp)) HKS.out.1 ⟨HPG.out.1, ⟨Int.le_refl _, by show (0 : Int) < 18446744073709551616; omega⟩⟩ (by rw [HPP.out]; exact HPG.out.2))
    skip
    go_wp2_with fail
    refine HQ.out.mono ?_
    clear HQ
    rintro e w9 ⟨F', rfl, q1, q2, q3⟩
    have HZ := @hideH _ (And.intro q1 (And.intro q2 q3))
    clear q1 q2 q3
    obtain ⟨ce, hce⟩ : ∃ ce, ce = chgE c S x.1 ⟨key, 0, true⟩ := ⟨_, rfl⟩
    rw [← hce]
    have HCE := @hideH _ hce
    clear hce
    go_wp2
    go_ret2
    exact ⟨F', by rw [HE.out.1, HE.out.2.1, ← HCE.out]; first | rfl | (simp; done) | (by_cases q : ce = 0 <;> simp [q]), by rw [HE.out.2.2, ← HPP.out]; exact HZ.out.1, HZ.out.2.1.old HK1.out.size, (HK1.out.mono (T := F) (by simp)).trans HZ.out.2.2 (fun y hy => .inl hy)⟩
end Go.Proofs.YtocpagpkpibmaaaGreatDoor

/-
  OWN WORK. The model (layer 18) in plain words: the open ones' numbers; sums behind each step.
-/
namespace Go.Proofs.YtocpagpkpibmaaaGreatDoor
set_option linter.unusedVariables false
theorem mem_idsTo {l : List Tn} : ∀ {n : Nat} {x : Int}, x ∈ idsTo l n ↔ (1 ≤ x ∧ x ≤ (n : Int)) ∧ (findO l x).isSome = true
  | 0, x => by simp [idsTo]; omega
  | n + 1, x => by
    unfold idsTo
    rw [List.mem_append, mem_idsTo (n := n)]
    constructor
    · rintro (⟨h1, h2⟩ | h)
      · exact ⟨⟨h1.1, by omega⟩, h2⟩
      · split at h
        · rename_i q; simp at h; subst h; exact ⟨⟨by omega, by omega⟩, q⟩
        · simp at h
    · rintro ⟨h1, h2⟩
      by_cases c : x = ((n + 1 : Nat) : Int)
      · right; subst c; rw [if_pos h2]; simp
      · exact .inl ⟨⟨h1.1, by omega⟩, h2⟩
theorem idsTo_up {l : List Tn} : ∀ n : Nat, (idsTo l n).Pairwise (· < ·)
  | 0 => .nil
  | n + 1 => by
    unfold idsTo
    refine List.pairwise_append.2 ⟨idsTo_up n, by split <;> simp, fun x hx y hy => ?_⟩
    have := (mem_idsTo.1 hx).1
    split at hy
    · simp at hy; omega
    · simp at hy
theorem findO_mem {l : List Tn} {x : Int} : (findO l x).isSome = true ↔ x ∈ l.map Tn.id := by
  rw [List.mem_map]
  constructor
  · intro h
    obtain ⟨t, ht⟩ := Option.isSome_iff_exists.1 h
    obtain ⟨h1, h2⟩ := findO_some ht
    exact ⟨t, h1, h2⟩
  · rintro ⟨t, h1, h2⟩
    cases e : findO l x with
    | none => exact absurd h2 (findO_none.1 e t h1)
    | some y => rfl
theorem idsS_perm {c : Cf} {s : St} (h : OkS c s) : (idsS s).Perm (s.opn.map Tn.id) := by
  refine (List.perm_ext_iff_of_nodup ((idsTo_up 64).imp fun {a b} q => by omega) ?_).2 fun x => ?_
  · exact List.pairwise_map.2 h.dif
  · skip
    rw [mem_idsTo, findO_mem]
    refine ⟨fun q => q.2, fun q => ⟨?_, q⟩⟩
    obtain ⟨t, h1, h2⟩ := List.mem_map.1 q
    have := h.ids t h1; unfold isId at this; rw [h2] at this; omega
theorem idsS_length {c : Cf} {s : St} (h : OkS c s) : (idsS s).length = s.opn.length := by rw [(idsS_perm h).length_eq, List.length_map]
theorem idsS_up (s : St) : (idsS s).Pairwise (· < ·) := idsTo_up 64
theorem keptO_low {l : List Tn} (h : ∀ t ∈ l, ∀ n ∈ t.lens, 1 ≤ n ∧ n ≤ 16) : 99 * (l.length : Int) ≤ keptO l := by
  induction l with
  | nil => simp [keptO]
  | cons t r ih => have e1 := sumL_pos (h t (by simp)); have e2 := ih (fun x hx => h x (by simp [hx])); simp only [keptO, Tn.kept, List.length_cons]; omega
theorem kept_zero {c : Cf} {s : St} (h : OkS c s) : (s.opn.length = 0 ↔ keptO s.opn = 0) := by
  have := keptO_low h.lens
  constructor
  · intro e; rw [List.eq_nil_of_length_eq_zero e]; rfl
  · intro e; omega
end Go.Proofs.YtocpagpkpibmaaaGreatDoor

/-
  OWN WORK (by mkpnj.py). The document's State (layer 18): Entries, Ids, Kept.
-/
namespace Go.Proofs.YtocpagpkpibmaaaGreatDoor
open Go.RowKit
set_option linter.unusedVariables false
set_option linter.unusedSimpArgs false

theorem ids_step {l : List Tn} {i : Nat} (h : 1 ≤ i) : idsTo l (i + 1 - 1) = idsTo l (i - 1) ++ (if (findO l (i : Int)).isSome = true then [(i : Int)] else []) := by
  obtain ⟨j, rfl⟩ : ∃ j, i = j + 1 := ⟨i - 1, by omega⟩
  rfl
theorem ids_le (l : List Tn) : ∀ n, (idsTo l n).length ≤ n
  | 0 => by simp [idsTo]
  | n + 1 => by
    have := ids_le l n
    unfold idsTo
    rw [List.length_append]
    split <;> simp <;> omega
set_option maxRecDepth 20000 in
set_option maxHeartbeats 3200000 in
theorem rEntries {g : Nat} {F : List Nat} {c : Cf} {S : St} (w : World) (h : Sr w g F c S) (hlen : S.done.flatten.length ≤ 4000000000000) : Calls Tryz.prog 57 #[.pointer (some ⟨g, 0, none⟩)] w fun e w' => ∃ ve, e = .returned (.tuple #[ve, .int .i64 (entE S)]) ∧ Es w' w.heap.size ve (entL S) ∧ Kept [] w w' := by
  have HT := @hideH _ h
  obtain ⟨vd, vo, u, D, P, hp, hs, ok, hF⟩ := h
  have HP := @hideH _ hp
  have HS := @hideH _ hs
  have HOK := @hideH _ ok
  clear hp hs ok hF
  obtain ⟨po, ko, hvo, -, -⟩ := HP.out.rowO.shape
  subst hvo
  obtain ⟨pd, kd, hvd, -, -⟩ := HP.out.rowD.shape
  subst hvd
  obtain ⟨n, hn⟩ : ∃ n, n = P.length := ⟨_, rfl⟩
  obtain ⟨nd, hnd⟩ : ∃ nd, nd = D.length := ⟨_, rfl⟩
  have B := HP.out.box
  rw [← hn, ← hnd] at B
  have c6 := B.cell (j := 6) rfl
  have c7 := B.cell (j := 7) rfl
  have q := rFold (.slice pd D.length kd) D w ⟨HP.out.rowD, fun d hd => HP.out.done hd⟩ (by rw [HS.out] at hlen; exact hlen)
  rw [← hnd] at q
  have HQ := @hideH _ q
  have HN := @hideH _ (And.intro hn hnd)
  clear B hn hnd q hlen
  go_enter Tryz.func57, Tryz.ntmps57
  by_cases hn0 : 0 < n
  · have HE := @hideH _ (show entE S = 210 ∧ entL S = [] from by
      have : S.opn ≠ [] := by rw [HS.out]; unfold SrP.st; dsimp only; intro q; have := List.map_eq_nil_iff.1 q; rw [this] at HN; have := HN.out.1; simp at this; omega
      unfold entE entL; rw [if_neg this, if_neg this]; exact ⟨rfl, rfl⟩)
    go_wp2
    go_ret2
    exact ⟨_, by rw [HE.out.1]; rfl, by rw [HE.out.2]; exact Es.nil _ _, Kept.refl _ _⟩
  · have HE := @hideH _ (show entE S = 0 ∧ entL S = foldL (D.map Prod.fst) from by
      have : S.opn = [] := by rw [HS.out]; unfold SrP.st; dsimp only; rw [show P = [] from List.eq_nil_of_length_eq_zero (by have := HN.out.1; omega)]; rfl
      unfold entE entL; rw [if_pos this, if_pos this, HS.out]; exact ⟨rfl, rfl⟩)
    go_wp2_with fail
    refine HQ.out.mono ?_
    clear HQ
    rintro e w1 ⟨ve, rfl, q1, q2⟩
    have HZ := @hideH _ (And.intro q1 q2)
    obtain ⟨pe, ce, hve, -⟩ := q1.shape
    subst hve
    clear q1 q2
    go_wp2
    go_ret2
    exact ⟨_, by rw [HE.out.1]; rfl, by rw [HE.out.2]; exact HZ.out.1, HZ.out.2⟩
set_option maxRecDepth 20000 in
set_option maxHeartbeats 3200000 in
theorem rIds {g : Nat} {F : List Nat} {c : Cf} {S : St} (w : World) (h : Sr w g F c S) : Calls Tryz.prog 59 #[.pointer (some ⟨g, 0, none⟩)] w fun e w' => ∃ vi, e = .returned vi ∧ Ns w' w.heap.size vi (idsS S) ∧ Kept [] w w' := by
  have HT := @hideH _ h
  obtain ⟨vd, vo, u, D, P, hp, hs, ok, hF⟩ := h
  have HP := @hideH _ hp
  have HS := @hideH _ hs
  have HOK := @hideH _ ok
  clear hp hs ok hF
  obtain ⟨infI, hin1, hin2, hin3, hin4⟩ := info_parts3 (show (Tryz.prog.info? 3).map (fun i => (i.zero, i.size, i.bytes)) = some (some (.int .i64 0), 1, 8) by kernel_rfl)
  have HII := @hideH _ (And.intro hin1 (And.intro hin2 (And.intro hin3 hin4)))
  clear hin1 hin2 hin3 hin4
  go_enter Tryz.func59, Tryz.ntmps59
  go_wp2
  go_loopw [3, 4] (fun vo vi wr => ∃ (i m : Nat) (po : Option Addr) (co : Nat), 1 ≤ i ∧ i ≤ 65 ∧ m ≤ 65 ∧ vi = .int .i64 i ∧ vo = .slice po m co ∧ Hid (m = (idsTo S.opn (i - 1)).length ∧ Ns wr w.heap.size (.slice po m co) (idsTo S.opn (i - 1)) ∧ Kept [] w wr)) (fun _ vi _ => 65 - (intOf vi).toNat)
  case atStart => exact ⟨1, 0, none, 0, by omega, by omega, by omega, rfl, rfl, rfl, Ns.nil _ _, Kept.refl _ _⟩
  case round =>
    obtain ⟨i, m, po, co, hi1, hi2, hm, rfl, rfl, hh⟩ := hrel
    by_cases hil : i ≤ 64
    rotate_left
    · have hil' : ¬ (i : Int) ≤ 64 := by omega
      have HE := @hideH _ (show idsTo S.opn (i - 1) = idsS S by rw [show i - 1 = 64 by omega]; rfl)
      go_wp2
      go_ret
      exact ⟨_, rfl, by rw [← HE.out]; exact hh.out.2.1, hh.out.2.2⟩
    have hil' : (i : Int) ≤ 64 := by omega
    have wi : IntKind.i64.wrap ((i : Int) + 1) = (i : Int) + 1 := wrap_i64_of (by omega) (by omega)
    have HA := @hideH _ (rAt (i : Int) wr (HP.out.then hh.out.2.2))
    have HM := @hideH _ (show (idsTo S.opn (i - 1)).length ≤ i - 1 from ids_le S.opn (i - 1))
    have HH := @hideH _ hh.out
    clear hh
    go_wp2_with fail
    refine HA.out.mono ?_
    clear HA
    rintro e w1 ⟨hw, z, rfl, (⟨rfl, hf⟩ | ⟨k, x, rfl, hx, hid, hf⟩)⟩
    · have HE := @hideH _ (show idsTo S.opn (i + 1 - 1) = idsTo S.opn (i - 1) by rw [ids_step (by omega), show (findO S.opn (i : Int)) = none by rw [HS.out]; exact hf]; simp)
      rw [hw]
      clear hw hf
      go_wp2
      go_roundw
      case rel => exact ⟨i + 1, m, po, co, by omega, by omega, by have := HM.out; have := HH.out.1; omega, by go_num, rfl, by rw [HE.out]; exact HH.out.1, by rw [HE.out]; exact HH.out.2.1, HH.out.2.2⟩
      case measure => simp [intOf]; omega
    · have HE := @hideH _ (show idsTo S.opn (i + 1 - 1) = idsTo S.opn (i - 1) ++ [(i : Int)] by rw [ids_step (by omega), show (findO S.opn (i : Int)) = some x.1 by rw [HS.out]; exact hf]; simp)
      have hk0 : (0 : Int) ≤ (k : Int) := by omega
      rw [hw]
      clear hw hf hx hid
      obtain ⟨w7, hw7⟩ : ∃ wx, wx = wr.alloc (.cells #[.int .i64 (i : Int)] 3) := ⟨_, rfl⟩
      have k7 : Kept [] wr w7 := by rw [hw7]; exact (Kept.refl [] wr).alloc _
      have hsrc := src_i64 (P := Tryz.prog) wr 31 3 Tryz.underlying31 (i : Int)
      rw [← hw7] at hsrc
      have R7 := HH.out.2.1.kept k7 (by simp)
      unfold Ns at R7
      rw [← HH.out.1] at R7
      have hba := (HH.out.2.2.then k7).size
      have HK7 := @hideH _ k7
      have HB := @hideH _ hm
      clear k7
      go_wp2_with (at_builtin; rw [← hw7]; refine wpList_append_row2 rfl (.tmp 13) (.tmp 15) 31 rfl w.heap.size 3 infI (.int .i64 0) 1 8 Tryz.underlying31 HII.out.1 HII.out.2.1 HII.out.2.2.1 HII.out.2.2.2 rfl _ _ _ (by rfl) R7 _ 1 _ (by rfl) hsrc (by have e1 := HB.out; omega) (by have e1 := HB.out; unfold maxLen; omega) (by have e1 := HB.out; omega) hba ?_; intro v' w8 r8 k8 o8; obtain ⟨p8, c8, hv', -⟩ := Row.shape r8; subst hv'; have HX8 := @hideH _ (And.intro r8 k8); clear r8 k8 o8 R7 hsrc hba hw7)
      go_roundw
      case rel => exact ⟨i + 1, m + 1, p8, c8, by omega, by omega, by have := HM.out; have := HH.out.1; omega, by go_num, rfl, by rw [HE.out, List.length_append, ← HH.out.1]; rfl, by rw [HE.out]; unfold Ns; rw [List.length_append, ← HH.out.1, show i64s (idsTo S.opn (i - 1) ++ [(i : Int)]) = i64s (idsTo S.opn (i - 1)) ++ [.int .i64 (i : Int)] by simp [i64s]]; exact HX8.out.1, (HH.out.2.2.then HK7.out).trans HX8.out.2 (fun y hy => .inr (Row.lt HH.out.2.1 y (own_mem.1 hy)).1)⟩
      case measure => simp [intOf]; omega
set_option maxRecDepth 20000 in
set_option maxHeartbeats 3200000 in
theorem rKeptS {g : Nat} {F : List Nat} {c : Cf} {S : St} (w : World) (h : Sr w g F c S) : Calls Tryz.prog 58 #[.pointer (some ⟨g, 0, none⟩)] w fun e w' => e = .returned (.int .i64 (keptO S.opn)) ∧ w' = w := by
  have HT := @hideH _ h
  obtain ⟨vd, vo, u, D, P, hp, hs, ok, hF⟩ := h
  have HP := @hideH _ hp
  have HS := @hideH _ hs
  have HOK := @hideH _ ok
  clear hp hs ok hF
  have ok := HOK.out
  rw [HS.out] at ok ⊢
  exact rKept w HP.out ok.lens ok.kept.2.1
end Go.Proofs.YtocpagpkpibmaaaGreatDoor

/-
  OWN WORK (by mkpna.py). The document's State (layer 18): Checkpoint, Begin.
-/
namespace Go.Proofs.YtocpagpkpibmaaaGreatDoor
open Go.RowKit
set_option linter.unusedVariables false
set_option linter.unusedSimpArgs false

set_option maxRecDepth 20000 in
set_option maxHeartbeats 1600000 in
theorem rCheck {g : Nat} {F : List Nat} {c : Cf} {S : St} (d : Int) (w : World) (h : Sr w g F c S) (hd : -9223372036854775808 ≤ d ∧ d < 9223372036854775808) : Calls Tryz.prog 55 #[.pointer (some ⟨g, 0, none⟩), .int .i64 d] w fun e w' => ∃ F', e = .returned (.int .i64 (chkE c S d)) ∧ Sr w' g F' c (chkS c S d) ∧ Fr w F F' ∧ Kept F w w' := by
  have HT := @hideH _ h
  obtain ⟨vd, vo, u, D, P, hp, hs, ok, hF⟩ := h
  have HP := @hideH _ hp
  have HS := @hideH _ hs
  have HOK := @hideH _ ok
  have HF := @hideH _ hF
  clear hp hs ok hF
  obtain ⟨po, ko, hvo, -, -⟩ := HP.out.rowO.shape
  subst hvo
  obtain ⟨n, hn⟩ : ∃ n, n = P.length := ⟨_, rfl⟩
  have B := HP.out.box
  rw [← hn] at B
  have c0 := B.cell (j := 0) (v := .int .i64 c.pages) rfl
  have c7 := B.cell (j := 7) rfl
  have c8 := B.cell (j := 8) (v := .int .i64 u) rfl
  have f8 := B.free 8
  have ok := HOK.out
  rw [HS.out] at ok
  have l8 := len_st ok
  have mp := ok.may.1
  have e2 := ok.kept
  have e3 := ok.low
  rw [show (SrP.st u D P).used = u from rfl] at e2 e3
  obtain ⟨dd, hdd⟩ : ∃ dd, dd = dirtyC c d := ⟨_, rfl⟩
  have hd0 : 0 ≤ dd ∧ dd ≤ 16 := by rw [hdd]; unfold dirtyC; split; omega; split <;> omega
  obtain ⟨nn, hnn⟩ : ∃ nn, nn = chkN c S d := ⟨_, rfl⟩
  have hn2 : nn = 35 + 26 * (n : Int) + 9 * dd := by rw [hnn, hdd, hn]; unfold chkN; rw [HS.out]; simp [SrP.st]
  have hn3 : 0 ≤ nn ∧ nn ≤ 1000 := by rw [hn2]; omega
  have q := rFits nn 0 w HP.out ok (by omega) (by omega)
  rw [← HS.out] at q
  obtain ⟨b, hb⟩ : ∃ b, b = fitsS c S nn 0 := ⟨_, rfl⟩
  rw [← hb] at q
  have HQ := @hideH _ q
  have HB := @hideH _ (And.intro hb hnn)
  have w1' : IntKind.i64.wrap (26 * (n : Int)) = 26 * (n : Int) := wrap_i64_of (by omega) (by omega)
  have w2' : IntKind.i64.wrap (35 + 26 * (n : Int)) = 35 + 26 * (n : Int) := wrap_i64_of (by omega) (by omega)
  have w3' : IntKind.i64.wrap (9 * dd) = 9 * dd := wrap_i64_of (by omega) (by omega)
  have w4' : IntKind.i64.wrap (35 + 26 * (n : Int) + 9 * dd) = nn := by rw [wrap_i64_of (by omega) (by omega), hn2]
  have w5' : IntKind.i64.wrap (u + nn) = u + nn := wrap_i64_of (by omega) (by omega)
  have HU := @hideH _ (sr_used HP.out (u + nn))
  have HD := @hideH _ hdd
  have HN2 := @hideH _ hn2
  clear B hn ok l8 mp e2 e3 hd0 hnn hn2 hn3 q hb
  go_enter Tryz.func55, Tryz.ntmps55
  by_cases h0 : d < 0
  · have e0 : dd = 0 := by rw [hdd]; unfold dirtyC; rw [if_pos h0]
    have hp0 : ¬ c.pages < 0 := by have := HOK.out.may.1; omega
    subst e0
    obtain rfl : nn = 35 + 26 * (n : Int) := by have := HN2.out; omega
    clear hdd w3' w4'
    go_wp2_with fail
    refine HQ.out.mono ?_
    clear HQ
    rintro e w1 ⟨rfl, k1⟩
    replace c8 := k1.cell c8 (by simp)
    replace f8 := (HP.out.then k1).box.free 8
    have HK1 := @hideH _ k1
    have HU1 := @hideH _ (sr_used (HP.out.then k1) (u + (35 + 26 * (n : Int))))
    clear k1
    cases b
    · have HE := @hideH _ (show chkE c S d = 170 ∧ chkS c S d = S by unfold chkE chkS; rw [← HB.out.2, ← HB.out.1]; exact ⟨rfl, rfl⟩)
      go_wp2
      go_ret
      exact ⟨F, by rw [HE.out.1]; rfl, by rw [HE.out.2]; exact HT.out.kept HK1.out (by simp), Fr.refl _ _, HK1.out.mono (by simp)⟩
    · have HE := @hideH _ (show chkE c S d = 0 ∧ chkS c S d = ⟨S.done, S.opn, S.used + (35 + 26 * (n : Int))⟩ by unfold chkE chkS; rw [← HB.out.2, ← HB.out.1]; exact ⟨rfl, rfl⟩)
      obtain ⟨w2, hw2⟩ : ∃ wx, wx = w1.setCell ⟨g, 8, none⟩ (.int .i64 (u + (35 + 26 * (n : Int)))) := ⟨_, rfl⟩
      rw [← hw2] at HU1
      go_wp2
      rw [← hw2]
      go_ret
      exact ⟨F, by rw [HE.out.1]; rfl, ⟨vd, _, _, D, P, HU1.out.1, by rw [HE.out.2, HS.out]; rfl, HOK.out.chk d, HF.out⟩, Fr.refl _ _, by rw [HF.out]; exact (HK1.out.mono (T := g :: blks (things vd _ D P)) (by simp)).trans (HU1.out.2.mono (by simp)) (fun y hy => .inl hy)⟩
  · by_cases h1 : c.pages < d
    · have e0 : dd = c.pages := by rw [hdd]; unfold dirtyC; rw [if_neg h0, if_pos h1]
      subst e0
      clear hdd
      go_wp2_with fail
      refine HQ.out.mono ?_
      clear HQ
      rintro e w1 ⟨rfl, k1⟩
      replace c8 := k1.cell c8 (by simp)
      replace f8 := (HP.out.then k1).box.free 8
      have HK1 := @hideH _ k1
      have HU1 := @hideH _ (sr_used (HP.out.then k1) (u + nn))
      clear k1
      cases b
      · have HE := @hideH _ (show chkE c S d = 170 ∧ chkS c S d = S by unfold chkE chkS; rw [← HB.out.2, ← HB.out.1]; exact ⟨rfl, rfl⟩)
        go_wp2
        go_ret
        exact ⟨F, by rw [HE.out.1]; rfl, by rw [HE.out.2]; exact HT.out.kept HK1.out (by simp), Fr.refl _ _, HK1.out.mono (by simp)⟩
      · have HE := @hideH _ (show chkE c S d = 0 ∧ chkS c S d = ⟨S.done, S.opn, S.used + nn⟩ by unfold chkE chkS; rw [← HB.out.2, ← HB.out.1]; exact ⟨rfl, rfl⟩)
        obtain ⟨w2, hw2⟩ : ∃ wx, wx = w1.setCell ⟨g, 8, none⟩ (.int .i64 (u + nn)) := ⟨_, rfl⟩
        rw [← hw2] at HU1
        go_wp2
        rw [← hw2]
        go_ret
        exact ⟨F, by rw [HE.out.1]; rfl, ⟨vd, _, _, D, P, HU1.out.1, by rw [HE.out.2, HS.out]; rfl, HOK.out.chk d, HF.out⟩, Fr.refl _ _, by rw [HF.out]; exact (HK1.out.mono (T := g :: blks (things vd _ D P)) (by simp)).trans (HU1.out.2.mono (by simp)) (fun y hy => .inl hy)⟩
    · have e0 : dd = d := by rw [hdd]; unfold dirtyC; rw [if_neg h0, if_neg h1]
      subst e0
      clear hdd
      go_wp2_with fail
      refine HQ.out.mono ?_
      clear HQ
      rintro e w1 ⟨rfl, k1⟩
      replace c8 := k1.cell c8 (by simp)
      replace f8 := (HP.out.then k1).box.free 8
      have HK1 := @hideH _ k1
      have HU1 := @hideH _ (sr_used (HP.out.then k1) (u + nn))
      clear k1
      cases b
      · have HE := @hideH _ (show chkE c S dd = 170 ∧ chkS c S dd = S by unfold chkE chkS; rw [← HB.out.2, ← HB.out.1]; exact ⟨rfl, rfl⟩)
        go_wp2
        go_ret
        exact ⟨F, by rw [HE.out.1]; rfl, by rw [HE.out.2]; exact HT.out.kept HK1.out (by simp), Fr.refl _ _, HK1.out.mono (by simp)⟩
      · have HE := @hideH _ (show chkE c S dd = 0 ∧ chkS c S dd = ⟨S.done, S.opn, S.used + nn⟩ by unfold chkE chkS; rw [← HB.out.2, ← HB.out.1]; exact ⟨rfl, rfl⟩)
        obtain ⟨w2, hw2⟩ : ∃ wx, wx = w1.setCell ⟨g, 8, none⟩ (.int .i64 (u + nn)) := ⟨_, rfl⟩
        rw [← hw2] at HU1
        go_wp2
        rw [← hw2]
        go_ret
        exact ⟨F, by rw [HE.out.1]; rfl, ⟨vd, _, _, D, P, HU1.out.1, by rw [HE.out.2, HS.out]; rfl, HOK.out.chk dd, HF.out⟩, Fr.refl _ _, by rw [HF.out]; exact (HK1.out.mono (T := g :: blks (things vd _ D P)) (by simp)).trans (HU1.out.2.mono (by simp)) (fun y hy => .inl hy)⟩
end Go.Proofs.YtocpagpkpibmaaaGreatDoor

/-
  OWN WORK (by mkpn7w.py). The document's State (layer 18): over, asked for less.
-/
namespace Go.Proofs.YtocpagpkpibmaaaGreatDoor
open Go.RowKit
set_option linter.unusedVariables false
set_option linter.unusedSimpArgs false

/-- what 'over' reads -/
structure OverP (w : World) (g : Nat) (c : Cf) (vd vo : Value) (u : Int) (P : List Pt) : Prop where
  box : Blk w g 100 (c.cs ++ [vd, vo, .int .i64 u])
  row : Row w 0 4 vo P.length (ocells P)
  one : ∀ p ∈ P, p.2.1.oneCell' = true ∧ p.2.2.1.oneCell' = true ∧ p.2.2.2.oneCell' = true
  ne : ∀ y, vo.ownBlock = some y → y ≠ g
theorem OverP.then {w w' : World} {g : Nat} {c : Cf} {vd vo : Value} {u : Int} {P : List Pt} (h : OverP w g c vd vo u P) (k : Kept [] w w') : OverP w' g c vd vo u P := ⟨h.box.kept k (by simp), h.row.kept k (by simp), h.one, h.ne⟩
theorem OverP.at {w : World} {g : Nat} {c : Cf} {vd : Value} {u : Int} {P : List Pt} {p : Option Addr} {n k : Nat} (h : OverP w g c vd (.slice p n k) u P) {j : Nat} {x : Pt} (hj : P[j]? = some x) :
    ∃ gl, p = some ⟨gl, 0, none⟩ ∧ w.cell? ⟨gl, j * 4, none⟩ = some (.int .i64 x.1.id) ∧ w.cell? ⟨gl, j * 4 + 1, none⟩ = some x.2.1 ∧ w.cell? ⟨gl, j * 4 + 2, none⟩ = some x.2.2.1 ∧ w.cell? ⟨gl, j * 4 + 3, none⟩ = some x.2.2.2 := by
  have hjl := (List.getElem?_eq_some_iff.1 hj).1
  obtain ⟨p', c', e, h3, h4⟩ := Row.shape h.row
  cases e
  obtain ⟨gl, rfl, h6, h7, h8, h9⟩ := Row.pos h.row (by omega)
  obtain ⟨a0, a1, a2, a3⟩ := ocells_at hj
  exact ⟨gl, rfl, h8 _ _ a0, h8 _ _ a1, h8 _ _ a2, h8 _ _ a3⟩
theorem SrP.over {w : World} {g : Nat} {c : Cf} {vd vo : Value} {u : Int} {D : List (List Chg × Value)} {P : List Pt} (h : SrP w g c vd vo u D P) : OverP w g c vd vo u P :=
  ⟨h.box, h.rowO, fun p hp => by
    obtain ⟨q1, q2, q3⟩ := h.three hp
    obtain ⟨_, _, e1, -⟩ := q1.shape
    obtain ⟨_, _, e2, -⟩ := q2.shape
    obtain ⟨_, _, e3, -⟩ := q3.shape
    rw [e1, e2, e3]; exact ⟨rfl, rfl, rfl⟩, fun y hy => (h.own.lt (vo, fun w => Row w 0 4 vo P.length (ocells P)) (by unfold things; simp) y hy).2⟩
theorem over_end {w w8 : World} {g : Nat} {c : Cf} {vd vo vl : Value} {u : Int} {P Q : List Pt} (h : OverP w g c vd vo u P) (k8 : Kept [] w w8) (r8 : Row w8 0 4 vl Q.length (ocells Q)) (hv : ∀ y, vl.ownBlock = some y → w.heap.size ≤ y) :
    Blk w8 g 100 (c.cs ++ [vd, vo, .int .i64 u]) ∧ (Blk (w8.setCell ⟨g, 7, none⟩ vl) g 100 (c.cs ++ [vd, vl, .int .i64 u]) ∧ Row (w8.setCell ⟨g, 7, none⟩ vl) 0 4 vl Q.length (ocells Q)) ∧ Kept [g] w (w8.setCell ⟨g, 7, none⟩ vl) := by
  have hg := h.box.lt
  have B8 := h.box.kept k8 (by simp)
  obtain ⟨B9, k9⟩ := B8.set 7 vl
  exact ⟨B8, ⟨B9, r8.kept k9 (fun y hy => by have := hv y hy; simp; omega)⟩, (k8.mono (by simp)).trans k9 (fun x hx => .inl hx)⟩
set_option maxRecDepth 20000 in
set_option maxHeartbeats 6400000 in
theorem rOverW {g : Nat} {c : Cf} {vd vo : Value} {u : Int} {P : List Pt} (k : Nat) (w : World) (h : OverP w g c vd vo u P) {p : Pt} (hk : P[k]? = some p) (hl : P.length ≤ 1000) : Calls Tryz.prog 87 #[.pointer (some ⟨g, 0, none⟩), .int .i64 (k : Int)] w fun e w' => e = .returned (.tuple #[]) ∧ ∃ vl, (Blk w' g 100 (c.cs ++ [vd, vl, .int .i64 u]) ∧ Row w' 0 4 vl (P.eraseIdx k).length (ocells (P.eraseIdx k))) ∧ (∀ y, vl.ownBlock = some y → w.heap.size ≤ y) ∧ Kept [g] w w' := by
  obtain ⟨po, ko, hvo, hnco, hcmo⟩ := h.row.shape
  subst hvo
  obtain ⟨n, hn⟩ : ∃ n, n = P.length := ⟨_, rfl⟩
  have HN := @hideH _ (And.intro hn (show n ≤ 1000 by omega))
  have B := h.box
  rw [← hn] at B
  have c7 := B.cell (j := 7) rfl
  have HR := @hideH _ h
  have HP := @hideH _ hk
  clear B h hn hnco hcmo hk hl
  obtain ⟨infX, hin1, hin2, hin3, hin4⟩ := info_parts3 (show (Tryz.prog.info? 143).map (fun i => (i.zero, i.size, i.bytes)) = some (some (.agg #[.int .i64 0, .slice none 0 0, .slice none 0 0, .slice none 0 0]), 4, 80) by kernel_rfl)
  have HIX := @hideH _ (And.intro hin1 (And.intro hin2 (And.intro hin3 hin4)))
  clear hin1 hin2 hin3 hin4
  go_enter Tryz.func87, Tryz.ntmps87
  go_wp2
  go_loopw [4, 5] (fun vl vi wr => ∃ (j m : Nat) (pl : Option Addr) (cl : Nat), j ≤ n ∧ m ≤ j ∧ vi = .int .i64 j ∧ vl = .slice pl m cl ∧ Hid (m = (upK P k j).length ∧ Row wr w.heap.size 4 (.slice pl m cl) m (ocells (upK P k j)) ∧ Kept [] w wr)) (fun _ vi _ => n - (intOf vi).toNat)
  case atStart => exact ⟨0, 0, none, 0, by omega, by omega, rfl, rfl, by simp [upK], by simp [upK, ocells]; exact Row.nil _ _ _, Kept.refl _ _⟩
  case round =>
    obtain ⟨j, m, pl, cl, hj, hmj, rfl, rfl, hh⟩ := hrel
    have c7' := hh.out.2.2.cell c7 (by simp)
    by_cases hjl : j < n
    rotate_left
    · have hjl' : ¬ (j : Int) < (n : Int) := by omega
      have ej : j = P.length := by have := HN.out.1; omega
      have hh2 := hh.out
      rw [ej, upK_all] at hh2
      have FIN := over_end (Q := P.eraseIdx k) HR.out hh2.2.2 (vl := .slice pl m cl) (by rw [← hh2.1]; exact hh2.2.1.mono (Nat.zero_le _)) (fun y hy => (hh2.2.1.lt y hy).1)
      have c8 := FIN.1.cell (j := 7) rfl
      have f8 := FIN.1.free 7
      have HFIN := @hideH _ (And.intro FIN.2 (fun y hy => (hh2.2.1.lt y hy).1))
      obtain ⟨w9, hw9⟩ : ∃ wx, wx = wr.setCell ⟨g, 7, none⟩ (.slice pl m cl) := ⟨_, rfl⟩
      rw [← hw9] at HFIN
      clear FIN hh2 hh ej c8
      go_wp2
      rw [← hw9]
      go_end0
      exact ⟨by first | rfl | simp, _, HFIN.out.1.1, HFIN.out.2, HFIN.out.1.2⟩
    have hjl' : (j : Int) < (n : Int) := by omega
    have hj0 : (0 : Int) ≤ (j : Int) := by omega
    have wj : IntKind.i64.wrap ((j : Int) + 1) = (j : Int) + 1 := wrap_i64_of (by omega) (by have e1 := HN.out.2; omega)
    by_cases hjk : j = k
    · have hjk' : ((j : Int) != (k : Int)) = false := by subst hjk; simp
      have HU := @hideH _ (show upK P k (j + 1) = upK P k j by rw [hjk]; exact upK_skip)
      clear hjk
      go_wp2
      go_roundw
      case rel => exact ⟨j + 1, m, pl, cl, by omega, by omega, by go_num, rfl, by rw [HU.out]; exact hh.out⟩
      case measure => simp [intOf]; omega
    have hjk' : ((j : Int) != (k : Int)) = true := by simp; omega
    obtain ⟨y, hy⟩ : ∃ y, P[j]? = some y := ⟨_, List.getElem?_eq_getElem (by have := HN.out.1; omega)⟩
    have HU := @hideH _ (upK_next hy hjk)
    obtain ⟨gl, hp, d0, d1, d2, d3⟩ := (HR.out.then hh.out.2.2).at hy
    subst hp
    have h3 := HR.out.one _ (List.mem_of_getElem? hy)
    obtain ⟨t, v1, v2, v3⟩ := y
    dsimp only at d0 d1 d2 d3 h3
    have hsrc := src_txn18 (P := Tryz.prog) wr 98 143 Tryz.underlying98 t.id v1 v2 v3 h3.1 h3.2.1 h3.2.2
    have hrow := hh.out.2.1.kept ((Kept.refl [] wr).alloc (.cells #[.int .i64 t.id, v1, v2, v3] 143)) (by simp)
    have hba : w.heap.size ≤ (wr.alloc (.cells #[.int .i64 t.id, v1, v2, v3] 143)).heap.size := (hh.out.2.2.alloc _).size
    have HH := @hideH _ hh.out
    have HM := @hideH _ (show m ≤ 1000 by have := HN.out.2; omega)
    clear hy hjk h3 hh
    go_wp2_with (at_builtin; refine wpList_append_row2 rfl (.tmp 18) (.tmp 26) 98 rfl w.heap.size 143 infX (.agg #[.int .i64 0, .slice none 0 0, .slice none 0 0, .slice none 0 0]) 4 80 Tryz.underlying98 HIX.out.1 HIX.out.2.1 HIX.out.2.2.1 HIX.out.2.2.2 rfl _ _ _ (by rfl) hrow _ 1 _ (by rfl) hsrc (by have e1 := HM.out; omega) (by have e1 := HM.out; unfold maxLen; omega) (by have e1 := HM.out; omega) hba ?_; intro v' w8 r8 k8 o8; obtain ⟨p8, c8, hv', -⟩ := Row.shape r8; subst hv'; have HX8 := @hideH _ (And.intro r8 k8); clear r8 k8 o8 hrow hsrc hba)
    go_roundw
    case rel => exact ⟨j + 1, m + 1, p8, c8, by omega, by omega, by go_num, rfl, by rw [HU.out, List.length_append, ← HH.out.1]; rfl, by rw [HU.out, ocells_append]; exact HX8.out.1, (HH.out.2.2.alloc _).trans HX8.out.2 (fun y hy => .inr (HH.out.2.1.lt y (own_mem.1 hy)).1)⟩
    case measure => simp [intOf]; omega
end Go.Proofs.YtocpagpkpibmaaaGreatDoor

/-
  OWN WORK. The model (layer 18): the document's State: one begins; one commits.
-/
namespace Go.Proofs.YtocpagpkpibmaaaGreatDoor
open Go.RowKit
set_option linter.unusedVariables false
/-- a thing more, whose block is none of the others' -/
theorem Own.add {w : World} {g : Nat} {v : Value} {p : World → Prop} {L : List (Value × (World → Prop))} (h : Own w g L) (hp : p w) (hs : Stays v p) (hv : ∀ y, v.ownBlock = some y → (y < w.heap.size ∧ y ≠ g) ∧ ∀ x ∈ L, x.1.ownBlock ≠ some y) : Own w g ((v, p) :: L) := by
  refine ⟨fun x hx => ?_, fun x hx => ?_, fun x hx y hy => ?_, List.pairwise_cons.2 ⟨fun x hx y hy => (hv y hy).2 x hx, h.ap⟩⟩
  · rcases List.mem_cons.1 hx with rfl | hx
    · exact hp
    · exact h.holds x hx
  · rcases List.mem_cons.1 hx with rfl | hx
    · exact hs
    · exact h.stays x hx
  · rcases List.mem_cons.1 hx with rfl | hx
    · exact (hv y hy).1
    · exact h.lt x hx y hy
def newP (id : Int) : Pt := (⟨id, [], [], []⟩, .slice none 0 0, .slice none 0 0, .slice none 0 0)
theorem ocells_new (P : List Pt) (id : Int) : ocells (P ++ [newP id]) = ocells P ++ [.int .i64 id, .slice none 0 0, .slice none 0 0, .slice none 0 0] := by rw [ocells_append]; rfl
/-- one begins -/
theorem sr_begin {w w7 w8 : World} {g : Nat} {c : Cf} {vd vo v' : Value} {u u' : Int} {D : List (List Chg × Value)} {P : List Pt} {id : Int} (h : SrP w g c vd vo u D P) (k7 : Kept [] w w7) (r8 : Row w8 0 4 v' (P.length + 1) (ocells P ++ [.int .i64 id, .slice none 0 0, .slice none 0 0, .slice none 0 0])) (k8 : Kept vo.ownBlock.toList w7 w8) (o8 : v'.ownBlock = vo.ownBlock ∨ (v'.ownBlock = some w7.heap.size ∧ Kept [] w7 w8)) :
    Blk w8 g 100 (c.cs ++ [vd, vo, .int .i64 u]) ∧ Blk (w8.setCell ⟨g, 7, none⟩ v') g 100 (c.cs ++ [vd, v', .int .i64 u]) ∧ SrP ((w8.setCell ⟨g, 7, none⟩ v').setCell ⟨g, 8, none⟩ (.int .i64 u')) g c vd v' u' D (P ++ [newP id]) ∧ Fr w (blks (things vd vo D P)) (blks (things vd v' D (P ++ [newP id]))) ∧ Kept (g :: blks (things vd vo D P)) w ((w8.setCell ⟨g, 7, none⟩ v').setCell ⟨g, 8, none⟩ (.int .i64 u')) := by
  have k08 : Kept vo.ownBlock.toList w w8 := (k7.mono (T := vo.ownBlock.toList) (by simp)).trans k8 (fun x hx => .inl hx)
  have hvo : ∀ y, vo.ownBlock = some y → y ≠ g := fun y hy => (h.own.lt (vo, fun w => Row w 0 4 vo P.length (ocells P)) (by unfold things; simp) y hy).2
  have hgv : g ∉ vo.ownBlock.toList := fun hm => hvo g (own_mem.1 hm) rfl
  have B8 := h.box.kept k08 hgv
  obtain ⟨B9, k9⟩ := B8.set 7 v'
  obtain ⟨B10, k10⟩ := B9.set 8 (.int .i64 u')
  have hv' : ∀ y, v'.ownBlock = some y → vo.ownBlock = some y ∨ (w.heap.size ≤ y ∧ y < w8.heap.size ∧ y ≠ g) := fun y hy => by
    rcases o8 with q | ⟨q, -⟩
    · exact .inl (by rw [← q]; exact hy)
    · refine .inr ⟨?_, (r8.lt y hy).2, ?_⟩
      · rw [q] at hy; cases hy; exact k7.size
      · rw [q] at hy; cases hy; have := h.box.lt; have := k7.size; omega
  have r8' : Row w8 0 4 v' (P ++ [newP id]).length (ocells (P ++ [newP id])) := by rw [ocells_new, List.length_append]; exact r8
  have o1 : Own w g ((vo, fun w => Row w 0 4 vo P.length (ocells P)) :: (vd, fun w => Row w 0 1 vd D.length (D.map Prod.snd)) :: (dthings D ++ P.flatMap three)) := h.own.perm (List.Perm.swap _ _ _)
  have o2 := o1.head (v' := v') (p' := fun w => Row w 0 4 v' (P ++ [newP id]).length (ocells (P ++ [newP id]))) k08 r8' (Row.stays _ _ _ _ _) hv'
  have nn : ∀ (q : World → Prop) {L : List (Value × (World → Prop))}, Own w8 g L → q w8 → Stays (.slice none 0 0) q → Own w8 g ((.slice none 0 0, q) :: L) := fun q L ho hq hst => ho.add hq hst (fun y hy => by cases hy)
  have o3 := nn (fun w => Ns w 0 (.slice none 0 0) []) (nn (fun w => Cs w 0 (.slice none 0 0) []) (nn (fun w => Ns w 0 (.slice none 0 0) []) o2 (Ns.nil _ _) (Row.stays _ _ _ _ _)) (Cs.nil _ _) (Row.stays _ _ _ _ _)) (Ns.nil _ _) (Row.stays _ _ _ _ _)
  have pm : ((Value.slice none 0 0, fun w => Ns w 0 (.slice none 0 0) []) :: (Value.slice none 0 0, fun w => Cs w 0 (.slice none 0 0) []) :: (Value.slice none 0 0, fun w => Ns w 0 (.slice none 0 0) []) :: (v', fun w => Row w 0 4 v' (P ++ [newP id]).length (ocells (P ++ [newP id]))) :: (vd, fun w => Row w 0 1 vd D.length (D.map Prod.snd)) :: (dthings D ++ P.flatMap three)).Perm (things vd v' D (P ++ [newP id])) := by
    unfold things
    rw [List.flatMap_append]
    have e : List.flatMap three [newP id] = [(Value.slice none 0 0, fun w => Ns w 0 (.slice none 0 0) []), (Value.slice none 0 0, fun w => Cs w 0 (.slice none 0 0) []), (Value.slice none 0 0, fun w => Ns w 0 (.slice none 0 0) [])] := rfl
    rw [e, ← List.append_assoc]
    have q := List.perm_append_comm (l₁ := [(Value.slice none 0 0, fun w => Ns w 0 (.slice none 0 0) ([] : List Int)), (Value.slice none 0 0, fun w => Cs w 0 (.slice none 0 0) []), (Value.slice none 0 0, fun w => Ns w 0 (.slice none 0 0) [])]) (l₂ := (v', fun w => Row w 0 4 v' (P ++ [newP id]).length (ocells (P ++ [newP id]))) :: (vd, fun w => Row w 0 1 vd D.length (D.map Prod.snd)) :: (dthings D ++ P.flatMap three))
    exact q.trans (List.Perm.swap _ _ _)
  have o4 := o3.perm pm
  have ng : ∀ x ∈ things vd v' D (P ++ [newP id]), ∀ y, x.1.ownBlock = some y → y ∉ [g] := fun x hx y hy hm => (o4.lt x hx y hy).2 (by simpa using hm)
  have o5 := (o4.then k9 ng).then k10 ng
  refine ⟨B8, B9, ⟨B10, o5⟩, ?_, ?_⟩
  · intro y hy
    obtain ⟨x, hx, e⟩ := mem_blks.1 ((blks_perm pm).2 hy)
    simp only [List.mem_cons] at hx
    rcases hx with rfl | rfl | rfl | rfl | rfl | hx
    · cases e
    · cases e
    · cases e
    · rcases hv' y e with q | q
      · exact .inl (vo_in q)
      · exact .inr q.1
    · exact .inl (vd_in e)
    · exact .inl (mem_blks.2 ⟨x, by unfold things; exact List.mem_cons_of_mem _ (List.mem_cons_of_mem _ hx), e⟩)
  · have kF : Kept (g :: blks (things vd vo D P)) w w8 := k08.mono (fun x hx => List.mem_cons_of_mem _ (vo_in (own_mem.1 hx)))
    exact (kF.trans (k9.mono (by simp)) (fun y hy => .inl hy)).trans (k10.mono (by simp)) (fun y hy => .inl hy)
theorem erase_flat (P : List Pt) (k : Nat) : (P.eraseIdx k).flatMap three = restT k P := by unfold restT; rw [erase_split, List.flatMap_append]
/-- one commits: its changes go over to the committed ones' -/
theorem sr_commit {w w7 w8 w11 : World} {g : Nat} {c : Cf} {vd vo vd' vl : Value} {u u' : Int} {D : List (List Chg × Value)} {P : List Pt} {k : Nat} {p : Pt} (h : SrP w g c vd vo u D P) (hk : P[k]? = some p) (k7 : Kept [] w w7) (r8 : Row w8 0 1 vd' (D.length + 1) (D.map Prod.snd ++ [p.2.2.1])) (k8 : Kept vd.ownBlock.toList w7 w8) (o8 : vd'.ownBlock = vd.ownBlock ∨ (vd'.ownBlock = some w7.heap.size ∧ Kept [] w7 w8)) :
    Blk w8 g 100 (c.cs ++ [vd, vo, .int .i64 u]) ∧ Blk (w8.setCell ⟨g, 6, none⟩ vd') g 100 (c.cs ++ [vd', vo, .int .i64 u]) ∧ OverP ((w8.setCell ⟨g, 6, none⟩ vd').setCell ⟨g, 8, none⟩ (.int .i64 u')) g c vd' vo u' P ∧ Kept (g :: vd.ownBlock.toList) w ((w8.setCell ⟨g, 6, none⟩ vd').setCell ⟨g, 8, none⟩ (.int .i64 u')) ∧
      ((Blk w11 g 100 (c.cs ++ [vd', vl, .int .i64 u']) ∧ Row w11 0 4 vl (P.eraseIdx k).length (ocells (P.eraseIdx k))) → (∀ y, vl.ownBlock = some y → ((w8.setCell ⟨g, 6, none⟩ vd').setCell ⟨g, 8, none⟩ (.int .i64 u')).heap.size ≤ y) → Kept [g] ((w8.setCell ⟨g, 6, none⟩ vd').setCell ⟨g, 8, none⟩ (.int .i64 u')) w11 → SrP w11 g c vd' vl u' (D ++ [(p.1.chs, p.2.2.1)]) (P.eraseIdx k) ∧ Fr w (blks (things vd vo D P)) (blks (things vd' vl (D ++ [(p.1.chs, p.2.2.1)]) (P.eraseIdx k)))) := by
  have k08 : Kept vd.ownBlock.toList w w8 := (k7.mono (T := vd.ownBlock.toList) (by simp)).trans k8 (fun x hx => .inl hx)
  have hvd : ∀ y, vd.ownBlock = some y → y ≠ g := fun y hy => (h.own.lt (vd, fun w => Row w 0 1 vd D.length (D.map Prod.snd)) (by unfold things; simp) y hy).2
  have hgv : g ∉ vd.ownBlock.toList := fun hm => hvd g (own_mem.1 hm) rfl
  have B8 := h.box.kept k08 hgv
  obtain ⟨B9, k9⟩ := B8.set 6 vd'
  obtain ⟨B10, k10⟩ := B9.set 8 (.int .i64 u')
  have hap := (List.pairwise_cons.1 (show (things vd vo D P).Pairwise (fun a b => Ap a.1 b.1) from h.own.ap)).1 (vo, fun w => Row w 0 4 vo P.length (ocells P)) (List.mem_cons_self ..)
  have hvg : ∀ y, vo.ownBlock = some y → y ≠ g := h.over.ne
  have rO : Row ((w8.setCell ⟨g, 6, none⟩ vd').setCell ⟨g, 8, none⟩ (.int .i64 u')) 0 4 vo P.length (ocells P) := ((h.rowO.kept k08 (fun y hy hm => hap y (own_mem.1 hm) hy)).kept k9 (fun y hy => by have := hvg y hy; simp; omega)).kept k10 (fun y hy => by have := hvg y hy; simp; omega)
  have hv' : ∀ y, vd'.ownBlock = some y → vd.ownBlock = some y ∨ (w.heap.size ≤ y ∧ y < w8.heap.size ∧ y ≠ g) := fun y hy => by
    rcases o8 with q | ⟨q, -⟩
    · exact .inl (by rw [← q]; exact hy)
    · refine .inr ⟨?_, (r8.lt y hy).2, ?_⟩
      · rw [q] at hy; cases hy; exact k7.size
      · rw [q] at hy; cases hy; have := h.box.lt; have := k7.size; omega
  have k010 : Kept (g :: vd.ownBlock.toList) w ((w8.setCell ⟨g, 6, none⟩ vd').setCell ⟨g, 8, none⟩ (.int .i64 u')) := ((k08.mono (T := g :: vd.ownBlock.toList) (fun x hx => List.mem_cons_of_mem _ hx)).trans (k9.mono (by simp)) (fun y hy => .inl hy)).trans (k10.mono (by simp)) (fun y hy => .inl hy)
  refine ⟨B8, B9, ⟨B10, rO, h.over.one, hvg⟩, k010, fun hq hnew k11 => ?_⟩
  obtain ⟨t, v1, v2, v3⟩ := p
  dsimp only at r8 ⊢
  have pm1 : (things vd vo D P).Perm ((vd, fun w => Row w 0 1 vd D.length (D.map Prod.snd)) :: (vo, fun w => Row w 0 4 vo P.length (ocells P)) :: (dthings D ++ (three (t, v1, v2, v3) ++ restT k P))) := by
    unfold things
    exact (((flat_three hk).append_left (dthings D)).cons _).cons _
  have sb : ((vd, fun w => Row w 0 1 vd D.length (D.map Prod.snd)) :: (dthings D ++ ((v2, fun w => Cs w 0 v2 t.chs) :: restT k P))).Sublist ((vd, fun w => Row w 0 1 vd D.length (D.map Prod.snd)) :: (vo, fun w => Row w 0 4 vo P.length (ocells P)) :: (dthings D ++ (three (t, v1, v2, v3) ++ restT k P))) := by
    refine List.Sublist.cons_cons _ (List.Sublist.cons _ ((List.Sublist.refl _).append ?_))
    unfold three
    exact List.Sublist.cons _ (List.Sublist.cons_cons _ (List.Sublist.cons _ (List.Sublist.refl _)))
  have o1 := (h.own.perm pm1).sub sb
  have r8' : Row w8 0 1 vd' (D ++ [(t.chs, v2)]).length ((D ++ [(t.chs, v2)]).map Prod.snd) := by rw [List.length_append, List.map_append]; exact r8
  have o2 := o1.head (v' := vd') (p' := fun w => Row w 0 1 vd' (D ++ [(t.chs, v2)]).length ((D ++ [(t.chs, v2)]).map Prod.snd)) k08 r8' (Row.stays _ _ _ _ _) hv'
  have ng : ∀ x ∈ ((vd', fun w => Row w 0 1 vd' (D ++ [(t.chs, v2)]).length ((D ++ [(t.chs, v2)]).map Prod.snd)) :: (dthings D ++ ((v2, fun w => Cs w 0 v2 t.chs) :: restT k P))), ∀ y, x.1.ownBlock = some y → y ∉ [g] := fun x hx y hy hm => (o2.lt x hx y hy).2 (by simpa using hm)
  have o3 := (o2.then k9 ng).then k10 ng
  have o4 := o3.then k11 ng
  have o5 := o4.add (v := vl) (p := fun w => Row w 0 4 vl (P.eraseIdx k).length (ocells (P.eraseIdx k))) hq.2 (Row.stays _ _ _ _ _) (fun y hy => ⟨⟨(hq.2.lt y hy).2, fun e => by have := hnew y hy; have := B10.lt; omega⟩, fun x hx e => by have := (o3.lt x hx y e).1; have := hnew y hy; omega⟩)
  have pm2 : ((vl, fun w => Row w 0 4 vl (P.eraseIdx k).length (ocells (P.eraseIdx k))) :: (vd', fun w => Row w 0 1 vd' (D ++ [(t.chs, v2)]).length ((D ++ [(t.chs, v2)]).map Prod.snd)) :: (dthings D ++ ((v2, fun w => Cs w 0 v2 t.chs) :: restT k P))).Perm (things vd' vl (D ++ [(t.chs, v2)]) (P.eraseIdx k)) := by
    have e : dthings (D ++ [(t.chs, v2)]) = dthings D ++ [(v2, fun w => Cs w 0 v2 t.chs)] := by unfold dthings; rw [List.map_append]; rfl
    unfold things
    rw [erase_flat]
    have e2 : D.map (fun d : List Chg × Value => (d.2, fun w => Cs w 0 d.2 d.1)) = dthings D := rfl
    show List.Perm _ (_ :: _ :: (dthings (D ++ [(t.chs, v2)]) ++ restT k P))
    rw [e, List.append_assoc]
    exact List.Perm.swap _ _ _
  refine ⟨⟨hq.1, o5.perm pm2⟩, fun y hy => ?_⟩
  obtain ⟨x, hx, e⟩ := mem_blks.1 ((blks_perm pm2).2 hy)
  rcases List.mem_cons.1 hx with rfl | hx
  · exact .inr (by have := hnew y e; have := k010.size; omega)
  · rcases List.mem_cons.1 hx with rfl | hx
    · rcases hv' y e with q | q
      · exact .inl (vd_in q)
      · exact .inr q.1
    · exact .inl ((blks_perm pm1).2 (mem_blks.2 ⟨x, sb.subset (List.mem_cons_of_mem _ hx), e⟩))
end Go.Proofs.YtocpagpkpibmaaaGreatDoor

/-
  OWN WORK (by mkpnb.py). The document's State (layer 18): Begin, Commit.
-/
namespace Go.Proofs.YtocpagpkpibmaaaGreatDoor
open Go.RowKit
set_option linter.unusedVariables false
set_option linter.unusedSimpArgs false

theorem beg_id {c : Cf} {s : St} {id : Int} (h : ¬ isId id ∨ (findO s.opn id).isSome = true) : begE c s id = 160 ∧ begS c s id = s := by
  have e : begE c s id = 160 := by unfold begE; rw [if_pos h]
  exact ⟨e, by unfold begS; rw [e]; rfl⟩
theorem beg_full {c : Cf} {s : St} {id : Int} (h : isId id) (h2 : findO s.opn id = none) (h3 : c.table ≤ (s.opn.length : Int)) : begE c s id = 161 ∧ begS c s id = s := by
  have e : begE c s id = 161 := by unfold begE; rw [if_neg (by simp [h, h2]), if_pos h3]
  exact ⟨e, by unfold begS; rw [e]; rfl⟩
theorem beg_fits {c : Cf} {s : St} {id : Int} {b : Bool} (h : isId id) (h2 : findO s.opn id = none) (h3 : ¬ c.table ≤ (s.opn.length : Int)) (hb : b = fitsS c s 34 99) : (b = false → begE c s id = 170 ∧ begS c s id = s) ∧ (b = true → begE c s id = 0 ∧ begS c s id = ⟨s.done, s.opn ++ [⟨id, [], [], []⟩], s.used + 34⟩) := by
  have e : begE c s id = if fitsS c s 34 99 = true then 0 else 170 := by unfold begE; rw [if_neg (by simp [h, h2]), if_neg h3]
  refine ⟨fun q => ?_, fun q => ?_⟩
  · rw [← hb, q] at e
    exact ⟨e, by unfold begS; rw [e]; rfl⟩
  · rw [← hb, q] at e
    exact ⟨e, by unfold begS; rw [e]; rfl⟩
set_option maxRecDepth 20000 in
set_option maxHeartbeats 1600000 in
theorem rBegin {g : Nat} {F : List Nat} {c : Cf} {S : St} (id : Int) (w : World) (h : Sr w g F c S) : Calls Tryz.prog 47 #[.pointer (some ⟨g, 0, none⟩), .int .i64 id] w fun e w' => ∃ F', e = .returned (.int .i64 (begE c S id)) ∧ Sr w' g F' c (begS c S id) ∧ Fr w F F' ∧ Kept F w w' := by
  have HT := @hideH _ h
  obtain ⟨vd, vo, u, D, P, hp, hs, ok, hF⟩ := h
  have HP := @hideH _ hp
  have HS := @hideH _ hs
  have HOK := @hideH _ ok
  have HF := @hideH _ hF
  clear hp hs ok hF
  obtain ⟨po, ko, hvo, -, -⟩ := HP.out.rowO.shape
  subst hvo
  obtain ⟨n, hn⟩ : ∃ n, n = P.length := ⟨_, rfl⟩
  have HN := @hideH _ hn
  have HR := @hideH _ HP.out.rowO
  have B := HP.out.box
  rw [← hn] at B
  have c4 := B.cell (j := 4) (v := .int .i64 c.table) rfl
  have c7 := B.cell (j := 7) rfl
  have c8 := B.cell (j := 8) (v := .int .i64 u) rfl
  have ok := HOK.out
  rw [HS.out] at ok
  have l8 := len_st ok
  have e2 := ok.kept
  have e3 := ok.low
  rw [show (SrP.st u D P).used = u from rfl] at e2 e3
  have w34 : IntKind.i64.wrap (u + 34) = u + 34 := wrap_i64_of (by omega) (by omega)
  obtain ⟨b, hb⟩ : ∃ b, b = fitsS c S 34 99 := ⟨_, rfl⟩
  have HB := @hideH _ hb
  have HL8 := @hideH _ l8
  have HQI := @hideH _ (rIn id 1 64 w)
  have HA := @hideH _ (rAt id w HP.out)
  clear B hn ok l8 e2 e3 hb
  obtain ⟨infX, hin1, hin2, hin3, hin4⟩ := info_parts3 (show (Tryz.prog.info? 143).map (fun i => (i.zero, i.size, i.bytes)) = some (some (.agg #[.int .i64 0, .slice none 0 0, .slice none 0 0, .slice none 0 0]), 4, 80) by kernel_rfl)
  have HIX := @hideH _ (And.intro hin1 (And.intro hin2 (And.intro hin3 hin4)))
  clear hin1 hin2 hin3 hin4
  go_enter Tryz.func47, Tryz.ntmps47
  go_wp2_with fail
  refine HQI.out.mono ?_
  clear HQI
  rintro e w1 ⟨rfl, hw⟩
  rw [hw]
  clear hw
  by_cases hid : 1 ≤ id ∧ id ≤ 64
  rotate_left
  · have HE := @hideH _ (beg_id (c := c) (s := S) (id := id) (.inl hid))
    rw [decide_eq_false hid]
    clear hid
    go_wp2
    go_ret
    exact ⟨F, by rw [HE.out.1]; rfl, by rw [HE.out.2]; exact HT.out, Fr.refl _ _, Kept.refl _ _⟩
  have HID := @hideH _ hid
  rw [decide_eq_true hid]
  clear hid
  go_wp2_with fail
  refine HA.out.mono ?_
  clear HA
  rintro e w2 ⟨hw, i, rfl, (⟨rfl, hf⟩ | ⟨k, x, rfl, hx, hxi, hf⟩)⟩
  rotate_left
  · have HE := @hideH _ (beg_id (c := c) (s := S) (id := id) (.inr (by rw [HS.out]; show (findO (P.map Prod.fst) id).isSome = true; rw [hf]; rfl)))
    have hk0 : (0 : Int) ≤ (k : Int) := by omega
    rw [hw]
    clear hw hx hxi hf
    go_wp2
    go_ret
    exact ⟨F, by rw [HE.out.1]; rfl, by rw [HE.out.2]; exact HT.out, Fr.refl _ _, Kept.refl _ _⟩
  have HFN := @hideH _ (show findO S.opn id = none by rw [HS.out]; exact hf)
  have HSL := @hideH _ (show S.opn.length = n by rw [HS.out, HN.out]; simp [SrP.st])
  rw [hw]
  clear hw hf w2 w1
  by_cases hfull : c.table ≤ (n : Int)
  · have HE := @hideH _ (beg_full (c := c) (s := S) (id := id) HID.out HFN.out (by rw [HSL.out]; exact hfull))
    go_upto_region 3 with fail
    go_quiet (fail)
    go_wp2
    go_ret
    exact ⟨F, by rw [HE.out.1]; rfl, by rw [HE.out.2]; exact HT.out.kept ((Kept.refl [] w).drewN' _) (by simp), Fr.refl _ _, ((Kept.refl [] w).drewN' _).mono (by simp)⟩
  have HE2 := @hideH _ (beg_fits (c := c) (s := S) (id := id) HID.out HFN.out (by rw [HSL.out]; exact hfull) HB.out)
  go_upto_region 3 with fail
  go_quiet (fail)
  obtain ⟨w3, hw3⟩ : ∃ wx, wx = w.drewN nq := ⟨_, rfl⟩
  have k3 : Kept [] w w3 := by rw [hw3]; exact (Kept.refl [] w).drewN' _
  rw [← hw3]
  have ok := HOK.out
  rw [HS.out] at ok
  have q := rFits 34 99 w3 (HP.out.then k3) ok (by omega) (by omega)
  rw [← HS.out, ← HB.out] at q
  have HQF := @hideH _ q
  have HK3 := @hideH _ k3
  clear k3 hw3 ok q c4 c7 c8
  go_wp2_with fail
  refine HQF.out.mono ?_
  clear HQF
  rintro e w4 ⟨rfl, k4⟩
  have HK4 := @hideH _ (HK3.out.then k4)
  clear k4
  cases b
  · have HE := @hideH _ (HE2.out.1 rfl)
    go_wp2
    go_ret
    exact ⟨F, by rw [HE.out.1]; rfl, by rw [HE.out.2]; exact HT.out.kept HK4.out (by simp), Fr.refl _ _, HK4.out.mono (by simp)⟩
  have HE := @hideH _ (HE2.out.2 rfl)
  have B4 := (HP.out.then HK4.out).box
  rw [← HN.out] at B4
  have c7 := B4.cell (j := 7) rfl
  clear B4
  obtain ⟨w7, hw7⟩ : ∃ wx, wx = w4.alloc (.cells #[.int .i64 id, .slice none 0 0, .slice none 0 0, .slice none 0 0] 143) := ⟨_, rfl⟩
  have k47 : Kept [] w4 w7 := by rw [hw7]; exact (Kept.refl [] w4).alloc _
  have k7 := HK4.out.then k47
  have hsrc := src_txn18 (P := Tryz.prog) w4 98 143 Tryz.underlying98 id (.slice none 0 0) (.slice none 0 0) (.slice none 0 0) rfl rfl rfl
  rw [← hw7] at hsrc
  have R7 := HR.out.kept k7 (by simp)
  rw [← HN.out] at R7
  go_upto_region 8 with (at_builtin; rw [← hw7]; refine wpList_append_row2 rfl (.tmp 32) (.tmp 35) 98 rfl 0 143 infX (.agg #[.int .i64 0, .slice none 0 0, .slice none 0 0, .slice none 0 0]) 4 80 Tryz.underlying98 HIX.out.1 HIX.out.2.1 HIX.out.2.2.1 HIX.out.2.2.2 rfl _ _ _ (by rfl) R7 _ 1 _ (by rfl) hsrc (by have e1 := HL8.out; have e2 := HN.out; omega) (by have e1 := HL8.out; have e2 := HN.out; unfold maxLen; omega) (by have e1 := HL8.out; have e2 := HN.out; omega) (Nat.zero_le _) ?_; intro v' w8 r8 k8 o8; obtain ⟨p8, c8, hv', -⟩ := Row.shape r8; subst hv'; have FIN := sr_begin (u' := u + 34) (id := id) HP.out k7 (by rw [← HN.out]; exact r8) (by rw [← HN.out]; exact k8) (by rw [← HN.out]; exact o8); rw [← HN.out] at FIN; have c7' := FIN.1.cell (j := 7) rfl; have f7' := FIN.1.free 7)
  obtain ⟨w9, hw9⟩ : ∃ wx, wx = w8.setCell ⟨g, 7, none⟩ (.slice p8 (n + 1) c8) := ⟨_, rfl⟩
  rw [← hw9] at FIN
  rw [← hw9]
  have c8' := FIN.2.1.cell (j := 8) (v := .int .i64 u) rfl
  have f8' := FIN.2.1.free 8
  obtain ⟨w10, hw10⟩ : ∃ wx, wx = w9.setCell ⟨g, 8, none⟩ (.int .i64 (u + 34)) := ⟨_, rfl⟩
  rw [← hw10] at FIN
  have HFIN := @hideH _ FIN.2.2
  clear FIN r8 k8 o8 c7 c7' f7' hw9 k7 k47 hsrc R7 hw7
  go_wp2
  rw [← hw10]
  go_ret
  refine ⟨_, by rw [HE.out.1]; rfl, ⟨vd, _, _, D, _, HFIN.out.1, ?_, HOK.out.beg id, rfl⟩, ?_, ?_⟩
  · rw [HE.out.2, HS.out]; unfold SrP.st; rw [List.map_append]; rfl
  · rw [HF.out, ← HN.out]; exact HFIN.out.2.1.cons
  · rw [HF.out, ← HN.out]; exact HFIN.out.2.2
end Go.Proofs.YtocpagpkpibmaaaGreatDoor

/-
  OWN WORK (by mkpnc.py). The document's State (layer 18): Commit.
-/
namespace Go.Proofs.YtocpagpkpibmaaaGreatDoor
open Go.RowKit
set_option linter.unusedVariables false
set_option linter.unusedSimpArgs false

theorem src_cell {P : Program} (w : World) (t e : TypeId) (ht : P.underlying t = some (.slice e)) (v : Value) (hv : v.oneCell' = true) : Src P 1 t (.slice (some ⟨w.heap.size, 0, none⟩) 1 1) 1 [v] (w.alloc (.cells #[v] e)) := by
  refine Src.ofSlice _ ht _ _ _ _ rfl (fun j u hj => ?_) (by simp [hv])
  rw [add_none rfl]
  have q := (Blk.new w e [v]).cell hj
  simpa using q
set_option maxRecDepth 20000 in
set_option maxHeartbeats 1600000 in
theorem rCommit {g : Nat} {F : List Nat} {c : Cf} {S : St} (id : Int) (w : World) (h : Sr w g F c S) (hd : S.done.length ≤ 4000000000000) : Calls Tryz.prog 52 #[.pointer (some ⟨g, 0, none⟩), .int .i64 id] w fun e w' => ∃ F', e = .returned (.int .i64 (endE S id)) ∧ Sr w' g F' c (comS S id) ∧ Fr w F F' ∧ Kept F w w' := by
  have HT := @hideH _ h
  obtain ⟨vd, vo, u, D, P, hp, hs, ok, hF⟩ := h
  have HP := @hideH _ hp
  have HS := @hideH _ hs
  have HOK := @hideH _ ok
  have HF := @hideH _ hF
  clear hp hs ok hF
  have HDL := @hideH _ (show D.length ≤ 4000000000000 by rw [HS.out] at hd; simpa [SrP.st] using hd)
  clear hd
  have HA := @hideH _ (rAt id w HP.out)
  obtain ⟨infD, hin1, hin2, hin3, hin4⟩ := info_parts3 (show (Tryz.prog.info? 113).map (fun i => (i.zero, i.size, i.bytes)) = some (some (.slice none 0 0), 1, 24) by kernel_rfl)
  have HID := @hideH _ (And.intro hin1 (And.intro hin2 (And.intro hin3 hin4)))
  clear hin1 hin2 hin3 hin4
  go_enter Tryz.func52, Tryz.ntmps52
  go_wp2_with fail
  refine HA.out.mono ?_
  clear HA
  rintro e w1 ⟨hw, i, rfl, (⟨rfl, hf⟩ | ⟨k, x, rfl, hx, hid, hf⟩)⟩
  · have HE := @hideH _ (abo_none (s := S) (id := id) (by rw [HS.out]; exact hf))
    rw [hw]
    clear hw hf
    go_wp2
    go_ret
    exact ⟨F, by rw [HE.out.1]; rfl, by rw [HE.out.2.2]; exact HT.out, Fr.refl _ _, Kept.refl _ _⟩
  rw [hw]
  clear hw w1
  have hk := sr_k hx
  have HE := @hideH _ (abo_some (s := S) (id := id) (k := k) (t := x.1) HOK.out (by rw [HS.out]; exact hk) (by rw [HS.out]; exact hf))
  have HKK := @hideH _ hk
  have ok := HOK.out
  rw [HS.out] at ok
  have HL8 := @hideH _ (len_st ok)
  have e2 := ok.kept
  have e3 := ok.low
  rw [show (SrP.st u D P).used = u from rfl] at e2 e3
  have w66 : IntKind.i64.wrap (u + 66) = u + 66 := wrap_i64_of (by omega) (by omega)
  obtain ⟨po, ko, hvo, -, -⟩ := HP.out.rowO.shape
  subst hvo
  obtain ⟨pd, kd, hvd, -, -⟩ := HP.out.rowD.shape
  subst hvd
  obtain ⟨n, hn⟩ : ∃ n, n = P.length := ⟨_, rfl⟩
  obtain ⟨nd, hnd⟩ : ∃ nd, nd = D.length := ⟨_, rfl⟩
  have HN := @hideH _ (And.intro hn hnd)
  have B := HP.out.box
  rw [← hn, ← hnd] at B
  have c6 := B.cell (j := 6) rfl
  have c7 := B.cell (j := 7) rfl
  have hkn : (k : Int) < (n : Int) := by have := (List.getElem?_eq_some_iff.1 hx).1; omega
  have hk0 : (0 : Int) ≤ (k : Int) := by omega
  have hk1 : ¬ (k : Int) < 0 := by omega
  obtain ⟨gl, hp, -, -, d2, -⟩ := HP.out.at hx
  subst hp
  have h3 := HP.out.three (List.mem_of_getElem? hx)
  obtain ⟨t, v1, v2, v3⟩ := x
  dsimp only at d2 h3
  obtain ⟨p2, k2, e2', -⟩ := h3.2.1.shape
  subst e2'
  obtain ⟨m2, hm2⟩ : ∃ m2, m2 = t.chs.length := ⟨_, rfl⟩
  rw [← hm2] at d2
  have HM2 := @hideH _ hm2
  have HX := @hideH _ hx
  have HD2 := @hideH _ (And.intro d2 (show Ap (.slice pd nd kd) (.slice (some ⟨gl, 0, none⟩) n ko) by have q := (List.pairwise_cons.1 (show (things _ _ D P).Pairwise (fun a b => Ap a.1 b.1) from HP.out.own.ap)).1 (_, fun w => Row w 0 4 _ P.length (ocells P)) (List.mem_cons_self ..); rw [hn, hnd]; exact q))
  clear hf hx hid hk ok e2 e3 hn hnd B h3 hm2
  go_upto_region 4 with fail
  obtain ⟨w6, hw6⟩ : ∃ wx, wx = w.drew := ⟨_, rfl⟩
  have k6 : Kept [] w w6 := by rw [hw6]; exact (Kept.refl [] w).drew
  have hS : (fun w' => w'.cell? ⟨g, 6, none⟩ = some (.slice pd nd kd) ∧ w'.cell? ⟨g, 7, none⟩ = some (.slice (some ⟨gl, 0, none⟩) n ko) ∧ w'.cell? ⟨gl, k * 4 + 2, none⟩ = some (.slice p2 m2 k2)) w6 := ⟨k6.cell c6 (by simp), k6.cell c7 (by simp), k6.cell d2 (by simp)⟩
  try dsimp only at hS
  obtain ⟨w7, hw7⟩ : ∃ wx, wx = w6.alloc (.cells #[.slice p2 m2 k2] 113) := ⟨_, rfl⟩
  have k67 : Kept [] w6 w7 := by rw [hw7]; exact (Kept.refl [] w6).alloc _
  have k7 := k6.then k67
  have hS7 := (⟨k67.cell hS.1 (by simp), k67.cell hS.2.1 (by simp), k67.cell hS.2.2 (by simp)⟩ : (fun w' => w'.cell? ⟨g, 6, none⟩ = some (.slice pd nd kd) ∧ w'.cell? ⟨g, 7, none⟩ = some (.slice (some ⟨gl, 0, none⟩) n ko) ∧ w'.cell? ⟨gl, k * 4 + 2, none⟩ = some (.slice p2 m2 k2)) w7)
  try dsimp only at hS7
  have hsrc := src_cell (P := Tryz.prog) w6 97 113 Tryz.underlying97 (.slice p2 m2 k2) rfl
  rw [← hw7] at hsrc
  have R7 := HP.out.rowD.kept k7 (by simp)
  rw [← HN.out.2] at R7
  refine wp_region_late (fun w' => w'.cell? ⟨g, 6, none⟩ = some (.slice pd nd kd) ∧ w'.cell? ⟨g, 7, none⟩ = some (.slice (some ⟨gl, 0, none⟩) n ko) ∧ w'.cell? ⟨gl, k * 4 + 2, none⟩ = some (.slice p2 m2 k2)) 17 (by kernel_rfl) ?_
  rw [← hw6]
  clear hw6 c6 c7 d2
  refine wpAnyZ_take 0 (v := ?va0_1) rfl (by kernel_rfl) (by kernel_rfl) (by kernel_rfl) (by kernel_rfl) (fun _ _ _ h => h) (by rfl) ?hya0_1 hS ?resta0_1
  case hya0_1 => (intro wx hSx; obtain ⟨s1, s2, s3⟩ := hSx; go_simp; (try with_reducible rfl))
  (try simp only [Act.put, List.getElem_toArray, List.getElem_cons_zero, List.getElem_cons_succ, List.setIfInBounds_toArray, List.set_cons_zero, List.set_cons_succ])
  refine wpAnyZ_take 1 (v := ?va1_2) rfl (by kernel_rfl) (by kernel_rfl) (by kernel_rfl) (by kernel_rfl) (fun _ _ _ h => h) (by rfl) ?hya1_2 hS ?resta1_2
  case hya1_2 => (intro wx hSx; obtain ⟨s1, s2, s3⟩ := hSx; go_simp; (try with_reducible rfl))
  (try simp only [Act.put, List.getElem_toArray, List.getElem_cons_zero, List.getElem_cons_succ, List.setIfInBounds_toArray, List.set_cons_zero, List.set_cons_succ])
  refine wpAnyZ_take 2 (v := ?va2_3) rfl (by kernel_rfl) (by kernel_rfl) (by kernel_rfl) (by kernel_rfl) (fun _ _ _ h => h) (by rfl) ?hya2_3 hS ?resta2_3
  case hya2_3 => (intro wx hSx; obtain ⟨s1, s2, s3⟩ := hSx; go_simp; (try with_reducible rfl))
  (try simp only [Act.put, List.getElem_toArray, List.getElem_cons_zero, List.getElem_cons_succ, List.setIfInBounds_toArray, List.set_cons_zero, List.set_cons_succ])
  refine wpAnyZ_take 3 (v := ?va3_4) rfl (by kernel_rfl) (by kernel_rfl) (by kernel_rfl) (by kernel_rfl) (fun _ _ _ h => h) (by rfl) ?hya3_4 hS ?resta3_4
  case hya3_4 => (intro wx hSx; obtain ⟨s1, s2, s3⟩ := hSx; go_simp; (try with_reducible rfl))
  (try simp only [Act.put, List.getElem_toArray, List.getElem_cons_zero, List.getElem_cons_succ, List.setIfInBounds_toArray, List.set_cons_zero, List.set_cons_succ])
  refine wpAnyZ_take 4 (v := ?va4_5) rfl (by kernel_rfl) (by kernel_rfl) (by kernel_rfl) (by kernel_rfl) (fun _ _ _ h => h) (by rfl) ?hya4_5 hS ?resta4_5
  case hya4_5 => (intro wx hSx; obtain ⟨s1, s2, s3⟩ := hSx; go_simp; (try with_reducible rfl))
  (try simp only [Act.put, List.getElem_toArray, List.getElem_cons_zero, List.getElem_cons_succ, List.setIfInBounds_toArray, List.set_cons_zero, List.set_cons_succ])
  refine wpAnyZ_take 5 (v := ?va5_6) rfl (by kernel_rfl) (by kernel_rfl) (by kernel_rfl) (by kernel_rfl) (fun _ _ _ h => h) (by rfl) ?hya5_6 hS ?resta5_6
  case hya5_6 => (intro wx hSx; obtain ⟨s1, s2, s3⟩ := hSx; go_simp; (try with_reducible rfl))
  (try simp only [Act.put, List.getElem_toArray, List.getElem_cons_zero, List.getElem_cons_succ, List.setIfInBounds_toArray, List.set_cons_zero, List.set_cons_succ])
  refine wpAnyZ_take 6 (v := ?va6_7) rfl (by kernel_rfl) (by kernel_rfl) (by kernel_rfl) (by kernel_rfl) (fun _ _ _ h => h) (by rfl) ?hya6_7 hS ?resta6_7
  case hya6_7 => (intro wx hSx; obtain ⟨s1, s2, s3⟩ := hSx; go_simp; (try with_reducible rfl))
  (try simp only [Act.put, List.getElem_toArray, List.getElem_cons_zero, List.getElem_cons_succ, List.setIfInBounds_toArray, List.set_cons_zero, List.set_cons_succ])
  refine wpAnyZ_take 7 (v := ?va7_8) rfl (by kernel_rfl) (by kernel_rfl) (by kernel_rfl) (by kernel_rfl) (fun _ _ _ h => h) (by rfl) ?hya7_8 hS ?resta7_8
  case hya7_8 => (intro wx hSx; obtain ⟨s1, s2, s3⟩ := hSx; go_simp; (try with_reducible rfl))
  (try simp only [Act.put, List.getElem_toArray, List.getElem_cons_zero, List.getElem_cons_succ, List.setIfInBounds_toArray, List.set_cons_zero, List.set_cons_succ])
  refine wpAnyZ_take 8 (v := ?va8_9) rfl (by kernel_rfl) (by kernel_rfl) (by kernel_rfl) (by kernel_rfl) (fun _ _ _ h => h) (by rfl) ?hya8_9 hS ?resta8_9
  case hya8_9 => (intro wx hSx; obtain ⟨s1, s2, s3⟩ := hSx; go_simp; (try with_reducible rfl))
  (try simp only [Act.put, List.getElem_toArray, List.getElem_cons_zero, List.getElem_cons_succ, List.setIfInBounds_toArray, List.set_cons_zero, List.set_cons_succ])
  refine wpAnyZ_take 9 (v := ?va9_10) rfl (by kernel_rfl) (by kernel_rfl) (by kernel_rfl) (by kernel_rfl) (fun _ _ _ h => h) (by rfl) ?hya9_10 hS ?resta9_10
  case hya9_10 => (intro wx hSx; obtain ⟨s1, s2, s3⟩ := hSx; go_simp; (try with_reducible rfl))
  (try simp only [Act.put, List.getElem_toArray, List.getElem_cons_zero, List.getElem_cons_succ, List.setIfInBounds_toArray, List.set_cons_zero, List.set_cons_succ])
  refine wpAnyZ_take 10 (v := ?va10_11) rfl (by kernel_rfl) (by kernel_rfl) (by kernel_rfl) (by kernel_rfl) (fun _ _ _ h => h) (by rfl) ?hya10_11 hS ?resta10_11
  case hya10_11 => (intro wx hSx; obtain ⟨s1, s2, s3⟩ := hSx; go_simp; (try with_reducible rfl))
  (try simp only [Act.put, List.getElem_toArray, List.getElem_cons_zero, List.getElem_cons_succ, List.setIfInBounds_toArray, List.set_cons_zero, List.set_cons_succ])
  refine wpAnyZ_take 11 (v := ?va11_12) rfl (by kernel_rfl) (by kernel_rfl) (by kernel_rfl) (by kernel_rfl) (fun _ _ _ h => h) (by rfl) ?hya11_12 hS ?resta11_12
  case hya11_12 => (intro wx hSx; obtain ⟨s1, s2, s3⟩ := hSx; go_simp; (try with_reducible rfl))
  (try simp only [Act.put, List.getElem_toArray, List.getElem_cons_zero, List.getElem_cons_succ, List.setIfInBounds_toArray, List.set_cons_zero, List.set_cons_succ])
  refine wpAnyZ_take 12 (v := ?va12_13) rfl (by kernel_rfl) (by kernel_rfl) (by kernel_rfl) (by kernel_rfl) (fun _ _ _ h => h) (by rfl) ?hya12_13 hS ?resta12_13
  case hya12_13 => (intro wx hSx; obtain ⟨s1, s2, s3⟩ := hSx; go_simp; (try with_reducible rfl))
  (try simp only [Act.put, List.getElem_toArray, List.getElem_cons_zero, List.getElem_cons_succ, List.setIfInBounds_toArray, List.set_cons_zero, List.set_cons_succ])
  refine wpAnyZ_one 13 rfl (by kernel_rfl) (fun K hK => ?_)
  go_simp
  refine hK _ _ (fun _ => by rw [← hw7]; exact hS7) ?_
  clear hK K
  (try simp only [Act.put, List.getElem_toArray, List.getElem_cons_zero, List.getElem_cons_succ, List.setIfInBounds_toArray, List.set_cons_zero, List.set_cons_succ])
  rw [← hw7]
  clear hw7
  refine wpAnyZ_one 14 rfl (by kernel_rfl) (fun K hK => ?_)
  refine step_append_row2 rfl (.tmp 15) (.tmp 24) 97 rfl 0 113 infD (.slice none 0 0) 1 24 Tryz.underlying97 HID.out.1 HID.out.2.1 HID.out.2.2.1 HID.out.2.2.2 rfl _ _ _ (by rfl) R7 _ 1 _ (by rfl) hsrc (by have e1 := HDL.out; have e2 := HN.out.2; omega) (by have e1 := HDL.out; have e2 := HN.out.2; unfold maxLen; omega) (by have e1 := HDL.out; have e2 := HN.out.2; omega) (Nat.zero_le _) ?_
  intro v' w8 r8 k8 o8
  obtain ⟨p', c', hv', -⟩ := Row.shape r8
  subst hv'
  have FIN := fun w11 vl => sr_commit (u' := u + 66) (w11 := w11) (vl := vl) HP.out HX.out k7 (by rw [← HN.out.2, ← HM2.out]; exact r8) (by rw [← HN.out.2]; exact k8) (by rw [← HN.out.2]; exact o8)
  simp only [← HN.out.1, ← HN.out.2] at FIN
  have B8 := (FIN w (.slice none 0 0)).1
  have c8 := B8.cell (j := 6) rfl
  have f8 := B8.free 6
  have k08 : Kept (Value.slice pd nd kd).ownBlock.toList w w8 := (k7.mono (T := (Value.slice pd nd kd).ownBlock.toList) (by simp)).trans k8 (fun x hx => .inl hx)
  have hS8 : (fun w' => w'.cell? ⟨g, 6, none⟩ = some (.slice pd nd kd) ∧ w'.cell? ⟨g, 7, none⟩ = some (.slice (some ⟨gl, 0, none⟩) n ko) ∧ w'.cell? ⟨gl, k * 4 + 2, none⟩ = some (.slice p2 m2 k2)) w8 := ⟨c8, B8.cell (j := 7) rfl, k08.cell HD2.out.1 (fun hm => HD2.out.2 gl (own_mem.1 hm) rfl)⟩
  try dsimp only at hS8
  have HFIN := @hideH _ FIN
  clear FIN B8 r8 k8 o8 hsrc R7 k7 k67 hS7 hS k6 k08
  refine hK _ _ (fun _ => hS8) ?_
  clear hK K
  (try simp only [Act.put, List.getElem_toArray, List.getElem_cons_zero, List.getElem_cons_succ, List.setIfInBounds_toArray, List.set_cons_zero, List.set_cons_succ])
  refine wpAnyZ_one 15 rfl (by kernel_rfl) (fun K hK => ?_)
  go_simp
  refine hK _ _ (fun _ => hS8) ?_
  clear hK K
  (try simp only [Act.put, List.getElem_toArray, List.getElem_cons_zero, List.getElem_cons_succ, List.setIfInBounds_toArray, List.set_cons_zero, List.set_cons_succ])
  refine wpAnyZ_one 16 rfl (by kernel_rfl) (fun K hK => ?_)
  go_simp
  refine hK _ _ (fun _ => hS8) ?_
  clear hK K
  (try simp only [Act.put, List.getElem_toArray, List.getElem_cons_zero, List.getElem_cons_succ, List.setIfInBounds_toArray, List.set_cons_zero, List.set_cons_succ])
  refine wpAnyZ_one 17 rfl (by kernel_rfl) (fun K hK => ?_)
  go_simp
  refine hK _ _ (fun h => absurd rfl h) ?_
  clear hK K
  (try simp only [Act.put, List.getElem_toArray, List.getElem_cons_zero, List.getElem_cons_succ, List.setIfInBounds_toArray, List.set_cons_zero, List.set_cons_succ])
  refine wpAnyZ_done (by kernel_rfl) ?_ _
  obtain ⟨w9, hw9⟩ : ∃ wx, wx = w8.setCell ⟨g, 6, none⟩ (.slice p' (nd + 1) c') := ⟨_, rfl⟩
  rw [← hw9] at HFIN
  rw [← hw9]
  have B9 := (HFIN.out w (.slice none 0 0)).2.1
  have c8' := B9.cell (j := 8) (v := .int .i64 u) rfl
  have f8' := B9.free 8
  obtain ⟨w10, hw10⟩ : ∃ wx, wx = w9.setCell ⟨g, 8, none⟩ (.int .i64 (u + 66)) := ⟨_, rfl⟩
  rw [← hw10] at HFIN
  have HQ := @hideH _ (rOverW k w10 (HFIN.out w (.slice none 0 0)).2.2.1 HX.out (by have := HL8.out; omega))
  clear hw9 hS8 c8 f8 B9
  go_upto_region 6 with fail
  rw [← hw10]
  clear hw10 c8' f8'
  go_wp2_with fail
  refine HQ.out.mono ?_
  clear HQ
  rintro e w11 ⟨rfl, vl, q1, q2, q3⟩
  have Q := (HFIN.out w11 vl).2.2.2.2 q1 q2 q3
  have HK := @hideH _ (((HFIN.out w11 vl).2.2.2.1).trans (q3.mono (T := g :: (Value.slice pd nd kd).ownBlock.toList) (by simp)) (fun y hy => .inl hy))
  have HQ := @hideH _ Q
  clear Q q1 q2 q3 HFIN
  go_wp2
  go_ret
  refine ⟨_, by rw [HE.out.1]; rfl, ⟨_, _, _, _, _, HQ.out.1, ?_, ?_, rfl⟩, ?_, ?_⟩
  · rw [HE.out.2.2, HS.out]; unfold SrP.st; simp [map_erase]
  · rw [HE.out.2.2]; exact HOK.out.commit (by rw [HS.out]; exact HKK.out)
  · rw [HF.out, ← HN.out.1, ← HN.out.2]; exact HQ.out.2.cons
  · rw [HF.out, ← HN.out.1, ← HN.out.2]; exact HK.out.mono (fun y hy => by rcases List.mem_cons.1 hy with rfl | hy; exact List.mem_cons_self ..; exact List.mem_cons_of_mem _ (vd_in (own_mem.1 hy)))
end Go.Proofs.YtocpagpkpibmaaaGreatDoor

