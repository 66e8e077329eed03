import Derived.Test.YtmipmiaflompmaaC6
/-
  OWN WORK. DiskApart, the walk.
-/
namespace Go.Proofs.Ytmipmiaflompmaa
open Go.RowKit
set_option linter.unusedVariables false

theorem Blk.three {w : World} {g : Nat} {t : TypeId} {a b c : Value} (h : Blk w g t [a, b, c]) : w.cell? ⟨g, 0, none⟩ = some a ∧ w.cell? ⟨g, 1, none⟩ = some b ∧ w.cell? ⟨g, 2, none⟩ = some c := ⟨h.cell (j := 0) rfl, h.cell (j := 1) rfl, h.cell (j := 2) rfl⟩
theorem cap40 {s m k : Nat} (h : s + m + 8 ≤ 3300000000000) (hk : k ≤ s + m + 4) : (k + 1) * 40 ≤ 140737488355328 := by omega
theorem cap8 {s m k e : Nat} (h : s + m + 8 ≤ 3300000000000) (hk : k ≤ s) (he : e ≤ k + 2) : (e + 1) * 8 ≤ 140737488355328 := by omega
theorem wrap_pred {s m k e q : Nat} (h : s + m + 8 ≤ 3300000000000) (hk : k ≤ s) (he : e ≤ k + 2) (h0 : 0 < e) (hq : q = e - 1) : IntKind.i64.wrap ((e : Int) - 1) = (q : Int) := by
  rw [show (e : Int) - 1 = (q : Int) by omega]
  exact wrap_i64_of (by omega) (by omega)
theorem wrap_next {s m k : Nat} (h : s + m + 8 ≤ 3300000000000) (hk : k ≤ s + m) : IntKind.i64.wrap ((k : Int) + 1) = (k : Int) + 1 := wrap_i64_of (by omega) (by omega)
theorem cap40b {s m k : Nat} (h : s + m + 8 ≤ 3300000000000) (hk : k ≤ s + m + 4) : k * 40 ≤ 140737488355328 := by omega
theorem wrap_small4 {k : Nat} (h : k < 4) : IntKind.i64.wrap ((k : Int) + 1) = (k : Int) + 1 := wrap_i64_of (by omega) (by omega)
theorem cap24 {n : Nat} (h : n ≤ 16) : (n + 3) * 24 ≤ 140737488355328 := by omega
theorem image_len {d : DS} (h : d.Ok) : d.image.ps.length = d.np := by
  show ((d.seen.drop 1).take d.np).length = d.np
  have := h.seenLen
  simp
  omega
theorem madeP_ok {w w' : World} {v : Value} {d : DS} (h : MadeP w w' v d 0) : BornP w w' v d [] := by
  rcases h with h | h
  · exact h.2
  · exact absurd rfl h.1
theorem few_next {k e e' : Nat} (h1 : e' ≤ e + 1) (h2 : e ≤ k + 2) : e' ≤ k + 1 + 2 := by omega
theorem Fresh.shp {a b c : Int} {E : List Ent} (h : Fresh a b c E) : Shp a b c E := fun e he => (h e he).2.2.2.2
set_option maxRecDepth 100000 in
set_option maxHeartbeats 25600000 in
theorem diskApart_walk (a b c : Int) (V : IV) (m : IM) (vs vm : Value) (ss ms : List OpR) (wh : Int) (W : World) (hV : SeeIm W V m) (hpc : (V.pv.length + 3) * 24 ≤ 140737488355328) (hS : Ops W vs ss) (hM : Ops W vm ms) (hlen : ss.length + ms.length + 8 ≤ 3300000000000) :
    Calls Try.prog 6 #[.agg #[.int .i64 a, .int .i64 b, .int .i64 c], V.agg, .agg #[vs, vm, .int .i64 wh]] W fun r W' => r = .returned (.bool true) ∧ Kept [] W W' := by
  obtain ⟨xa, ya, ea, -⟩ := hV.vp
  obtain ⟨xb, yb, eb, -⟩ := hV.pair
  obtain ⟨xc, yc, ec, -⟩ := hV.log
  obtain ⟨xd, yd, ed, -⟩ := hV.m0
  obtain ⟨xe, ye, ee, -⟩ := hV.m1
  obtain ⟨vp, pv, pair, log, m0, m1⟩ := V
  simp only at ea eb ec ed ee hpc
  subst ea eb ec ed ee
  have HCAP : Hid ((pv.length + 3) * 24 ≤ 140737488355328) := hpc
  obtain ⟨ps, cs, rfl, -, -, -⟩ := id hS
  obtain ⟨pm, cm, rfl, -, -, -⟩ := id hM
  obtain ⟨w2, hw2⟩ : ∃ w2, w2 = ((W.alloc (.cells #[.int .i64 a, .int .i64 b, .int .i64 c] 23)).alloc (.cells #[.slice xa pv.length ya, .slice xb m.pair.length yb, .slice xc m.log.length yc, .slice xd m.m0.length yd, .slice xe m.m1.length ye] 43)).alloc (.cells #[.slice ps ss.length cs, .slice pm ms.length cm, .int .i64 wh] 71) := ⟨_, rfl⟩
  have k2 : Kept [] W w2 := by rw [hw2]; exact (((Kept.refl [] W).alloc _).alloc _).alloc _
  have bS : Blk w2 W.heap.size 23 [.int .i64 a, .int .i64 b, .int .i64 c] := by rw [hw2]; exact (Blk.new W _ _).kept (((Kept.refl [] _).alloc _).alloc _) (by simp)
  have bI : Blk w2 (W.heap.size + 1) 43 [.slice xa pv.length ya, .slice xb m.pair.length yb, .slice xc m.log.length yc, .slice xd m.m0.length yd, .slice xe m.m1.length ye] := by
    rw [hw2]
    have := (Blk.new (W.alloc (.cells #[.int .i64 a, .int .i64 b, .int .i64 c] 23)) 43 [.slice xa pv.length ya, .slice xb m.pair.length yb, .slice xc m.log.length yc, .slice xd m.m0.length yd, .slice xe m.m1.length ye]).kept ((Kept.refl [] _).alloc (.cells #[.slice ps ss.length cs, .slice pm ms.length cm, .int .i64 wh] 71)) (by simp)
    rwa [World.size_alloc] at this
  have bM : Blk w2 (W.heap.size + 1 + 1) 71 [.slice ps ss.length cs, .slice pm ms.length cm, .int .i64 wh] := by
    rw [hw2]
    have := Blk.new ((W.alloc (.cells #[.int .i64 a, .int .i64 b, .int .i64 c] 23)).alloc (.cells #[.slice xa pv.length ya, .slice xb m.pair.length yb, .slice xc m.log.length yc, .slice xd m.m0.length yd, .slice xe m.m1.length ye] 43)) 71 [.slice ps ss.length cs, .slice pm ms.length cm, .int .i64 wh]
    rwa [World.size_alloc, World.size_alloc] at this
  have HV0 : Hid (SeeIm W ⟨.slice xa pv.length ya, pv, .slice xb m.pair.length yb, .slice xc m.log.length yc, .slice xd m.m0.length yd, .slice xe m.m1.length ye⟩ m) := hV
  have HS0 : Hid (Ops W (.slice ps ss.length cs) ss ∧ Ops W (.slice pm ms.length cm) ms) := ⟨hS, hM⟩
  have HLEN : Hid (ss.length + ms.length + 8 ≤ 3300000000000) := hlen
  have K2 : Hid (Kept [] W w2) := k2
  have HSB : Hid (Blk w2 W.heap.size 23 [.int .i64 a, .int .i64 b, .int .i64 c] ∧ Blk w2 (W.heap.size + 1) 43 [.slice xa pv.length ya, .slice xb m.pair.length yb, .slice xc m.log.length yc, .slice xd m.m0.length yd, .slice xe m.m1.length ye]) := ⟨bS, bI⟩
  have HW2 : Hid (w2 = _) := hw2
  obtain ⟨n0, n1, -⟩ := bM.three
  unfold IV.agg
  dsimp only
  clear hV hS hM hlen k2 bS bI hpc bM
  have hw2' := hw2
  go_enter Try.func6, Try.ntmps6
  go_upto_region 1 with fail
  rw [← hw2']
  clear hw2 hw2'
  go_region_held3 (fun w' => w'.cell? ⟨W.heap.size + 1 + 1, 0, none⟩ = some (.slice ps ss.length cs) ∧ w'.cell? ⟨W.heap.size + 1 + 1, 1, none⟩ = some (.slice pm ms.length cm)) (first | (exact ⟨n0, n1⟩) | go_keep) (fail)
  clear n0 n1
  go_wp2_with fail
  refine (head_any _).mono ?_
  rintro r w3 ⟨rfl, k3'⟩
  have k3 : Kept [] w2 w3 := (Kept.refl [] w2).drew.then k3'
  clear k3'
  obtain ⟨i0, i1, i2⟩ := (HSB.out.1.kept k3 (by simp)).three
  obtain ⟨⟨j0, j1, j2, j3, j4⟩, -⟩ := (HSB.out.2.kept k3 (by simp)).five
  have hbg := begins_any a b c _ m w3 ((HV0.out.kept K2.out).kept k3) HCAP.out
  unfold IV.agg at hbg
  dsimp only at hbg
  go_wp2_with fail
  refine hbg.mono ?_
  clear hbg
  rintro r w4 ⟨g, vD, vR, E, rfl, hB, hFr, hE, -, hP⟩
  have K4 : Kept [] W w4 := (K2.out.then k3).then (hP.mono (b' := w3.heap.size) (by omega)).all
  have HBASE : Hid (W.heap.size ≤ w3.heap.size + 2) := (show W.heap.size ≤ w3.heap.size + 2 by have := (K2.out.then k3).size; omega)
  have g0 := hB.blk.cell (j := 0) rfl
  obtain ⟨pD, cD, rfl⟩ := own_shape2 hB.rowD
  by_cases hEz : E.length = 0
  · rw [hEz] at g0
    have FIN : Hid (Kept [] W w4) := K4
    clear hB hFr hE hP i0 i1 i2 j0 j1 j2 j3 j4 k3 K4
    go_wp2
    go_ret
    exact ⟨rfl, FIN.out⟩
  · have hEi : ¬ (E.length : Int) = 0 := by omega
    have hEb : ((E.length : Int) == 0) = false := by simpa using hEz
    have HSH : Hid (Blk w2 W.heap.size 23 [.int .i64 a, .int .i64 b, .int .i64 c] ∧ Kept [] w2 w3) := ⟨HSB.out.1, k3⟩
    have ST : Hid (∃ vD vR E, Book (w3.heap.size + 2) w4 g vD vR E ∧ Few 0 E ∧ E.length ≤ 2 ∧ 0 < E.length ∧ Shp a b c E ∧ Kept [] w3 w4) := ⟨_, vR, E, hB, hFr.few, hE, by omega, hFr.shp, (hP.mono (b' := w3.heap.size) (by omega)).all⟩
    have K3 : Hid (Kept [] W w3) := K2.out.then k3
    have HB3 : Hid (w3.heap.size ≤ w3.heap.size + 2) := (show w3.heap.size ≤ w3.heap.size + 2 by omega)
    generalize hbs : w3.heap.size + 2 = base at HBASE ST HB3
    clear hB hFr hE hP i0 i1 i2 j0 j1 j2 j3 j4 k3 hbs K4
    go_wp2
    (try simp only [hEb])
    clear g0
    go_loopw [11] (fun i wr => ∃ (k : Nat) (vD vR : Value) (E : List Ent), k ≤ ss.length ∧ i = .int .i64 k ∧ Hid (Book base wr g vD vR E ∧ Few k E ∧ E.length ≤ k + 2 ∧ 0 < E.length ∧ Shp a b c E ∧ Kept [] w3 wr)) (fun i _ => ss.length - (intOf i).toNat)
    case atStart =>
      obtain ⟨vD, vR, E, h1, h2, h3, h4, h5, h6⟩ := ST.out
      exact ⟨0, vD, vR, E, Nat.zero_le _, rfl, h1, h2, h3, h4, h5, h6⟩
    case round =>
      clear ST
      obtain ⟨k, vD, vR, E, hk, rfl, hh⟩ := hrel
      obtain ⟨hB, hF, hE, hE0, hSp, kr3⟩ := hh.out
      have kr : Kept [] W wr := K3.out.then kr3
      have g0 := hB.blk.cell (j := 0) rfl
      obtain ⟨pD, cD, rfl⟩ := own_shape2 hB.rowD
      obtain ⟨q, hq⟩ : ∃ q, q = E.length - 1 := ⟨_, rfl⟩
      have WQ := @hideH _ (wrap_pred HLEN.out hk hE hE0 hq)
      by_cases hlt : k < ss.length
      · have hlt' : (k : Int) < (ss.length : Int) := by omega
        have hk0 : (0 : Int) ≤ (k : Int) := by omega
        obtain ⟨s, hs⟩ : ∃ s, ss[k]? = some s := ⟨_, List.getElem?_eq_getElem hlt⟩
        obtain ⟨sb, so, sc, es, c0, c1, c2, c3, c4, c5, c6, bb, kk, nn⟩ := HS0.out.1.at hs
        cases es
        obtain ⟨kind, which, n, mm, ub, bts, cl, vk, keep⟩ := s
        simp only at c0 c1 c2 c3 c4 c5 c6 bb kk nn
        have NN := @hideH _ nn
        clear nn
        have hpl := fun (x : World) (kx : Kept [] wr x) => play_op (s := ⟨kind, (q : Int), n, mm, ub, bts, cl, vk, keep⟩) (hB.kept kx (by simp)) hF (cap40 HLEN.out (by omega)) (cap8 HLEN.out hk hE) bb kk NN.out (kr.then kx) HBASE.out
        simp only at hpl
        have HPL := @hideH _ hpl
        clear hpl
        obtain ⟨pb, cb, rfl, -⟩ := id bb
        obtain ⟨pk, ck, rfl, -⟩ := id kk
        have d0 := kr.cell c0 (by simp)
        have d1 := kr.cell c1 (by simp)
        have d2 := kr.cell c2 (by simp)
        have d3 := kr.cell c3 (by simp)
        have d4 := kr.cell c4 (by simp)
        have d5 := kr.cell c5 (by simp)
        have d6 := kr.cell c6 (by simp)
        have wk := wrap_next (m := ms.length) HLEN.out (show k ≤ ss.length + ms.length by omega)
        have ko := (Kept.refl [] wr).alloc (.cells #[.int .i64 kind, .int .i64 which, .int .i64 n, .int .i64 mm, .slice pb bts.length cb, .int .i64 cl, .slice pk keep.length ck] 59)
        have go0 := ko.cell g0 (by simp)
        have HB : Hid (Book base wr g (.slice pD E.length cD) vR E ∧ Few k E ∧ E.length ≤ k + 2 ∧ 0 < E.length ∧ Shp a b c E ∧ Kept [] w3 wr) := hh
        clear hB hF hE hE0 hSp bb kk hs c0 c1 c2 c3 c4 c5 c6 hh hq
        have wq := WQ.out
        go_wp2_with fail
        have ko2 := (Kept.refl [] wr).alloc (.cells #[.int .i64 kind, .int .i64 (q : Int), .int .i64 n, .int .i64 mm, .slice pb bts.length cb, .int .i64 cl, .slice pk keep.length ck] 59)
        refine (HPL.out _ ko2).mono ?_
        rintro r w5 ⟨rfl, vD', vR', E', hB', hF', hE1, hE2, hS', hP'⟩
        have k5 : Kept [] w3 w5 := (((Past.kept (base := base) (kr3.then ko2)).trans hP').mono HB3.out).all
        have REL : Hid (Book base w5 g vD' vR' E' ∧ Few (k + 1) E' ∧ E'.length ≤ k + 1 + 2 ∧ 0 < E'.length ∧ Shp a b c E' ∧ Kept [] w3 w5) := ⟨hB', hF', few_next hE2 HB.out.2.2.1, Nat.lt_of_lt_of_le HB.out.2.2.2.1 hE1, hS'.2 a b c HB.out.2.2.2.2.1, k5⟩
        clear hB' hF' hE1 hE2 hS' hP' k5 ko2 ko go0 g0 d0 d1 d2 d3 d4 d5 d6 HPL
        go_wp2
        go_roundw
        case rel => exact ⟨k + 1, vD', vR', E', by omega, by go_num, REL⟩
        case measure => simp [intOf]; omega
      · have hlt' : ¬ (k : Int) < (ss.length : Int) := by omega
        have hql : q < E.length := by omega
        obtain ⟨e, he⟩ : ∃ e, E[q]? = some e := ⟨_, List.getElem?_eq_getElem hql⟩
        obtain ⟨bD, cD', bR, cR, eD, -, dq, -, -, -⟩ := hB.at he
        cases eD
        have hsp := hSp e (List.mem_of_getElem? he)
        have hfw := hF e (List.mem_of_getElem? he)
        obtain ⟨ev, eu, d, Fe⟩ := e
        obtain ⟨F, Bq, hp, -, -, eF⟩ := hB.both _ (List.mem_of_getElem? he)
        simp only at hp dq hsp hfw eF
        have hlow := hB.low.2 _ (List.mem_of_getElem? he)
        simp only at hlow
        have lowF : ∀ x ∈ F.own, W.heap.size ≤ x := fun x hx => Nat.le_trans HBASE.out (hlow x (by rw [eF]; exact Foot.inOwn (by simp [hx])))
        obtain ⟨gv, rfl⟩ := hp.ptr
        have hql' : (q : Int) < (E.length : Int) := by omega
        have hq0 : (0 : Int) ≤ (q : Int) := by omega
        have wq := WQ.out
        have hls := load_self hp.ok hsp.1 hsp.2.1 hsp.2.2
        have HP : Hid (PF wr (.pointer (some ⟨gv, 0, none⟩)) d F ∧ d.loose.length ≤ ss.length ∧ (∀ x ∈ F.own, W.heap.size ≤ x) ∧ Kept [] W wr) := ⟨hp, Nat.le_trans hfw hk, lowF, kr⟩
        have HLS : Hid (loadE a b c d.image = 0) := hls
        have bSr : Blk wr W.heap.size 23 [.int .i64 a, .int .i64 b, .int .i64 c] := (HSH.out.1.kept HSH.out.2 (by simp)).kept kr3 (by simp)
        clear hB hF hE hE0 hSp hh hsp hfw eF hlow lowF hp hls he hq hql
        go_upto_region 15 with fail
        go_region_held3 (fun w' => w'.cell? ⟨g, 0, none⟩ = some (.slice (some ⟨bD, 0, none⟩) E.length cD) ∧ w'.cell? ⟨bD, q, none⟩ = some (.pointer (some ⟨gv, 0, none⟩))) (first | (exact ⟨g0, dq⟩) | go_keep) (fail)
        clear g0 dq wq
        have kd : Kept [] wr wr.drew := (Kept.refl [] wr).drew
        have hcp := fCopy _ d F _ (HP.out.1.kept kd (by simp)) (cap40b HLEN.out (Nat.le_trans HP.out.2.1 (by omega)))
        go_wp2_with fail
        refine hcp.mono ?_
        clear hcp
        rintro r w7 ⟨uc, rfl, FC, pc, fc, k7, zc⟩
        obtain ⟨gc, rfl⟩ := pc.ptr
        have k7' := kd.then k7
        go_wp2_with fail
        have kl := (Kept.refl [] w7).alloc (.cells #[.int .i64 1] 3)
        have hlit := is_lit w7 3 1 (by decide)
        have hcr := fCrash _ d F (-1) (.slice (some ⟨w7.heap.size, 0, none⟩) 1 1) [1] (w7.alloc (.cells #[.int .i64 1] 3)) ((HP.out.1.kept k7' (by simp)).kept kl (by simp)) hlit
        refine hcr.mono ?_
        clear hcr
        rintro r w8 ⟨uf, rfl, FF, pf, ff, k8, zf⟩
        obtain ⟨gf, rfl⟩ := pf.ptr
        have k8' := (k7'.then kl).then k8
        have hIm := fun (x : World) (kx : Kept [] w8 x) => fImage _ d F x ((HP.out.1.kept k8' (by simp)).kept kx (by simp))
        have hLd := fun (V : IV) (x : World) (hV : SeeIm x V d.image) (hc : (V.pv.length + 3) * 24 ≤ 140737488355328) => fLoad a b c V d.image x hV hc
        simp only [HLS.out] at hLd
        have HLD := @hideH _ hLd
        have HSR : Hid (Blk w8 W.heap.size 23 [.int .i64 a, .int .i64 b, .int .i64 c]) := bSr.kept k8' (by simp)
        obtain ⟨s0, s1, s2⟩ := HSR.out.three
        have HNP : Hid (d.image.ps.length ≤ 16) := (show d.image.ps.length ≤ 16 by rw [image_len HP.out.1.ok]; exact HP.out.1.ok.np.2)
        have kx : Kept [] w8 w8.drew := (Kept.refl [] w8).drew
        clear hLd
        go_upto_region 17 with fail
        go_region_held3 (fun w' => w'.cell? ⟨W.heap.size, 0, none⟩ = some (.int .i64 a) ∧ w'.cell? ⟨W.heap.size, 1, none⟩ = some (.int .i64 b) ∧ w'.cell? ⟨W.heap.size, 2, none⟩ = some (.int .i64 c))
          (first | (with_reducible exact ⟨kx.cell s0 (by simp), kx.cell s1 (by simp), kx.cell s2 (by simp)⟩) | fail)
          (first
            | (go_at_call 19; refine (hIm _ kx).mono ?_; rintro r wa ⟨VI, rfl, hVI, kn⟩; replace kx := kx.then kn; have hVc := cap24 (Nat.le_trans (Nat.le_of_eq hVI.len) HNP.out))
            | (go_at_call 32; refine (HLD.out VI _ hVI.see hVc).mono ?_; rintro r wb ⟨uo, rfl, hMd⟩; obtain ⟨FO, pO, fO, kO, zO⟩ := madeP_ok hMd; have swa := kx.size; have KXA := @hideH _ kx; replace kx := kx.then kO; obtain ⟨gO, rfl⟩ := pO.ptr)
            | fail)
        generalize VI.agg = agI
        have k9 := k8'.then kx
        have hQ := Q4.make HP.out.2.2.2 HP.out.2.2.1 HP.out.1 k7' pc fc zc kl k8 pf ff zf (KXA.out) kO pO fO zO
        have hlo : ∀ i, i < 4 → (four d d.copy (d.crash (-1) [1]) (loadD a b c d.image) i).loose.length ≤ ss.length := all4 HP.out.2.1 HP.out.2.1 (Nat.zero_le _) (Nat.zero_le _)
        obtain ⟨gs, hgs⟩ : ∃ gs, gs = four gv gc gf gO := ⟨_, rfl⟩
        have e0 : gv = gs 0 := by rw [hgs]; rfl
        have e1 : gc = gs 1 := by rw [hgs]; rfl
        have e2 : gf = gs 2 := by rw [hgs]; rfl
        have e3 : gO = gs 3 := by rw [hgs]; rfl
        rw [← hgs] at hQ
        generalize four d d.copy (d.crash (-1) [1]) (loadD a b c d.image) = ds at *
        generalize four F FC FF FO = Fs at *
        have HQ : Hid (Q4 W wb.heap.size gs (wb.alloc (.cells #[.pointer (some ⟨gv, 0, none⟩), .pointer (some ⟨gc, 0, none⟩), .pointer (some ⟨gf, 0, none⟩), .pointer (some ⟨gO, 0, none⟩)] 27)) ds Fs ∧ ∀ i, i < 4 → (ds i).loose.length ≤ ss.length) := ⟨hQ, hlo⟩
        clear hQ hlo hgs e0 e1 e2 e3 k7' pc fc zc kl k8 pf ff zf kO pO fO zO hIm HLD kx k9 k8' kd k7 s0 s1 s2 hVI hVc swa KXA hMd kn bSr hlit
        go_wp2
        go_loopw [20] (fun vi wq => ∃ (kk : Nat) (ds : Nat → DS) (Fs : Nat → Foot), kk ≤ 4 ∧ vi = .int .i64 kk ∧ Hid (Q4 W wb.heap.size gs wq ds Fs ∧ ∀ i, i < 4 → kk ≤ i → (ds i).loose.length ≤ ss.length)) (fun vi _ => 4 - (intOf vi).toNat)
        case atStart => exact ⟨0, ds, Fs, Nat.zero_le _, rfl, HQ.out.1, fun i hi _ => HQ.out.2 i hi⟩
        case round =>
          clear HQ
          obtain ⟨kk, ds, Fs, hkk, rfl, hh2⟩ := hrel
          by_cases hk4 : kk < 4
          · have hk4' : (kk : Int) < 4 := by omega
            obtain ⟨wo, rfl⟩ : ∃ wo, wo = wr := ⟨_, rfl⟩
            obtain ⟨wz, hwz⟩ : ∃ wz, wz = (wo.alloc (.cells #[.slice none 0 0, .slice none 0 0, .slice none 0 0, .slice none 0 0, .slice none 0 0, .slice none 0 0, .slice none 0 0, .slice none 0 0, .slice none 0 0, .slice none 0 0, .slice none 0 0, .slice none 0 0, .slice none 0 0, .slice none 0 0, .slice none 0 0, .slice none 0 0, .slice none 0 0, .slice none 0 0, .slice none 0 0, .slice none 0 0] 73)).alloc (.cells #[.slice none 0 0, .slice none 0 0, .slice none 0 0, .slice none 0 0, .slice none 0 0, .slice none 0 0, .slice none 0 0, .slice none 0 0, .slice none 0 0, .slice none 0 0, .slice none 0 0, .slice none 0 0, .slice none 0 0, .slice none 0 0, .slice none 0 0, .slice none 0 0, .slice none 0 0, .slice none 0 0, .slice none 0 0, .slice none 0 0] 73) := ⟨_, rfl⟩
            have kz : Kept [] wo wz := by rw [hwz]; exact ((Kept.refl [] wo).alloc _).alloc _
            have bX0 : Blk wz wo.heap.size 73 (cells4 fun _ => ⟨.slice none 0 0, [], .slice none 0 0, .slice none 0 0, .slice none 0 0, .slice none 0 0⟩) := by rw [hwz]; exact (Blk.new wo _ _).kept ((Kept.refl [] _).alloc _) (by simp)
            have bY0 : Blk wz (wo.heap.size + 1) 73 (cells4 fun _ => ⟨.slice none 0 0, [], .slice none 0 0, .slice none 0 0, .slice none 0 0, .slice none 0 0⟩) := by
              rw [hwz]
              have := Blk.new (wo.alloc (.cells #[.slice none 0 0, .slice none 0 0, .slice none 0 0, .slice none 0 0, .slice none 0 0, .slice none 0 0, .slice none 0 0, .slice none 0 0, .slice none 0 0, .slice none 0 0, .slice none 0 0, .slice none 0 0, .slice none 0 0, .slice none 0 0, .slice none 0 0, .slice none 0 0, .slice none 0 0, .slice none 0 0, .slice none 0 0, .slice none 0 0] 73)) 73 [.slice none 0 0, .slice none 0 0, .slice none 0 0, .slice none 0 0, .slice none 0 0, .slice none 0 0, .slice none 0 0, .slice none 0 0, .slice none 0 0, .slice none 0 0, .slice none 0 0, .slice none 0 0, .slice none 0 0, .slice none 0 0, .slice none 0 0, .slice none 0 0, .slice none 0 0, .slice none 0 0, .slice none 0 0, .slice none 0 0]
              rwa [World.size_alloc] at this
            have X0 := @hideH _ (show X4 wo wz ds 0 _ _ from ⟨bX0, bY0, fun i hi => absurd hi (Nat.not_lt_zero i), kz⟩)
            have HWZ := @hideH _ hwz
            have HBL := @hideH _ hh2.out.1.farB.1
            clear kz bX0 bY0 hwz
            go_wp2
            rw [← HWZ.out]
            go_loopw [23] (fun vi wr => ∃ (t : Nat) (VX VY : Nat → IV), t ≤ 4 ∧ vi = .int .i64 t ∧ Hid (X4 wo wr ds t VX VY)) (fun vi _ => 4 - (intOf vi).toNat)
            case atStart => exact ⟨0, _, _, Nat.zero_le _, rfl, X0⟩
            case round =>
              clear X0
              obtain ⟨t, VX, VY, ht4, rfl, hX⟩ := hrel
              by_cases htl : t < 4
              · have htl' : (t : Int) < 4 := by omega
                have ht0 : (0 : Int) ≤ (t : Int) := by omega
                have wt := wrap_small4 htl
                have pT := (hh2.out.1.then hX.out.kept).disk t htl
                have rT := (hh2.out.1.then hX.out.kept).row t htl
                have hI := fun (x : World) (kx : Kept [] wr x) => fImage _ (ds t) (Fs t) x (pT.kept kx (by simp))
                have hL := fun (x : World) (kx : Kept [] wr x) => fLasts _ (ds t) (Fs t) x (pT.kept kx (by simp))
                have kx : Kept [] wr wr.drew := (Kept.refl [] wr).drew
                have nX : wb.heap.size ∉ [wo.heap.size] := fun hm => (by have := HBL.out; simp at hm; omega)
                have nY : wb.heap.size ∉ [wo.heap.size + 1] := fun hm => (by have := HBL.out; simp at hm; omega)
                have nXY : wo.heap.size + 1 ∉ [wo.heap.size] := (by simp)
                have sZ : wo.heap.size + 2 ≤ wr.heap.size := hX.out.bY.lt
                go_upto_region 28 with fail
                go_region_held3 (fun w' => w'.cell? ⟨wb.heap.size, t, none⟩ = some (.pointer (some ⟨gs t, 0, none⟩)))
                  (first | (with_reducible exact kx.cell rT (by simp)) | (with_reducible exact t1) | (with_reducible exact t2) | fail)
                  (first
                    | (go_at_call 19; refine (hI _ kx).mono ?_; rintro r w1 ⟨V1, rfl, hV1, k1⟩; have hV1' := hV1.mono sZ; replace kx := kx.then k1; obtain ⟨vpp, pvp, prp, lgp, map, mbp⟩ := V1; obtain ⟨x0p, z0p, x1p, z1p, x2p, z2p, x3p, z3p, x4p, z4p, e0p, e1p, e2p, e3p, e4p⟩ := hV1.shapes; simp only at e0p e1p e2p e3p e4p; subst e0p e1p e2p e3p e4p; unfold IV.agg; dsimp only)
                    | (go_at_call 17; refine (hL _ kx).mono ?_; rintro r w5 ⟨V2, rfl, hV2, k2⟩; have hV2' := hV2.mono (Nat.le_trans sZ kx.size); replace kx := kx.then k2; obtain ⟨vpr, pvr, prr, lgr, mar, mbr⟩ := V2; obtain ⟨x0r, z0r, x1r, z1r, x2r, z2r, x3r, z3r, x4r, z4r, e0r, e1r, e2r, e3r, e4r⟩ := hV2.shapes; simp only at e0r e1r e2r e3r e4r; subst e0r e1r e2r e3r e4r; unfold IV.agg; dsimp only; have bX := hX.out.bX.kept kx (by simp); have bY := hX.out.bY.kept kx (by simp); have x0 := bX.cell (j := t * 5) (cells4_at VX htl).1; have f0 := bX.free (t * 5); have x1 := bX.cell (j := t * 5 + 1) (cells4_at VX htl).2.1; have f1 := bX.free (t * 5 + 1); have x2 := bX.cell (j := t * 5 + 2) (cells4_at VX htl).2.2.1; have f2 := bX.free (t * 5 + 2); have x3 := bX.cell (j := t * 5 + 3) (cells4_at VX htl).2.2.2.1; have f3 := bX.free (t * 5 + 3); have x4 := bX.cell (j := t * 5 + 4) (cells4_at VX htl).2.2.2.2; have f4 := bX.free (t * 5 + 4); obtain ⟨sX, kX⟩ := bX.store5 (t * 5) ⟨.slice x0p pvp.length z0p, pvp, .slice x1p (ds t).image.pair.length z1p, .slice x2p (ds t).image.log.length z2p, .slice x3p (ds t).image.m0.length z3p, .slice x4p (ds t).image.m1.length z4p⟩; have t1 := kX.cell (kx.cell rT (by simp)) nX; have bY' := bY.kept kX nXY; have y0 := bY'.cell (j := t * 5) (cells4_at VY htl).1; have h0 := bY'.free (t * 5); have y1 := bY'.cell (j := t * 5 + 1) (cells4_at VY htl).2.1; have h1 := bY'.free (t * 5 + 1); have y2 := bY'.cell (j := t * 5 + 2) (cells4_at VY htl).2.2.1; have h2 := bY'.free (t * 5 + 2); have y3 := bY'.cell (j := t * 5 + 3) (cells4_at VY htl).2.2.2.1; have h3 := bY'.free (t * 5 + 3); have y4 := bY'.cell (j := t * 5 + 4) (cells4_at VY htl).2.2.2.2; have h4 := bY'.free (t * 5 + 4); obtain ⟨sY, kY⟩ := bY'.store5 (t * 5) ⟨.slice x0r pvr.length z0r, pvr, .slice x1r (ds t).lasts.pair.length z1r, .slice x2r (ds t).lasts.log.length z2r, .slice x3r (ds t).lasts.m0.length z3r, .slice x4r (ds t).lasts.m1.length z4r⟩; have t2 := kY.cell t1 nY)
                    | fail)
                have XN := @hideH _ ((hX.out.then kx).next (t := t) (V1 := ⟨.slice x0p pvp.length z0p, pvp, .slice x1p (ds t).image.pair.length z1p, .slice x2p (ds t).image.log.length z2p, .slice x3p (ds t).image.m0.length z3p, .slice x4p (ds t).image.m1.length z4p⟩) (V2 := ⟨.slice x0r pvr.length z0r, pvr, .slice x1r (ds t).lasts.pair.length z1r, .slice x2r (ds t).lasts.log.length z2r, .slice x3r (ds t).lasts.m0.length z3r, .slice x4r (ds t).lasts.m1.length z4r⟩) (hV1'.kept0 k2) hV2' kX kY (by rw [← cells4_upd VX htl]; exact sX) (by rw [← cells4_upd VY htl]; exact sY))
                obtain ⟨wz, hwz⟩ : ∃ wz, wz = (World.setCell (World.setCell (World.setCell (World.setCell (World.setCell (World.setCell (World.setCell (World.setCell (World.setCell (World.setCell w5 ⟨wo.heap.size, t * 5, none⟩ (.slice x0p pvp.length z0p)) ⟨wo.heap.size, t * 5 + 1, none⟩ (.slice x1p (ds t).image.pair.length z1p)) ⟨wo.heap.size, t * 5 + 2, none⟩ (.slice x2p (ds t).image.log.length z2p)) ⟨wo.heap.size, t * 5 + 3, none⟩ (.slice x3p (ds t).image.m0.length z3p)) ⟨wo.heap.size, t * 5 + 4, none⟩ (.slice x4p (ds t).image.m1.length z4p)) ⟨wo.heap.size + 1, t * 5, none⟩ (.slice x0r pvr.length z0r)) ⟨wo.heap.size + 1, t * 5 + 1, none⟩ (.slice x1r (ds t).lasts.pair.length z1r)) ⟨wo.heap.size + 1, t * 5 + 2, none⟩ (.slice x2r (ds t).lasts.log.length z2r)) ⟨wo.heap.size + 1, t * 5 + 3, none⟩ (.slice x3r (ds t).lasts.m0.length z3r)) ⟨wo.heap.size + 1, t * 5 + 4, none⟩ (.slice x4r (ds t).lasts.m1.length z4r)) := ⟨_, rfl⟩
                rw [← hwz]
                rw [← hwz] at XN
                clear hwz
                clear sX sY kX kY bX bY bY' t1 t2 hV1 hV1' hV2 hV2' k1 k2 kx hI hL pT rT hX nX nY nXY sZ x0 x1 x2 x3 x4 f0 f1 f2 f3 f4 y0 y1 y2 y3 y4 h0 h1 h2 h3 h4
                go_wp2
                go_roundw
                case rel => exact ⟨t + 1, _, _, by omega, by go_num, XN⟩
                case measure => simp [intOf]; omega
              · have htl' : ¬ (t : Int) < 4 := by omega
                obtain ⟨t9, ht9⟩ : ∃ t9, t9 = t := ⟨_, rfl⟩
                have hX : Hid (X4 wo wr ds 4 VX VY) := (show X4 wo wr ds 4 VX VY by have h := hX.out; rwa [show t = 4 by omega] at h)
                have q4 := hh2.out.1.then hX.out.kept
                have r0 := q4.row 0 (by omega)
                have hA0 := fun (x : World) (kx : Kept [] wr x) => fActs _ (ds 0) (Fs 0) x ((q4.disk 0 (by omega)).kept kx (by simp))
                have tk0 : True := trivial
                have r1 := q4.row 1 (by omega)
                have hA1 := fun (x : World) (kx : Kept [] wr x) => fActs _ (ds 1) (Fs 1) x ((q4.disk 1 (by omega)).kept kx (by simp))
                have tk1 : True := trivial
                have r2 := q4.row 2 (by omega)
                have hA2 := fun (x : World) (kx : Kept [] wr x) => fActs _ (ds 2) (Fs 2) x ((q4.disk 2 (by omega)).kept kx (by simp))
                have tk2 : True := trivial
                have r3 := q4.row 3 (by omega)
                have hA3 := fun (x : World) (kx : Kept [] wr x) => fActs _ (ds 3) (Fs 3) x ((q4.disk 3 (by omega)).kept kx (by simp))
                have tk3 : True := trivial
                have kx : Kept [] wr wr.drew := (Kept.refl [] wr).drew
                have HQ4 := @hideH _ q4
                have HLB : Hid (wb.heap.size < wr.heap.size) := q4.farB.1
                clear q4
                have HT1 := @hideH _ (fun (x : World) (o : Obj) (k : Kept [] wr x) => (show (x.alloc o).cell? ⟨wb.heap.size, 0, none⟩ = some (.pointer (some ⟨gs 0, 0, none⟩)) ∧ (x.alloc o).cell? ⟨wb.heap.size, 1, none⟩ = some (.pointer (some ⟨gs 1, 0, none⟩)) ∧ (x.alloc o).cell? ⟨wb.heap.size, 2, none⟩ = some (.pointer (some ⟨gs 2, 0, none⟩)) ∧ (x.alloc o).cell? ⟨wb.heap.size, 3, none⟩ = some (.pointer (some ⟨gs 3, 0, none⟩)) from ⟨(k.alloc o).cell r0 (by simp), (k.alloc o).cell r1 (by simp), (k.alloc o).cell r2 (by simp), (k.alloc o).cell r3 (by simp)⟩))
                have HT3 := @hideH _ (fun (o : Obj) => (show ((wr.alloc o).drew).cell? ⟨wb.heap.size, 0, none⟩ = some (.pointer (some ⟨gs 0, 0, none⟩)) ∧ ((wr.alloc o).drew).cell? ⟨wb.heap.size, 1, none⟩ = some (.pointer (some ⟨gs 1, 0, none⟩)) ∧ ((wr.alloc o).drew).cell? ⟨wb.heap.size, 2, none⟩ = some (.pointer (some ⟨gs 2, 0, none⟩)) ∧ ((wr.alloc o).drew).cell? ⟨wb.heap.size, 3, none⟩ = some (.pointer (some ⟨gs 3, 0, none⟩)) from ⟨(((Kept.refl [] wr).alloc o).drew).cell r0 (by simp), (((Kept.refl [] wr).alloc o).drew).cell r1 (by simp), (((Kept.refl [] wr).alloc o).drew).cell r2 (by simp), (((Kept.refl [] wr).alloc o).drew).cell r3 (by simp)⟩))
                have HT2 := @hideH _ (fun (x : World) (g : Nat) (v0 v1 v2 v3 : Value) (b : Blk x g 74 [v0, v1, v2, v3]) (hg : wr.heap.size ≤ g) (k : Kept [] wr x) => (show ((((x.setCell ⟨g, 0, none⟩ (.int .i64 (ds 0).acts)).setCell ⟨g, 1, none⟩ (.int .i64 (ds 1).acts)).setCell ⟨g, 2, none⟩ (.int .i64 (ds 2).acts)).setCell ⟨g, 3, none⟩ (.int .i64 (ds 3).acts)).cell? ⟨wb.heap.size, 0, none⟩ = some (.pointer (some ⟨gs 0, 0, none⟩)) ∧ ((((x.setCell ⟨g, 0, none⟩ (.int .i64 (ds 0).acts)).setCell ⟨g, 1, none⟩ (.int .i64 (ds 1).acts)).setCell ⟨g, 2, none⟩ (.int .i64 (ds 2).acts)).setCell ⟨g, 3, none⟩ (.int .i64 (ds 3).acts)).cell? ⟨wb.heap.size, 1, none⟩ = some (.pointer (some ⟨gs 1, 0, none⟩)) ∧ ((((x.setCell ⟨g, 0, none⟩ (.int .i64 (ds 0).acts)).setCell ⟨g, 1, none⟩ (.int .i64 (ds 1).acts)).setCell ⟨g, 2, none⟩ (.int .i64 (ds 2).acts)).setCell ⟨g, 3, none⟩ (.int .i64 (ds 3).acts)).cell? ⟨wb.heap.size, 2, none⟩ = some (.pointer (some ⟨gs 2, 0, none⟩)) ∧ ((((x.setCell ⟨g, 0, none⟩ (.int .i64 (ds 0).acts)).setCell ⟨g, 1, none⟩ (.int .i64 (ds 1).acts)).setCell ⟨g, 2, none⟩ (.int .i64 (ds 2).acts)).setCell ⟨g, 3, none⟩ (.int .i64 (ds 3).acts)).cell? ⟨wb.heap.size, 3, none⟩ = some (.pointer (some ⟨gs 3, 0, none⟩)) from by have h1 := HLB.out; have ne : wb.heap.size ∉ [g] := (fun hm => by simp at hm; omega); have kk := (b.four (.int .i64 (ds 0).acts) (.int .i64 (ds 1).acts) (.int .i64 (ds 2).acts) (.int .i64 (ds 3).acts)).2; exact ⟨kk.cell (k.cell r0 (by simp)) ne, kk.cell (k.cell r1 (by simp)) ne, kk.cell (k.cell r2 (by simp)) ne, kk.cell (k.cell r3 (by simp)) ne⟩))
                go_upto_region 29 with fail
                go_cut [24] (fun s wx => ∃ ga, s = .pointer (some ⟨ga, 0, none⟩) ∧ Hid (Z4 wo wx ga ds VX VY ∧ Kept [] wr wx))
                case first =>
                  go_region_held3 (fun w' => w'.cell? ⟨wb.heap.size, 0, none⟩ = some (.pointer (some ⟨gs 0, 0, none⟩)) ∧ w'.cell? ⟨wb.heap.size, 1, none⟩ = some (.pointer (some ⟨gs 1, 0, none⟩)) ∧ w'.cell? ⟨wb.heap.size, 2, none⟩ = some (.pointer (some ⟨gs 2, 0, none⟩)) ∧ w'.cell? ⟨wb.heap.size, 3, none⟩ = some (.pointer (some ⟨gs 3, 0, none⟩)))
                    (first | (with_reducible exact ⟨kx.cell r0 (by simp), kx.cell r1 (by simp), kx.cell r2 (by simp), kx.cell r3 (by simp)⟩) | (with_reducible exact HT1.out _ _ kx) | (with_reducible exact HT3.out _) | (with_reducible exact HT2.out _ _ _ _ _ _ bz hgz kx) | fail)
                    (first
                      | (go_at_call 26; clear tk0; refine (hA0 _ kx).mono ?_; rintro r wa0 ⟨rfl, kn⟩; replace kx := kx.then kn; try (replace bz := bz.kept kn (by simp)); clear kn)
                      | (go_at_call 26; clear tk0; have bz := (Blk.new wr 74 [.int .i64 0, .int .i64 0, .int .i64 0, .int .i64 0]).kept ((Kept.refl [] _).drew) (by simp); have hgz := Nat.le_refl wr.heap.size; replace kx := ((Kept.refl [] wr).alloc (.cells #[.int .i64 0, .int .i64 0, .int .i64 0, .int .i64 0] 74)).drew; refine (hA0 _ kx).mono ?_; rintro r wa0 ⟨rfl, kn⟩; replace kx := kx.then kn; replace bz := bz.kept kn (by simp); clear kn)
                      | (go_at_call 26; clear tk1; refine (hA1 _ kx).mono ?_; rintro r wa1 ⟨rfl, kn⟩; replace kx := kx.then kn; try (replace bz := bz.kept kn (by simp)); clear kn)
                      | (go_at_call 26; clear tk1; have bz := Blk.new wa0 74 [.int .i64 0, .int .i64 0, .int .i64 0, .int .i64 0]; have hgz := kx.size; replace kx := kx.alloc (.cells #[.int .i64 0, .int .i64 0, .int .i64 0, .int .i64 0] 74); refine (hA1 _ kx).mono ?_; rintro r wa1 ⟨rfl, kn⟩; replace kx := kx.then kn; replace bz := bz.kept kn (by simp); clear kn)
                      | (go_at_call 26; clear tk2; refine (hA2 _ kx).mono ?_; rintro r wa2 ⟨rfl, kn⟩; replace kx := kx.then kn; try (replace bz := bz.kept kn (by simp)); clear kn)
                      | (go_at_call 26; clear tk2; have bz := Blk.new wa1 74 [.int .i64 0, .int .i64 0, .int .i64 0, .int .i64 0]; have hgz := kx.size; replace kx := kx.alloc (.cells #[.int .i64 0, .int .i64 0, .int .i64 0, .int .i64 0] 74); refine (hA2 _ kx).mono ?_; rintro r wa2 ⟨rfl, kn⟩; replace kx := kx.then kn; replace bz := bz.kept kn (by simp); clear kn)
                      | (go_at_call 26; clear tk3; refine (hA3 _ kx).mono ?_; rintro r wa3 ⟨rfl, kn⟩; replace kx := kx.then kn; try (replace bz := bz.kept kn (by simp)); try (have z0 := bz.cell (j := 0) rfl; have fz0 := bz.free 0 ; have z1 := bz.cell (j := 1) rfl; have fz1 := bz.free 1 ; have z2 := bz.cell (j := 2) rfl; have fz2 := bz.free 2 ; have z3 := bz.cell (j := 3) rfl; have fz3 := bz.free 3); clear kn)
                      | (go_at_call 26; clear tk3; have bz := Blk.new wa2 74 [.int .i64 0, .int .i64 0, .int .i64 0, .int .i64 0]; have hgz := kx.size; replace kx := kx.alloc (.cells #[.int .i64 0, .int .i64 0, .int .i64 0, .int .i64 0] 74); refine (hA3 _ kx).mono ?_; rintro r wa3 ⟨rfl, kn⟩; replace kx := kx.then kn; replace bz := bz.kept kn (by simp); try (have z0 := bz.cell (j := 0) rfl; have fz0 := bz.free 0 ; have z1 := bz.cell (j := 1) rfl; have fz1 := bz.free 1 ; have z2 := bz.cell (j := 2) rfl; have fz2 := bz.free 2 ; have z3 := bz.cell (j := 3) rfl; have fz3 := bz.free 3); clear kn)
                      | fail)
                  all_goals first
                    | (have kS := (bz.four (.int .i64 (ds 0).acts) (.int .i64 (ds 1).acts) (.int .i64 (ds 2).acts) (.int .i64 (ds 3).acts)).2; have bF := (bz.four (.int .i64 (ds 0).acts) (.int .i64 (ds 1).acts) (.int .i64 (ds 2).acts) (.int .i64 (ds 3).acts)).1; have kF := kx.trans kS (fun x hx => .inr (by simp at hx; omega)); have ZF := @hideH _ (And.intro ((hX.out).acts kF bF hgz) kF))
                    | (have kF := kx.alloc (.cells #[.int .i64 (ds 0).acts, .int .i64 (ds 1).acts, .int .i64 (ds 2).acts, .int .i64 (ds 3).acts] 74); have bF := Blk.new wa3 74 [.int .i64 (ds 0).acts, .int .i64 (ds 1).acts, .int .i64 (ds 2).acts, .int .i64 (ds 3).acts]; have ZF := @hideH _ (And.intro ((hX.out).acts kF bF kx.size) kF))
                  all_goals
                    clear kF bF HT1 HT2 HT3 hA0 hA1 hA2 hA3
                    go_step
                    go_step
                    go_meet
                    exact ⟨_, rfl, ZF⟩
                case rest =>
                  obtain ⟨ga, rfl, hZ⟩ := hcut
                  obtain ⟨wx, rfl⟩ : ∃ wx, wx = wc := ⟨_, rfl⟩
                  have HZ := @hideH _ hZ.out.1
                  have T0 := @hideH _ (T4.start (HQ4.out.then hZ.out.2) (hh2.out.2 kk hk4 (Nat.le_refl _)))
                  have HFO : Hid (∀ x ∈ (Fs kk).own, x < wo.heap.size) := (show ∀ x ∈ (Fs kk).own, x < wo.heap.size from fun x hx => hh2.out.1.lt hk4 x (Foot.inOwn hx))
                  have HLO := @hideH _ hh2.out.2
                  clear HT1 HT2 HT3 kx r0 r1 r2 r3 hA0 hA1 hA2 hA3 hX hh2 HQ4 tk0 tk1 tk2 tk3 hZ
                  go_wp2
                  go_loopw [25] (fun vi wq => ∃ (j : Nat) (d' : DS) (F' : Foot), j ≤ ms.length ∧ vi = .int .i64 j ∧ Hid (T4 W wb.heap.size gs wx wq ds Fs kk (ss.length + j) d' F')) (fun vi _ => ms.length - (intOf vi).toNat)
                  case atStart => exact ⟨0, _, _, Nat.zero_le _, rfl, T0⟩
                  case round =>
                    clear T0
                    obtain ⟨j, dj, Fj, hj, rfl, hT⟩ := hrel
                    by_cases hjl : j < ms.length
                    · have hjl' : (j : Int) < (ms.length : Int) := by omega
                      have hj0 : (0 : Int) ≤ (j : Int) := by omega
                      have hkk0 : (0 : Int) ≤ (kk : Int) := by omega
                      obtain ⟨s, hs⟩ : ∃ s, ms[j]? = some s := ⟨_, List.getElem?_eq_getElem hjl⟩
                      obtain ⟨sb, so, sc, es, c0, c1, c2, c3, c4, c5, c6, bb, bk, nn⟩ := HS0.out.2.at hs
                      cases es
                      obtain ⟨kind, which, n, mm, ub, bts, cl, vk, keep⟩ := s
                      simp only at c0 c1 c2 c3 c4 c5 c6 bb bk nn
                      have NN := @hideH _ nn
                      have BB := @hideH _ (And.intro bb bk)
                      obtain ⟨pb, cb, rfl, -⟩ := id bb
                      obtain ⟨pk, ck, rfl, -⟩ := id bk
                      have wj := wrap_next (s := ss.length) HLEN.out (show j ≤ ss.length + ms.length by omega)
                      have e0 := hT.out.q.kept.cell c0 (by simp)
                      clear bb bk nn hs
                      by_cases h12 : kind = 12
                      · subst h12
                        have e2 := hT.out.q.kept.cell c2 (by simp)
                        have rk0 := hT.out.row hk4
                        have kx : Kept [] wr wr.drew := (Kept.refl [] wr).drew
                        have hSt := @hideH _ (fStop _ dj Fj n wr.drew ((hT.out.disk hk4).1.kept kx (by simp)) NN.out)
                        go_upto_region 34 with fail
                        go_region_held3 (fun w' => w'.cell? ⟨wb.heap.size, kk, none⟩ = some (.pointer (some ⟨gs kk, 0, none⟩)) ∧ w'.cell? ⟨sb, so + j * 7 + 2, none⟩ = some (.int .i64 n))
                          (first | (with_reducible exact ⟨kx.cell rk0 (by simp), kx.cell e2 (by simp)⟩) | (with_reducible exact tI) | fail)
                          (first
                            | (go_at_call 23; refine hSt.out.mono ?_; rintro r w5 ⟨F1, ⟨rr, rfl⟩, p5, x5⟩; have T5 := @hideH _ ((hT.out.then kx).step hk4 p5 x5 (n' := ss.length + j) (by rw [halts_loose]; exact hT.out.lo)); have tI := And.intro (T5.out.row hk4) (T5.out.q.kept.cell c2 (by simp)))
                            | fail)
                        obtain ⟨dh, hdh⟩ : ∃ dh, dh = dj.halts n := ⟨_, rfl⟩
                        rw [← hdh] at T5
                        clear p5 x5 tI kx rk0 e2 hSt e0 hT hdh
                        obtain ⟨pD, lowD⟩ := T5.out.disk hk4
                        have hfar : bts ≠ [] → ∀ x, (Value.slice pb bts.length cb).ownBlock = some x → x ∉ F1.own := fun h0 x hx hm => by have := BB.out.1.far h0 x hx; have := lowD x hm; omega
                        have kv := T5.out.q.kept
                        have rk := T5.out.row hk4
                        have d0 := kv.cell c0 (by simp)
                        have d1 := kv.cell c1 (by simp)
                        have d2 := kv.cell c2 (by simp)
                        have d3 := kv.cell c3 (by simp)
                        have d4 := kv.cell c4 (by simp)
                        have d5 := kv.cell c5 (by simp)
                        have d6 := kv.cell c6 (by simp)
                        have kx : Kept [] w5 w5.drew := (Kept.refl [] w5).drew
                        have hA := asked_any (.pointer (some ⟨gs kk, 0, none⟩)) (.slice pb bts.length cb) (.slice pk keep.length ck) dh F1 which n mm cl bts keep w5.drew (pD.kept kx (by simp)) ((BB.out.1.kept kv).kept kx) ((BB.out.2.kept kv).kept kx) hfar (cap40 HLEN.out (by have := T5.out.lo; omega)) 12
                        have haL := aD_loose dh 12 n mm bts
                        have HA := @hideH _ hA
                        have HAL := @hideH _ haL
                        clear hA haL pD lowD hfar kv
                        go_upto_region 35 with fail
                        go_region_held3 (fun w' => w'.cell? ⟨wb.heap.size, kk, none⟩ = some (.pointer (some ⟨gs kk, 0, none⟩)) ∧ w'.cell? ⟨sb, so + j * 7, none⟩ = some (.int .i64 12) ∧ w'.cell? ⟨sb, so + j * 7 + 1, none⟩ = some (.int .i64 which) ∧ w'.cell? ⟨sb, so + j * 7 + 2, none⟩ = some (.int .i64 n) ∧ w'.cell? ⟨sb, so + j * 7 + 3, none⟩ = some (.int .i64 mm) ∧ w'.cell? ⟨sb, so + j * 7 + 4, none⟩ = some (.slice pb bts.length cb) ∧ w'.cell? ⟨sb, so + j * 7 + 5, none⟩ = some (.int .i64 cl) ∧ w'.cell? ⟨sb, so + j * 7 + 6, none⟩ = some (.slice pk keep.length ck))
                          (first | (with_reducible exact ⟨kx.cell rk (by simp), kx.cell d0 (by simp), kx.cell d1 (by simp), kx.cell d2 (by simp), kx.cell d3 (by simp), kx.cell d4 (by simp), kx.cell d5 (by simp), kx.cell d6 (by simp)⟩) | (with_reducible exact tI) | fail)
                          (first
                            | (go_at_call 24; refine HA.out.mono ?_; rintro r w6 ⟨cv, lv, F2, rfl, p6, x6⟩; have T6 := @hideH _ ((T5.out.then kx).step hk4 p6 x6 (n' := ss.length + (j + 1)) (by have := HAL.out; have := T5.out.lo; omega)); have k6 := T6.out.q.kept; have tI := And.intro (T6.out.row hk4) (And.intro (k6.cell c0 (by simp)) (And.intro (k6.cell c1 (by simp)) (And.intro (k6.cell c2 (by simp)) (And.intro (k6.cell c3 (by simp)) (And.intro (k6.cell c4 (by simp)) (And.intro (k6.cell c5 (by simp)) (k6.cell c6 (by simp)))))))))
                            | fail)
                        clear p6 x6 k6 tI kx rk d0 d1 d2 d3 d4 d5 d6 c0 c1 c2 c3 c4 c5 c6 HA HAL
                        go_wp2
                        go_roundw
                        case rel => exact ⟨j + 1, _, F2, by omega, by go_num, T6⟩
                        case measure => simp [intOf]; omega
                      · have h12' : ¬ kind = 12 := h12
                        have h12b : (kind == 12) = false := by simpa using h12
                        obtain ⟨pD, lowD⟩ := hT.out.disk hk4
                        have hfar : bts ≠ [] → ∀ x, (Value.slice pb bts.length cb).ownBlock = some x → x ∉ Fj.own := fun h0 x hx hm => by have := BB.out.1.far h0 x hx; have := lowD x hm; omega
                        have kv := hT.out.q.kept
                        have rk := hT.out.row hk4
                        have d0 := kv.cell c0 (by simp)
                        have d1 := kv.cell c1 (by simp)
                        have d2 := kv.cell c2 (by simp)
                        have d3 := kv.cell c3 (by simp)
                        have d4 := kv.cell c4 (by simp)
                        have d5 := kv.cell c5 (by simp)
                        have d6 := kv.cell c6 (by simp)
                        have kx : Kept [] wr wr.drew := (Kept.refl [] wr).drew
                        have hA := asked_any (.pointer (some ⟨gs kk, 0, none⟩)) (.slice pb bts.length cb) (.slice pk keep.length ck) dj Fj which n mm cl bts keep wr.drew (pD.kept kx (by simp)) ((BB.out.1.kept kv).kept kx) ((BB.out.2.kept kv).kept kx) hfar (cap40 HLEN.out (by have := hT.out.lo; omega)) kind
                        have haL := aD_loose dj kind n mm bts
                        have HA := @hideH _ hA
                        have HAL := @hideH _ haL
                        clear hA haL pD lowD hfar kv
                        go_upto_region 35 with fail
                        go_region_held3 (fun w' => w'.cell? ⟨wb.heap.size, kk, none⟩ = some (.pointer (some ⟨gs kk, 0, none⟩)) ∧ w'.cell? ⟨sb, so + j * 7, none⟩ = some (.int .i64 kind) ∧ w'.cell? ⟨sb, so + j * 7 + 1, none⟩ = some (.int .i64 which) ∧ w'.cell? ⟨sb, so + j * 7 + 2, none⟩ = some (.int .i64 n) ∧ w'.cell? ⟨sb, so + j * 7 + 3, none⟩ = some (.int .i64 mm) ∧ w'.cell? ⟨sb, so + j * 7 + 4, none⟩ = some (.slice pb bts.length cb) ∧ w'.cell? ⟨sb, so + j * 7 + 5, none⟩ = some (.int .i64 cl) ∧ w'.cell? ⟨sb, so + j * 7 + 6, none⟩ = some (.slice pk keep.length ck))
                          (first | (with_reducible exact ⟨kx.cell rk (by simp), kx.cell d0 (by simp), kx.cell d1 (by simp), kx.cell d2 (by simp), kx.cell d3 (by simp), kx.cell d4 (by simp), kx.cell d5 (by simp), kx.cell d6 (by simp)⟩) | (with_reducible exact tI) | fail)
                          (first
                            | (go_at_call 24; refine HA.out.mono ?_; rintro r w6 ⟨cv, lv, F2, rfl, p6, x6⟩; have T6 := @hideH _ ((hT.out.then kx).step hk4 p6 x6 (n' := ss.length + (j + 1)) (by have := HAL.out; have := hT.out.lo; omega)); have k6 := T6.out.q.kept; have tI := And.intro (T6.out.row hk4) (And.intro (k6.cell c0 (by simp)) (And.intro (k6.cell c1 (by simp)) (And.intro (k6.cell c2 (by simp)) (And.intro (k6.cell c3 (by simp)) (And.intro (k6.cell c4 (by simp)) (And.intro (k6.cell c5 (by simp)) (k6.cell c6 (by simp)))))))))
                            | fail)
                        clear p6 x6 k6 tI kx rk d0 d1 d2 d3 d4 d5 d6 c0 c1 c2 c3 c4 c5 c6 HA HAL
                        go_wp2
                        go_roundw
                        case rel => exact ⟨j + 1, _, F2, by omega, by go_num, T6⟩
                        case measure => simp [intOf]; omega
                    · obtain rfl : j = ms.length := by omega
                      obtain ⟨wy, rfl⟩ : ∃ wy, wy = wr := ⟨_, rfl⟩
                      have ZY := @hideH _ (HZ.out.then hT.out.nx.1 HFO.out)
                      clear HZ
                      go_wp2
                      go_loopw [26] (fun vi wq => ∃ (t : Nat), t ≤ 4 ∧ vi = .int .i64 t ∧ Hid (Kept [] wy wq)) (fun vi _ => 4 - (intOf vi).toNat)
                      case atStart => exact ⟨0, Nat.zero_le _, rfl, Kept.refl _ _⟩
                      case round =>
                        obtain ⟨t, ht4, rfl, hK⟩ := hrel
                        by_cases htl : t < 4
                        · by_cases hne : t = kk
                          · subst hne
                            go_upto_region 39 with fail
                            first | go_quiet (fail) | go_region
                            have HK2 := @hideH _ (fun (q : Nat) => hK.out.drewN' q)
                            go_wp2
                            go_roundw
                            case rel => exact ⟨t + 1, by omega, by go_num, HK2.out _⟩
                            case measure => simp [intOf]; omega
                          · have hne2 : ¬ (t : Int) = (kk : Int) := by omega
                            have hnq3 : ((t : Int) != (kk : Int)) = true := by simpa [bne] using hne2
                            have htl' : (t : Int) < 4 := by omega
                            have ht0 : (0 : Int) ≤ (t : Int) := by omega
                            have wt := wrap_small4 htl
                            have T9 := hT.out.then hK.out
                            have Z9 := ZY.out.then hK.out (by simp)
                            have rT := T9.row (i := t) htl
                            have pT := T9.other (i := t) htl hne
                            have x0 := Z9.bX.cell (j := t * 5) (cells4_at VX htl).1
                            have y0 := Z9.bY.cell (j := t * 5) (cells4_at VY htl).1
                            have x1 := Z9.bX.cell (j := t * 5 + 1) (cells4_at VX htl).2.1
                            have y1 := Z9.bY.cell (j := t * 5 + 1) (cells4_at VY htl).2.1
                            have x2 := Z9.bX.cell (j := t * 5 + 2) (cells4_at VX htl).2.2.1
                            have y2 := Z9.bY.cell (j := t * 5 + 2) (cells4_at VY htl).2.2.1
                            have x3 := Z9.bX.cell (j := t * 5 + 3) (cells4_at VX htl).2.2.2.1
                            have y3 := Z9.bY.cell (j := t * 5 + 3) (cells4_at VY htl).2.2.2.1
                            have x4 := Z9.bX.cell (j := t * 5 + 4) (cells4_at VX htl).2.2.2.2
                            have y4 := Z9.bY.cell (j := t * 5 + 4) (cells4_at VY htl).2.2.2.2
                            have a0 := Z9.bA.cell (j := t) (acts4_at ds htl)
                            have hI := @hideH _ (fun (x : World) (kx : Kept [] wr x) => fImage _ (ds t) (Fs t) x (pT.kept kx (by simp)))
                            have hL := @hideH _ (fun (x : World) (kx : Kept [] wr x) => fLasts _ (ds t) (Fs t) x (pT.kept kx (by simp)))
                            have hAc := @hideH _ (fun (x : World) (kx : Kept [] wr x) => fActs _ (ds t) (Fs t) x (pT.kept kx (by simp)))
                            have HIM := @hideH _ (Z9.im t htl)
                            have kx : Kept [] wr wr.drew := (Kept.refl [] wr).drew
                            have tk1 : True := trivial
                            clear T9 Z9 pT
                            go_upto_region 39 with fail
                            go_region_held3 (fun w' => w'.cell? ⟨wb.heap.size, t, none⟩ = some (.pointer (some ⟨gs t, 0, none⟩)) ∧ w'.cell? ⟨wo.heap.size, t * 5, none⟩ = some (VX t).vp ∧ w'.cell? ⟨wo.heap.size, t * 5 + 1, none⟩ = some (VX t).pair ∧ w'.cell? ⟨wo.heap.size, t * 5 + 2, none⟩ = some (VX t).log ∧ w'.cell? ⟨wo.heap.size, t * 5 + 3, none⟩ = some (VX t).m0 ∧ w'.cell? ⟨wo.heap.size, t * 5 + 4, none⟩ = some (VX t).m1 ∧ w'.cell? ⟨wo.heap.size + 1, t * 5, none⟩ = some (VY t).vp ∧ w'.cell? ⟨wo.heap.size + 1, t * 5 + 1, none⟩ = some (VY t).pair ∧ w'.cell? ⟨wo.heap.size + 1, t * 5 + 2, none⟩ = some (VY t).log ∧ w'.cell? ⟨wo.heap.size + 1, t * 5 + 3, none⟩ = some (VY t).m0 ∧ w'.cell? ⟨wo.heap.size + 1, t * 5 + 4, none⟩ = some (VY t).m1 ∧ w'.cell? ⟨ga, t, none⟩ = some (.int .i64 (ds t).acts))
                              (first | (with_reducible exact ⟨kx.cell rT (by simp), kx.cell x0 (by simp), kx.cell x1 (by simp), kx.cell x2 (by simp), kx.cell x3 (by simp), kx.cell x4 (by simp), kx.cell y0 (by simp), kx.cell y1 (by simp), kx.cell y2 (by simp), kx.cell y3 (by simp), kx.cell y4 (by simp), kx.cell a0 (by simp)⟩) | fail)
                              (first
                                | (go_at_call 19; refine (hI.out _ kx).mono ?_; rintro r wi ⟨VQ, rfl, hVQ, kn⟩; replace kx := kx.then kn; clear kn)
                                | (go_at_call 17; refine (hL.out _ kx).mono ?_; rintro r wl ⟨VR, rfl, hVR, kn⟩; replace kx := kx.then kn; clear kn)
                                | (go_at_call 21; clear tk1; refine (sameImages_eq VQ (VX t) (ds t).image _ (by exact hVQ.see) (by exact (HIM.out.1.see).kept kx)).mono ?_; rintro r ws ⟨rfl, kn⟩; replace kx := kx.then kn; clear kn)
                                | (go_at_call 21; refine (sameImages_eq VR (VY t) (ds t).lasts _ (by exact hVR.see) (by exact (HIM.out.2.see).kept kx)).mono ?_; rintro r wt9 ⟨rfl, kn⟩; replace kx := kx.then kn; clear kn)
                                | (go_at_call 26; refine (hAc.out _ kx).mono ?_; rintro r wu ⟨rfl, kn⟩; replace kx := kx.then kn; clear kn)
                                | fail)
                            have HK2 := @hideH _ (hK.out.then kx)
                            clear kx rT a0 x0 y0 x1 y1 x2 y2 x3 y3 x4 y4 hI hL hAc HIM
                            go_wp2
                            go_roundw
                            case rel => exact ⟨t + 1, by omega, by go_num, HK2⟩
                            case measure => simp [intOf]; omega
                        · obtain rfl : t = 4 := by omega
                          have TN := @hideH _ (And.intro (hT.out.then hK.out).q (hT.out.loose HLO.out))
                          have wkk : IntKind.i64.wrap ((kk : Int) + 1) = (kk : Int) + 1 := wrap_small4 hk4
                          clear ZY hT hK
                          go_wp2
                          go_roundw
                          case rel => exact ⟨kk + 1, _, _, by omega, by go_num, TN⟩
                          case measure => simp [intOf]; omega
          · have hk4' : ¬ (kk : Int) < 4 := by omega
            have FIN := @hideH _ hh2.out.1.kept
            clear hh2
            go_wp2
            go_ret
            exact ⟨rfl, FIN.out⟩
end Go.Proofs.Ytmipmiaflompmaa

