import Derived.Test.YtmipmiaflompmabC7
/-
  OWN WORK. DiskKeeps, the walk.
-/
namespace Go.Proofs.Ytmipmiaflompmab
open Go.RowKit
set_option linter.unusedVariables false
set_option linter.unusedSimpArgs false

set_option maxRecDepth 100000 in
set_option maxHeartbeats 25600000 in
theorem diskKeeps_walk (a b c : Int) (Vv : IV) (m : IM) (vs : Value) (ss : List OpR) (W : World) (hV : SeeIm W Vv m) (hpc : (m.ps.length + 4) * 24 ≤ 140737488355328) (hcs : ∀ l ∈ m.ps ++ [m.pair, m.log, m.m0, m.m1], l.length + 300 ≤ 140737488355328) (hS : Ops W vs ss) (hlen : ss.length + 8 ≤ 3300000000000) (hob : ∀ s ∈ ss, s.b.length + 300 ≤ 140737488355328 ∧ (s.keep.length + 3) * 8 ≤ 140737488355328) :
    Calls Try.prog 3 #[.agg #[.int .i64 a, .int .i64 b, .int .i64 c], Vv.agg, vs] W fun r W' => r = .returned (.bool true) ∧ Kept [] W W' := by
  obtain ⟨xv0, yv0, ev0, -⟩ := hV.vp
  obtain ⟨xv1, yv1, ev1, -⟩ := hV.pair
  obtain ⟨xv2, yv2, ev2, -⟩ := hV.log
  obtain ⟨xv3, yv3, ev3, -⟩ := hV.m0
  obtain ⟨xv4, yv4, ev4, -⟩ := hV.m1
  rw [hV.len] at ev0
  have hVl := hV.len
  have hVa : Vv.agg = .agg #[.slice xv0 m.ps.length yv0, .slice xv1 m.pair.length yv1, .slice xv2 m.log.length yv2, .slice xv3 m.m0.length yv3, .slice xv4 m.m1.length yv4] := by unfold IV.agg; rw [ev0, ev1, ev2, ev3, ev4]
  rw [hVa]
  obtain ⟨ps, cs, rfl, -, hcs2, -⟩ := id hS
  obtain ⟨w2, hw2⟩ : ∃ w2, w2 = (W.alloc (.cells #[.int .i64 a, .int .i64 b, .int .i64 c] 23)).alloc (.cells #[.slice xv0 m.ps.length yv0, .slice xv1 m.pair.length yv1, .slice xv2 m.log.length yv2, .slice xv3 m.m0.length yv3, .slice xv4 m.m1.length yv4] 28) := ⟨_, rfl⟩
  have k2 : Kept [] W w2 := by rw [hw2]; exact ((Kept.refl [] W).alloc _).alloc _
  have bS : Blk w2 W.heap.size 23 [.int .i64 a, .int .i64 b, .int .i64 c] := by rw [hw2]; exact (Blk.new W _ _).kept ((Kept.refl [] _).alloc _) (by simp)
  have bI : Blk w2 (W.heap.size + 1) 28 [.slice xv0 m.ps.length yv0, .slice xv1 m.pair.length yv1, .slice xv2 m.log.length yv2, .slice xv3 m.m0.length yv3, .slice xv4 m.m1.length yv4] := by
    rw [hw2]
    have := Blk.new (W.alloc (.cells #[.int .i64 a, .int .i64 b, .int .i64 c] 23)) 28 [.slice xv0 m.ps.length yv0, .slice xv1 m.pair.length yv1, .slice xv2 m.log.length yv2, .slice xv3 m.m0.length yv3, .slice xv4 m.m1.length yv4]
    rwa [World.size_alloc] at this
  have HV0 := @hideH _ hV
  have HVA := @hideH _ hVa
  have HS0 := @hideH _ hS
  have HLEN := @hideH _ hlen
  have HOB := @hideH _ hob
  have HPC := @hideH _ hpc
  have HCS := @hideH _ hcs
  have HVL := @hideH _ hVl
  have K2 := @hideH _ k2
  have HSB := @hideH _ (And.intro bS bI)
  have HW2 := @hideH _ hw2
  clear hV hVa hS hlen hob hpc hcs hVl k2 bS bI hw2 hcs2 ev0 ev1 ev2 ev3 ev4
  go_enter Try.func3, Try.ntmps3
  go_wp2_with fail
  rw [← HW2.out]
  refine (head_any w2).mono ?_
  rintro r w3 ⟨rfl, k3⟩
  obtain ⟨⟨j0, j1, j2, j3, j4⟩, -⟩ := (HSB.out.2.kept k3 (by simp)).five
  have hLI := lentImage_any Vv m w3 ((HV0.out.kept K2.out).kept k3) (by rw [HVL.out]; exact HPC.out) (HCS.out _ (by simp)) (HCS.out _ (by simp)) (HCS.out _ (by simp)) (HCS.out _ (by simp)) (fun l hl => HCS.out l (List.mem_append_left _ hl))
  rw [HVA.out] at hLI
  go_wp2_with fail
  refine hLI.mono ?_
  clear hLI
  rintro r w4 ⟨Uu, us, rfl, hU, k4⟩
  obtain ⟨xu0, yu0, eu0, -⟩ := hU.see.vp
  obtain ⟨xu1, yu1, eu1, -⟩ := hU.see.pair
  obtain ⟨xu2, yu2, eu2, -⟩ := hU.see.log
  obtain ⟨xu3, yu3, eu3, -⟩ := hU.see.m0
  obtain ⟨xu4, yu4, eu4, -⟩ := hU.see.m1
  rw [hU.len] at eu0
  have hUa : Uu.agg = .agg #[.slice xu0 m.ps.length yu0, .slice xu1 m.pair.length yu1, .slice xu2 m.log.length yu2, .slice xu3 m.m0.length yu3, .slice xu4 m.m1.length yu4] := by unfold IV.agg; rw [eu0, eu1, eu2, eu3, eu4]
  rw [hUa]
  have HUA := @hideH _ hUa
  have HU := @hideH _ hU
  have K4 := @hideH _ (k3.then k4)
  have HKS := @hideH _ k4.size
  have HKS3 := @hideH _ k3.size
  have HK34 := @hideH _ k4
  have HK23 := @hideH _ k3
  clear hUa hU k3 k4 j0 j1 j2 j3 j4 eu0 eu1 eu2 eu3 eu4
  go_upto_region 4 with fail
  obtain ⟨w5, hw5⟩ : ∃ w5, w5 = w4.alloc (.cells #[.slice xu0 m.ps.length yu0, .slice xu1 m.pair.length yu1, .slice xu2 m.log.length yu2, .slice xu3 m.m0.length yu3, .slice xu4 m.m1.length yu4] 28) := ⟨_, rfl⟩
  have k5 : Kept [] w4 w5 := by rw [hw5]; exact (Kept.refl [] w4).alloc _
  have bN : Blk w5 w4.heap.size 28 [.slice xu0 m.ps.length yu0, .slice xu1 m.pair.length yu1, .slice xu2 m.log.length yu2, .slice xu3 m.m0.length yu3, .slice xu4 m.m1.length yu4] := by rw [hw5]; exact Blk.new w4 _ _
  rw [← hw5]
  clear hw5
  have k25 : Kept [] w2 w5 := K4.out.then k5
  have HK35 := @hideH _ (HK34.out.then k5)
  obtain ⟨⟨n0, n1, n2, n3, n4⟩, -⟩ := bN.five
  have i0 := (HSB.out.1.kept k25 (by simp)).cell (j := 0) rfl
  have i1 := (HSB.out.1.kept k25 (by simp)).cell (j := 1) rfl
  have i2 := (HSB.out.1.kept k25 (by simp)).cell (j := 2) rfl
  have hU5 := HU.out.then k5
  have hLd := fLoad a b c Uu m w5 hU5.see (by rw [hU5.len]; have := HPC.out; omega)
  rw [HUA.out] at hLd
  have HBN := @hideH _ bN
  have HU5 := @hideH _ hU5
  have K25 := @hideH _ k25
  clear bN hU5 k25 k5
  go_wp2_with fail
  refine hLd.mono ?_
  clear hLd
  rintro r w6 ⟨ud, rfl, hMd⟩
  have k6 : Kept [] w5 w6 := by rcases hMd with ⟨-, F, -, -, k, -⟩ | ⟨-, -, k⟩ <;> exact k
  replace i0 := k6.cell i0 (by simp)
  replace i1 := k6.cell i1 (by simp)
  replace i2 := k6.cell i2 (by simp)
  obtain ⟨⟨j0, j1, j2, j3, j4⟩, -⟩ := (HSB.out.2.kept (K25.out.then k6) (by simp)).five
  have sV6 := ((HV0.out.kept K2.out).kept K25.out).kept k6
  have hRd := qLoad a b c Vv m w6 sV6
  rw [HVA.out] at hRd
  obtain ⟨E0, hE0⟩ : ∃ E0, E0 = loadE a b c m := ⟨_, rfl⟩
  rw [← hE0] at hRd hMd
  simp only [← hE0]
  have HMd := @hideH _ hMd
  have HE0 := @hideH _ hE0
  have HSV6 := @hideH _ sV6
  have K6 := @hideH _ k6
  clear n0 n1 n2 n3 n4 hMd hE0 sV6 k6
  go_wp2_with fail
  refine hRd.mono ?_
  clear hRd
  rintro r w7 ⟨ur, rfl, hRm⟩
  have k7 : Kept [] w6 w7 := by rcases hRm with ⟨-, F, -, -, k⟩ | ⟨-, -, k⟩ <;> exact k
  obtain ⟨⟨n0, n1, n2, n3, n4⟩, -⟩ := (HBN.out.kept (K6.out.then k7) (by simp)).five
  replace j0 := k7.cell j0 (by simp)
  replace j1 := k7.cell j1 (by simp)
  replace j2 := k7.cell j2 (by simp)
  replace j3 := k7.cell j3 (by simp)
  replace j4 := k7.cell j4 (by simp)
  have hIn := intact_any Uu Vv m us w3.heap.size w7 ((HU5.out.then K6.out).then k7) (HSV6.out.kept k7) HPC.out HCS.out
  rw [HUA.out, HVA.out] at hIn
  have hee : (E0 != E0) = false := by simp
  have HRm := @hideH _ hRm
  have K7 := @hideH _ k7
  clear hRm k7 i0 i1 i2
  go_wp2_with fail
  refine hIn.mono ?_
  clear hIn
  rintro r w8 ⟨rfl, k8⟩
  replace n0 := k8.cell n0 (by simp)
  replace n1 := k8.cell n1 (by simp)
  replace n2 := k8.cell n2 (by simp)
  replace n3 := k8.cell n3 (by simp)
  replace n4 := k8.cell n4 (by simp)
  have hU8 := ((HU5.out.then K6.out).then K7.out).then k8
  have k38 := ((K4.out.then (Kept.refl [] w4)).size)
  have hOv := over_any Uu m us w3.heap.size w8 hU8.see (by rw [hU8.len]; exact HPC.out) hU8.any.1 hU8.any.2 (by have e1 := K6.out.size; have e2 := K7.out.size; have e3 := k8.size; have e4 := HBN.out.lt; have e5 := HKS.out; omega)
  rw [HUA.out] at hOv
  have HU8 := @hideH _ hU8
  have K8 := @hideH _ k8
  clear hU8 k8 k38 j0 j1 j2 j3 j4
  go_wp2_with fail
  refine hOv.mono ?_
  clear hOv
  rintro r w9 ⟨⟨rr, rfl⟩, k9, hFA⟩
  have hult : ∀ x ∈ blocks us, w3.heap.size ≤ x ∧ x < w5.heap.size := fun x hx => by
    obtain ⟨v, hv, hx'⟩ := mem_blocks_iff.1 hx
    obtain ⟨i, hi⟩ := List.getElem?_of_mem hv
    exact HU5.out.fam.lt i v x hi hx'
  have O1 := One1.of HMd.out HRm.out rfl ((K8.out.mono (by simp)).trans k9 (fun x hx => .inl hx)) (fun x hx => (hult x hx).2)
  have KW9 : Kept [] W w9 := ((((K2.out.then K25.out).then K6.out).then K7.out).then K8.out).trans k9 (fun x hx => .inr (by have e1 := (hult x hx).1; have e2 := K2.out.size; have e3 := HKS3.out; omega))
  have K39 : Kept [] w3 w9 := (((HK35.out.then K6.out).then K7.out).then K8.out).trans k9 (fun x hx => .inr (hult x hx).1)
  have bS9 := (HSB.out.1.kept HK23.out (by simp)).kept K39 (by simp)
  obtain ⟨i0, i1, i2⟩ : w9.cell? ⟨W.heap.size, 0, none⟩ = some (.int .i64 a) ∧ w9.cell? ⟨W.heap.size, 1, none⟩ = some (.int .i64 b) ∧ w9.cell? ⟨W.heap.size, 2, none⟩ = some (.int .i64 c) := ⟨bS9.cell (j := 0) rfl, bS9.cell (j := 1) rfl, bS9.cell (j := 2) rfl⟩
  have HO1 := @hideH _ (O1.mono (b' := w3.heap.size) (by have e1 := HK35.out.size; exact e1))
  have HK9 := @hideH _ K39
  have HKW := @hideH _ KW9
  clear O1 KW9 K39 bS9 hult k9 hFA n0 n1 n2 n3 n4 HU5 HU8 HMd HRm
  go_upto_if 51 with fail
  go_cut [8, 9, 10, 11] (fun s8 s9 s10 s11 wx => ∃ (ud ur : Value) (d : DS) (E : Int), s8 = ud ∧ s9 = .int .i64 E ∧ s10 = ur ∧ s11 = .int .i64 E ∧ Hid (One1 w3.heap.size wx ud ur d E ∧ Kept [] w3 wx))
  case first =>
    by_cases hE : E0 = 0
    · subst hE
      go_wp2
      go_meet
      case rel => exact ⟨_, _, _, 0, rfl, rfl, rfl, rfl, HO1.out, HK9.out⟩
    · have hEb : (E0 != 0) = true := by simpa [bne] using hE
      have hNw := fNew a b c w9
      go_wp2_with fail
      refine hNw.mono ?_
      clear hNw
      rintro r wn ⟨un, rfl, hMn⟩
      have kn : Kept [] w9 wn := by rcases hMn with ⟨-, F, -, -, k, -⟩ | ⟨-, -, k⟩ <;> exact k
      replace i0 := kn.cell i0 (by simp)
      replace i1 := kn.cell i1 (by simp)
      replace i2 := kn.cell i2 (by simp)
      have hNr := qNew a b c wn
      go_wp2_with fail
      refine hNr.mono ?_
      clear hNr
      rintro r wo ⟨uo, rfl, hMo⟩
      have ko : Kept [] wn wo := by rcases hMo with ⟨-, F, -, -, k⟩ | ⟨-, -, k⟩ <;> exact k
      have O2 := (One1.of hMn hMo rfl (Kept.refl [] wo) (by simp)).mono (b' := w3.heap.size) HK9.out.size
      have HO2 := @hideH _ O2
      have HK3 := @hideH _ ((HK9.out.then kn).then ko)
      clear O2 kn ko hMn hMo i0 i1 i2
      go_wp2
      go_meet
      case rel => exact ⟨_, _, _, _, rfl, rfl, rfl, rfl, HO2.out, HK3.out⟩
  case rest =>
    obtain ⟨ud9, ur9, d9, E9, rfl, rfl, rfl, rfl, hO⟩ := hcut
    clear HO1 HK9 i0 i1 i2
    have FIN := @hideH _ ((K2.out.then HK23.out).then hO.out.2)
    have K3c := @hideH _ hO.out.2
    rcases hO.out.1 with ⟨rfl, gv, gu, F, Bq, rfl, rfl, hp, hq, hF, hB, hd, hlo⟩ | ⟨hE9, rfl, rfl⟩
    rotate_left
    · have hne9 : (E9 != E9) = false := by simp
      have hnz : (E9 != 0) = true := by simpa [bne] using hE9
      clear hO
      go_wp2
      go_ret
      exact ⟨rfl, FIN.out⟩
    have BK := @hideH _ (Book.one hp hq hF hB hd hO.out.2.size)
    clear hp hq hF hB hd hO
    go_upto_region 17 with fail
    obtain ⟨w10, hw10⟩ : ∃ w10, w10 = ((wc.alloc (.cells #[.pointer (some ⟨gv, 0, none⟩)] 32)).alloc (.cells #[.pointer (some ⟨gu, 0, none⟩)] 36)).alloc (.cells #[.slice (some ⟨wc.heap.size, 0, none⟩) 1 1, .slice (some ⟨wc.heap.size + 1, 0, none⟩) 1 1] 47) := ⟨_, rfl⟩
    have K10 : Kept [] w3 w10 := by rw [hw10]; exact ((K3c.out.alloc _).alloc _).alloc _
    obtain ⟨g, hg⟩ : ∃ g, g = wc.heap.size + 1 + 1 := ⟨_, rfl⟩
    rw [← hw10, ← hg] at BK
    rw [← hw10, ← hg]
    have ST : Hid (∃ vD vR E, Book w3.heap.size w10 g vD vR E ∧ Few 0 E ∧ E.length ≤ 0 + 2 ∧ 0 < E.length ∧ Kept [] w3 w10) := ⟨_, _, _, BK.out, (fun e he => by simp at he; subst he; simp [hlo]), by simp, by simp, K10⟩
    clear BK hw10 hg K10 hlo
    go_wp2
    go_loopw [13] (fun vi wr => ∃ (k : Nat) (vD vR : Value) (E : List Ent), k ≤ ss.length ∧ vi = .int .i64 k ∧ Hid (Book w3.heap.size wr g vD vR E ∧ Few k E ∧ E.length ≤ k + 2 ∧ 0 < E.length ∧ Kept [] w3 wr)) (fun vi _ => ss.length - (intOf vi).toNat)
    case atStart =>
      obtain ⟨vD, vR, E, h1, h2, h3, h4, h5⟩ := ST.out
      exact ⟨0, vD, vR, E, Nat.zero_le _, rfl, h1, h2, h3, h4, h5⟩
    case round =>
      clear ST
      obtain ⟨k, vD, vR, E, hk, rfl, hh⟩ := hrel
      have kr3 := hh.out.2.2.2.2
      have kr : Kept [] W wr := (K2.out.then HK23.out).then kr3
      obtain ⟨pD, cD, rfl⟩ := own_shape2 hh.out.1.rowD
      by_cases hlt : k < ss.length
      · have hlt' : (k : Int) < (ss.length : Int) := by omega
        have hk0 : (0 : Int) ≤ (k : Int) := by omega
        obtain ⟨s, hs⟩ : ∃ s, ss[k]? = some s := ⟨_, List.getElem?_eq_getElem hlt⟩
        have hobs := HOB.out s (List.mem_of_getElem? hs)
        obtain ⟨sb, so, sc, es, c0, c1, c2, c3, c4, c5, c6, bb, bk, nn⟩ := HS0.out.at hs
        cases es
        obtain ⟨kind, which, n, mm, ub, bts, cl, vk, keep⟩ := s
        simp only at c0 c1 c2 c3 c4 c5 c6 bb bk nn hobs
        have HC4 := @hideH _ c4
        have NN := @hideH _ nn
        have BB := @hideH _ (And.intro bb bk)
        have HOBS := @hideH _ hobs
        obtain ⟨pb, cb, rfl, -⟩ := id bb
        obtain ⟨pk, ck, rfl, -⟩ := id bk
        have d0 := kr.cell c0 (by simp)
        have d1 := kr.cell c1 (by simp)
        have d2 := kr.cell c2 (by simp)
        have d3 := kr.cell c3 (by simp)
        have d4 := kr.cell c4 (by simp)
        have d5 := kr.cell c5 (by simp)
        have d6 := kr.cell c6 (by simp)
        obtain ⟨wa, hwa⟩ : ∃ wa, wa = wr.alloc (.cells #[.int .i64 kind, .int .i64 which, .int .i64 n, .int .i64 mm, .slice pb bts.length cb, .int .i64 cl, .slice pk keep.length ck] 52) := ⟨_, rfl⟩
        have ka : Kept [] wr wa := by rw [hwa]; exact (Kept.refl [] wr).alloc _
        have bO : Blk wa wr.heap.size 52 [.int .i64 kind, .int .i64 which, .int .i64 n, .int .i64 mm, .slice pb bts.length cb, .int .i64 cl, .slice pk keep.length ck] := by rw [hwa]; exact Blk.new wr _ _
        have HWS := @hideH _ (show wa.heap.size = wr.heap.size + 1 by rw [hwa]; exact World.size_alloc _ _)
        have hwa' := hwa
        have KA := @hideH _ ka
        have HBO := @hideH _ bO
        have o4 := bO.cell (j := 4) rfl
        have hLe := lent_any _ bts wa ((bb.kept kr).kept ka) hobs.1
        clear bb bk nn hs hobs c0 c1 c2 c3 c4 c5 c6 hwa ka bO
        go_upto_region 21 with fail
        rw [← hwa']
        clear hwa' d0 d1 d2 d3 d4 d5 d6
        go_wp2_with fail
        refine hLe.mono ?_
        clear hLe
        rintro r wb ⟨vl, rfl, ol, kl⟩
        obtain ⟨pl, cl9, rfl⟩ := own_shape2 ol
        have HOL := @hideH _ ol
        have KL := @hideH _ kl
        have o6 := (HBO.out.kept kl (by simp)).cell (j := 6) rfl
        have isk := ((BB.out.2.kept kr).kept KA.out).kept kl
        obtain ⟨qk, qc, eqk, qk1, qk2, qk3, qk4⟩ := id isk
        cases eqk
        have HISK := @hideH _ isk
        clear ol kl o4 isk
        have srk := HISK.out.src
        have rm1 : 0 + keep.length ≤ maxLen ∧ (0 + keep.length) * 8 ≤ 140737488355328 := by have := HOBS.out.2; unfold maxLen; omega
        clear qk1 qk2 qk3 qk4
        go_upto_region 24 with (at_builtin; refine wpList_append_src3 rfl (.tmp 93) (.tmp 96) 48 48 3 rfl wb.heap.size 3 Try.underlying48 Try.underlying48 (.int .i64 0) 8 (by kernel_rfl) rfl (.slice none 0 0) 0 [] (by rfl) (World.ownsRow_nil _ _ _ _) pk keep.length ck (intsV keep) (by rfl) (intsV_length keep) srk.1 srk.2 (intsV_one keep) rm1.1 rm1.2 (Nat.le_refl _) ?_; intro vq wq oq gq atq; rw [Nat.zero_add, List.nil_append] at oq; have kq : Kept [] wb wq := (Kept.refl [] wb).grown gq (fun x hx => by simp [Value.ownBlock] at hx); obtain ⟨pq, cq, rfl⟩ := own_shape2 oq)
        have HOQ := @hideH _ (And.intro oq kq)
        clear oq gq atq kq srk rm1 o6
        have hnews : ∀ (j : Nat) u, [Value.int .i64 91, .int .i64 92, .int .i64 93][j]? = some u → (wq.alloc (.cells #[.int .i64 91, .int .i64 92, .int .i64 93] 3)).cell? ((⟨wq.heap.size, 0, none⟩ : Addr).add j) = some u := fun j u hj => by
          rw [add_none rfl]
          rcases j with _ | _ | _ | j
          · simp at hj; subst hj; simp [go_sem]
          · simp at hj; subst hj; simp [go_sem]
          · simp at hj; subst hj; simp [go_sem]
          · simp at hj
        have rm2 : keep.length + 3 ≤ maxLen ∧ (keep.length + 3) * 8 ≤ 140737488355328 := by have := HOBS.out.2; unfold maxLen; omega
        have hoa := @hideH _ (HOQ.out.1.alloc (.cells #[.int .i64 91, .int .i64 92, .int .i64 93] 3))
        have hbs : wb.heap.size ≤ (wq.alloc (.cells #[.int .i64 91, .int .i64 92, .int .i64 93] 3)).heap.size := by have := HOQ.out.2.size; simp; omega
        go_upto_region 25 with (at_builtin; refine wpList_append_own2 rfl (.tmp 98) (.tmp 99) 48 rfl wb.heap.size 3 Try.underlying48 (.int .i64 0) 8 (by kernel_rfl) rfl _ _ _ (by rfl) hoa.out ⟨wq.heap.size, 0, none⟩ 3 3 [.int .i64 91, .int .i64 92, .int .i64 93] (by rfl) rfl hnews (by simp [Value.oneCell']) rm2.1 rm2.2 hbs ?_; intro ve we oe ge ate; have ke : Kept [] wb we := (HOQ.out.2.alloc _).grown ge (fun x hx => .inr (own_ge HOQ.out.1 x hx)); obtain ⟨pe, ce, rfl⟩ := own_shape2 oe)
        have oe' : we.ownsRow wb.heap.size 3 1 (.slice pe (keep.length + 3) ce) (keep ++ [91, 92, 93]).length (intsV (keep ++ [91, 92, 93])) := by unfold intsV at oe ⊢; rw [List.map_append, List.length_append]; exact oe
        have ol' : we.ownsRow wa.heap.size 5 1 (.slice pl (bts.length + 300) cl9) (bts ++ lentT 300).length (u8s (bts ++ lentT 300)) := by rw [List.length_append, lentT_length]; exact own_of_kept HOL.out ke (by simp)
        have kre : Kept [] wr we := (KA.out.then KL.out).then ke
        have bOe := HBO.out.kept (KL.out.then ke) (by simp)
        have RN := Rnd.make (wa := wa) hh.out.1 kr3 HWS.out kre ol' (Nat.le_refl _) oe' KL.out.size (by have e1 := bOe.lt; exact e1) (bOe.cell (j := 6) rfl)
        have hpos := hh.out.2.2.2.1
        have HM := @hideH _ hh.out.2.1
        have HEL := @hideH _ hh.out.2.2.1
        obtain ⟨kk, hkd⟩ : ∃ kk, kk = restN which E.length := ⟨_, rfl⟩
        have hkl : kk < E.length := by rw [hkd]; have := restN_lt which (E.length - 1); rw [show E.length - 1 + 1 = E.length by omega] at this; omega
        have hELm : E.length ≤ 3300000000000 := by have e1 := HEL.out; have e2 := HLEN.out; omega
        have hmd := mod_any which E.length we.drew hpos (by omega)
        rw [← hkd] at hmd
        have q1 := bOe.cell (j := 1) rfl
        have g0 := RN.book.blk.cell (j := 0) rfl
        have HRN := @hideH _ RN
        have HBE := @hideH _ bOe
        have HELM := @hideH _ hELm
        have HPOS := @hideH _ hpos
        have HKL := @hideH _ hkl
        have hE0 : ¬ (E.length : Int) = 0 := by omega
        clear oe ge ate oe' ol' kre bOe RN hnews rm2 hoa hbs hELm hpos hh hkd hkl ke
        go_region_held3 (fun w' => w'.cell? ⟨wr.heap.size, 1, none⟩ = some (.int .i64 which) ∧ w'.cell? ⟨g, 0, none⟩ = some (.slice pD E.length cD))
          (first | (exact ⟨q1, g0⟩) | go_keep)
          (first | (go_at_call 13; refine hmd.mono ?_; rintro e w5 ⟨rfl, rfl⟩) | fail)
        clear hmd q1 g0
        obtain ⟨wd, hwd⟩ : ∃ wd, wd = we.drew := ⟨_, rfl⟩
        rw [← hwd]
        have kwd : Kept [] we wd := by rw [hwd]; exact (Kept.refl [] we).drew
        have HRD := @hideH _ (HRN.out.then kwd)
        have HBD := @hideH _ (HBE.out.kept kwd (by simp))
        clear hwd HRN HBE kwd
        have c0 := HBD.out.cell (j := 0) rfl
        go_upto_if 111 with fail
        go_cut [17] (fun s17 wx => ∃ (kj : Nat) (vD1 vR1 : Value) (E1 : List Ent), s17 = .int .i64 kj ∧ Hid (Rnd w3 (Xb w3.heap.size wr.heap.size we.heap.size) g wr.heap.size vD1 vR1 (.slice pl (bts.length + 300) cl9) (.slice pe (keep.length + 3) ce) E1 (bts ++ lentT 300) (keep ++ [91, 92, 93]) (.slice pk keep.length ck) wx ∧ Few (k + 1) E1 ∧ E1.length ≤ k + 1 + 2 ∧ kj < E1.length))
        case first =>
          by_cases hK : kind = 13
          · subst hK
            obtain ⟨e, he⟩ : ∃ e, E[kk]? = some e := ⟨_, List.getElem?_eq_getElem HKL.out⟩
            have hmem := List.mem_of_getElem? he
            obtain ⟨bD, cD', bR, cR, eD, eR, d0, r0, g0, g1⟩ := HRD.out.book.at he
            cases eD
            subst eR
            obtain ⟨A, B, hp, hq, hap, hF⟩ := HRD.out.book.both e hmem
            obtain ⟨gv, ev⟩ := hp.ptr
            obtain ⟨gu, eu⟩ := hq.ptr
            rw [ev] at d0 hp
            rw [eu] at r0 hq
            have HV : Hid (e.v = .pointer (some ⟨gv, 0, none⟩) ∧ e.u = .pointer (some ⟨gu, 0, none⟩)) := ⟨ev, eu⟩
            have iskk : Is wd (.slice pe keep.length ce) keep := by
              have h1 := is_of_own (m := keep.length) (n := keep.length + 3) (show wd.ownsRow w3.heap.size 3 1 (.slice pe (keep.length + 3) ce) (keep.length + 3) (intsV (keep ++ [91, 92, 93])) by have := HRD.out.rowK; rw [List.length_append] at this; exact this) (by omega) (by simp) (by rw [List.take_left' rfl]; obtain ⟨_, _, _, _, _, _, h5, _⟩ := BB.out.2; exact h5)
              rwa [List.take_left' rfl] at h1
            have hce : keep.length ≤ ce := by obtain ⟨_, _, e9, h9, _⟩ := iskk; cases e9; exact h9
            have cutk : ∀ u, (Instr.slice 48 (.slice pe (keep.length + 3) ce) none (some (.int .i64 (keep.length : Int))) none).run Try.prog u = .ok (.slice pe keep.length ce) u := fun u => run_cut_to u 48 3 Try.underlying48 (by kernel_rfl) pe (keep.length + 3) ce keep.length hce
            have hcr := fCrash _ e.d A cl (.slice pe keep.length ce) keep wd.drew (hp.kept (Kept.refl [] wd).drew (by simp)) (iskk.kept (Kept.refl [] wd).drew)
            have o5 := HBD.out.cell (j := 5) rfl
            have o6 := HBD.out.cell (j := 6) rfl
            have hkk' : (kk : Int) < (E.length : Int) := by have := HKL.out; omega
            have hkk0 : (0 : Int) ≤ (kk : Int) := by omega
            have kx : Kept [] wd wd.drew := (Kept.refl [] wd).drew
            have HEE := @hideH _ (And.intro he hmem)
            have HFF := @hideH _ hF
            clear he hmem ev eu iskk hce hap hF hp hq
            go_upto_region 27 with fail
            go_region_held3 (fun w' => w'.cell? ⟨g, 0, none⟩ = some (.slice (some ⟨bD, 0, none⟩) E.length cD) ∧ w'.cell? ⟨bD, kk, none⟩ = some (.pointer (some ⟨gv, 0, none⟩)) ∧ w'.cell? ⟨wr.heap.size, 5, none⟩ = some (.int .i64 cl) ∧ w'.cell? ⟨wr.heap.size, 6, none⟩ = some (.slice pk keep.length ck))
              (first | (with_reducible exact ⟨kx.cell g0 (by simp), kx.cell d0 (by simp), kx.cell o5 (by simp), kx.cell o6 (by simp)⟩) | fail)
              (first | (go_at_call 14; refine hcr.mono ?_; rintro r wA ⟨nv, rfl, FA, pA, fA, kA, zA⟩; replace kx := kx.then kA) | fail)
            clear hcr kA cutk
            have fA' : ∀ x ∈ FA.own, wd.heap.size ≤ x := fA
            have zA' : ∀ x ∈ FA.frz, ∃ e ∈ E, x ∈ e.F.frz := fun x hx => by have := zA x hx; simp at this
            obtain ⟨gn, rfl⟩ := pA.ptr
            have gA := kx.cell g0 (by simp)
            have kb := kx.alloc (.cells #[.pointer (some ⟨gn, 0, none⟩)] 32)
            have gB := kb.cell g0 (by simp)
            have rD5 := own_of_kept HRD.out.book.rowD kb (by simp)
            have ngD : g ∉ (Value.slice (some ⟨bD, 0, none⟩) E.length cD).ownBlock.toList := fun hm => HRD.out.book.blk.far HRD.out.book.rowD (by decide) g (by simpa using hm) rfl
            have hnews : ∀ (j : Nat) u, [Value.pointer (some ⟨gn, 0, none⟩)][j]? = some u → (wA.alloc (.cells #[.pointer (some ⟨gn, 0, none⟩)] 32)).cell? ((⟨wA.heap.size, 0, none⟩ : Addr).add j) = some u := fun j u hj => by
              rw [add_none rfl]
              rcases j with _ | j
              · simp at hj; subst hj; simp [go_sem]
              · simp at hj
            have hbb : w3.heap.size ≤ (wA.alloc (.cells #[.pointer (some ⟨gn, 0, none⟩)] 32)).heap.size := Nat.le_trans HRD.out.kept.size kb.size
            have rm1 : E.length + 1 ≤ maxLen ∧ (E.length + 1) * 8 ≤ 140737488355328 := by have := HELM.out; unfold maxLen; omega
            go_wp2_with (at_builtin; refine wpList_append_own2 rfl (.tmp 136) (.tmp 138) 44 rfl w3.heap.size 32 Try.underlying44 (.pointer none) 8 (by kernel_rfl) rfl _ _ _ (by rfl) rD5 ⟨wA.heap.size, 0, none⟩ 1 1 [.pointer (some ⟨gn, 0, none⟩)] (by rfl) rfl hnews (by simp [Value.oneCell']) rm1.1 rm1.2 hbb ?_; intro v5 w5 ow5 g5 at5; obtain ⟨p5, c5, rfl⟩ := own_shape2 ow5; have k5 := Kept.ofGrown (S := (Value.slice (some ⟨bD, 0, none⟩) E.length cD).ownBlock.toList) g5 (by intro k e _; simp [e]); have kB5 := ((kb.mono (by simp)).trans k5 (fun x hx => .inl hx)); have y0 := (HRD.out.book.blk.kept kB5 ngD).cell (j := 0) rfl; have y1 := (HRD.out.book.blk.kept kB5 ngD).free 0)
            have half := Half.make HRD.out.book kx pA fA' zA' ow5 k5 (by rcases at5 with e | e; exact .inl e; exact .inr (by have := e.1; simp at this; simpa using this))
            obtain ⟨w6, hw6⟩ : ∃ w6, w6 = w5.setCell ⟨g, 0, none⟩ (.slice p5 (E.length + 1) c5) := ⟨_, rfl⟩
            have HW6 := @hideH _ hw6
            rw [← hw6] at half
            have HH := @hideH _ half
            have z1 := half.blk.cell (j := 1) rfl
            have g1f := half.blk.free 1
            have hpx := half.px HRD.out.away
            have BO6 := HBD.out.px hpx HRD.out.inO.1
            have e5 := BO6.cell (j := 5) rfl
            have e6 := BO6.cell (j := 6) rfl
            obtain ⟨A6, B6, -, hq6, -, -⟩ := half.both HEE.out.2
            rw [HV.out.2] at hq6
            have isk6 := (BB.out.2.kept ((K2.out.then HK23.out).then HRD.out.kept)).px hpx (fun h0 x hx => .inl (by have e1 := BB.out.2.far h0 x hx; have e2 := K2.out.size; have e3 := HK23.out.size; omega))
            have hcr2 := qCrash _ e.d B6 cl (.slice pk keep.length ck) keep w6.drew (hq6.kept (Kept.refl [] w6).drew (by simp)) (isk6.kept (Kept.refl [] w6).drew)
            have rR6 := half.rowR
            have er := own_at rR6 (by have := HPOS.out; omega)
            have r6 : w6.cell? ⟨bR, kk, none⟩ = some (.pointer (some ⟨gu, 0, none⟩)) := by obtain ⟨b9, c9, e9, -, -, h9⟩ := er; cases e9; have := h9 kk (.pointer (some ⟨gu, 0, none⟩)) (by rw [List.getElem?_map, HEE.out.1]; simp [HV.out.2]); exact this
            have ngR : g ∉ (Value.slice (some ⟨bR, 0, none⟩) E.length cR).ownBlock.toList := fun hm => half.blk.far half.rowR (by decide) g (by simpa using hm) rfl
            clear er half hpx BO6 isk6 hq6 g0 d0 r0 o5 o6 gA gB rD5 hnews ow5 k5 g5 at5 kB5 y0 y1 pA fA fA' zA zA' hw6 c0 hbb kb kx g1 ngD
            go_upto_region 31 with fail
            rw [← HW6.out]
            refine wp_region_late (fun w' => (w'.cell? ⟨g, 1, none⟩ = some (.slice (some ⟨bR, 0, none⟩) E.length cR) ∧ w'.cell? ⟨bR, kk, none⟩ = some (.pointer (some ⟨gu, 0, none⟩)) ∧ w'.cell? ⟨wr.heap.size, 5, none⟩ = some (.int .i64 cl) ∧ w'.cell? ⟨wr.heap.size, 6, none⟩ = some (.slice pk keep.length ck))) 19 (by kernel_rfl) ?_
            have hS : (w6.drew.cell? ⟨g, 1, none⟩ = some (.slice (some ⟨bR, 0, none⟩) E.length cR) ∧ w6.drew.cell? ⟨bR, kk, none⟩ = some (.pointer (some ⟨gu, 0, none⟩)) ∧ w6.drew.cell? ⟨wr.heap.size, 5, none⟩ = some (.int .i64 cl) ∧ w6.drew.cell? ⟨wr.heap.size, 6, none⟩ = some (.slice pk keep.length ck)) := ⟨z1, r6, e5, e6⟩
            refine wpAnyZ_take 0 (v := ?v0) rfl (by as_aux_lemma => kernel_rfl) (by as_aux_lemma => kernel_rfl) (by as_aux_lemma => kernel_rfl) (by as_aux_lemma => kernel_rfl) (fun _ _ _ h => h) (by rfl) ?hy0 hS ?rest0
            case hy0 => (intro wx hSx; (try dsimp only at hSx); go_simp; (try with_reducible rfl))
            (try simp only [Act.put, List.setIfInBounds_toArray, List.set_cons_zero, List.set_cons_succ])
            refine wpAnyZ_take 1 (v := ?v1) rfl (by as_aux_lemma => kernel_rfl) (by as_aux_lemma => kernel_rfl) (by as_aux_lemma => kernel_rfl) (by as_aux_lemma => kernel_rfl) (fun _ _ _ h => h) (by rfl) ?hy1 hS ?rest1
            case hy1 => (intro wx hSx; (try dsimp only at hSx); go_simp; (try with_reducible rfl))
            (try simp only [Act.put, List.setIfInBounds_toArray, List.set_cons_zero, List.set_cons_succ])
            refine wpAnyZ_take 2 (v := ?v2) rfl (by as_aux_lemma => kernel_rfl) (by as_aux_lemma => kernel_rfl) (by as_aux_lemma => kernel_rfl) (by as_aux_lemma => kernel_rfl) (fun _ _ _ h => h) (by rfl) ?hy2 hS ?rest2
            case hy2 => (intro wx hSx; (try dsimp only at hSx); go_simp; (try with_reducible rfl))
            (try simp only [Act.put, List.setIfInBounds_toArray, List.set_cons_zero, List.set_cons_succ])
            refine wpAnyZ_take 3 (v := ?v3) rfl (by as_aux_lemma => kernel_rfl) (by as_aux_lemma => kernel_rfl) (by as_aux_lemma => kernel_rfl) (by as_aux_lemma => kernel_rfl) (fun _ _ _ h => h) (by rfl) ?hy3 hS ?rest3
            case hy3 => (intro wx hSx; (try dsimp only at hSx); go_simp; (try with_reducible rfl))
            (try simp only [Act.put, List.setIfInBounds_toArray, List.set_cons_zero, List.set_cons_succ])
            refine wpAnyZ_take 4 (v := ?v4) rfl (by as_aux_lemma => kernel_rfl) (by as_aux_lemma => kernel_rfl) (by as_aux_lemma => kernel_rfl) (by as_aux_lemma => kernel_rfl) (fun _ _ _ h => h) (by rfl) ?hy4 hS ?rest4
            case hy4 => (intro wx hSx; (try dsimp only at hSx); go_simp; (try with_reducible rfl))
            (try simp only [Act.put, List.setIfInBounds_toArray, List.set_cons_zero, List.set_cons_succ])
            refine wpAnyZ_take 5 (v := ?v5) rfl (by as_aux_lemma => kernel_rfl) (by as_aux_lemma => kernel_rfl) (by as_aux_lemma => kernel_rfl) (by as_aux_lemma => kernel_rfl) (fun _ _ _ h => h) (by rfl) ?hy5 hS ?rest5
            case hy5 => (intro wx hSx; (try dsimp only at hSx); go_simp; (try with_reducible rfl))
            (try simp only [Act.put, List.setIfInBounds_toArray, List.set_cons_zero, List.set_cons_succ])
            refine wpAnyZ_take 6 (v := ?v6) rfl (by as_aux_lemma => kernel_rfl) (by as_aux_lemma => kernel_rfl) (by as_aux_lemma => kernel_rfl) (by as_aux_lemma => kernel_rfl) (fun _ _ _ h => h) (by rfl) ?hy6 hS ?rest6
            case hy6 => (intro wx hSx; (try dsimp only at hSx); go_simp; (try with_reducible rfl))
            (try simp only [Act.put, List.setIfInBounds_toArray, List.set_cons_zero, List.set_cons_succ])
            refine wpAnyZ_take 7 (v := ?v7) rfl (by as_aux_lemma => kernel_rfl) (by as_aux_lemma => kernel_rfl) (by as_aux_lemma => kernel_rfl) (by as_aux_lemma => kernel_rfl) (fun _ _ _ h => h) (by rfl) ?hy7 hS ?rest7
            case hy7 => (intro wx hSx; (try dsimp only at hSx); go_simp; (try with_reducible rfl))
            (try simp only [Act.put, List.setIfInBounds_toArray, List.set_cons_zero, List.set_cons_succ])
            refine wpAnyZ_take 8 (v := ?v8) rfl (by as_aux_lemma => kernel_rfl) (by as_aux_lemma => kernel_rfl) (by as_aux_lemma => kernel_rfl) (by as_aux_lemma => kernel_rfl) (fun _ _ _ h => h) (by rfl) ?hy8 hS ?rest8
            case hy8 => (intro wx hSx; (try dsimp only at hSx); go_simp; (try with_reducible rfl))
            (try simp only [Act.put, List.setIfInBounds_toArray, List.set_cons_zero, List.set_cons_succ])
            refine wpAnyZ_take 9 (v := ?v9) rfl (by as_aux_lemma => kernel_rfl) (by as_aux_lemma => kernel_rfl) (by as_aux_lemma => kernel_rfl) (by as_aux_lemma => kernel_rfl) (fun _ _ _ h => h) (by rfl) ?hy9 hS ?rest9
            case hy9 => (intro wx hSx; (try dsimp only at hSx); go_simp; (try with_reducible rfl))
            (try simp only [Act.put, List.setIfInBounds_toArray, List.set_cons_zero, List.set_cons_succ])
            refine wpAnyZ_take 10 (v := ?v10) rfl (by as_aux_lemma => kernel_rfl) (by as_aux_lemma => kernel_rfl) (by as_aux_lemma => kernel_rfl) (by as_aux_lemma => kernel_rfl) (fun _ _ _ h => h) (by rfl) ?hy10 hS ?rest10
            case hy10 => (intro wx hSx; (try dsimp only at hSx); go_simp; (try with_reducible rfl))
            (try simp only [Act.put, List.setIfInBounds_toArray, List.set_cons_zero, List.set_cons_succ])
            refine wpAnyZ_take 11 (v := ?v11) rfl (by as_aux_lemma => kernel_rfl) (by as_aux_lemma => kernel_rfl) (by as_aux_lemma => kernel_rfl) (by as_aux_lemma => kernel_rfl) (fun _ _ _ h => h) (by rfl) ?hy11 hS ?rest11
            case hy11 => (intro wx hSx; (try dsimp only at hSx); go_simp; (try with_reducible rfl))
            (try simp only [Act.put, List.setIfInBounds_toArray, List.set_cons_zero, List.set_cons_succ])
            refine wpAnyZ_take 12 (v := ?v12) rfl (by as_aux_lemma => kernel_rfl) (by as_aux_lemma => kernel_rfl) (by as_aux_lemma => kernel_rfl) (by as_aux_lemma => kernel_rfl) (fun _ _ _ h => h) (by rfl) ?hy12 hS ?rest12
            case hy12 => (intro wx hSx; (try dsimp only at hSx); go_simp; (try with_reducible rfl))
            (try simp only [Act.put, List.setIfInBounds_toArray, List.set_cons_zero, List.set_cons_succ])
            refine wpAnyZ_take 13 (v := ?v13) rfl (by as_aux_lemma => kernel_rfl) (by as_aux_lemma => kernel_rfl) (by as_aux_lemma => kernel_rfl) (by as_aux_lemma => kernel_rfl) (fun _ _ _ h => h) (by rfl) ?hy13 hS ?rest13
            case hy13 => (intro wx hSx; (try dsimp only at hSx); go_simp; (try with_reducible rfl))
            (try simp only [Act.put, List.setIfInBounds_toArray, List.set_cons_zero, List.set_cons_succ])
            refine wpAnyZ_one 14 rfl (by as_aux_lemma => kernel_rfl) (fun K hK => ?_)
            go_simp
            refine hcr2.mono ?_
            rintro r wC ⟨nu, rfl, FB, qC, fB, kC⟩
            have kC' : Kept [] w6 wC := (Kept.refl [] w6).drew.then kC
            obtain ⟨gm, rfl⟩ := qC.ptr
            dsimp only
            have hS3 : (wC.cell? ⟨g, 1, none⟩ = some (.slice (some ⟨bR, 0, none⟩) E.length cR) ∧ wC.cell? ⟨bR, kk, none⟩ = some (.pointer (some ⟨gu, 0, none⟩)) ∧ wC.cell? ⟨wr.heap.size, 5, none⟩ = some (.int .i64 cl) ∧ wC.cell? ⟨wr.heap.size, 6, none⟩ = some (.slice pk keep.length ck)) := ⟨kC'.cell z1 (by simp), kC'.cell r6 (by simp), kC'.cell e5 (by simp), kC'.cell e6 (by simp)⟩
            refine hK _ _ (fun _ => hS3) ?_
            clear hK K hcr2 hS
            (try simp only [Act.put, List.setIfInBounds_toArray, List.set_cons_zero, List.set_cons_succ])
            refine wpAnyZ_one 15 rfl (by as_aux_lemma => kernel_rfl) (fun K hK => ?_)
            have kc2 := kC'.alloc (.cells #[.pointer (some ⟨gm, 0, none⟩)] 36)
            have hS4 : ((wC.alloc (.cells #[.pointer (some ⟨gm, 0, none⟩)] 36)).cell? ⟨g, 1, none⟩ = some (.slice (some ⟨bR, 0, none⟩) E.length cR) ∧ (wC.alloc (.cells #[.pointer (some ⟨gm, 0, none⟩)] 36)).cell? ⟨bR, kk, none⟩ = some (.pointer (some ⟨gu, 0, none⟩)) ∧ (wC.alloc (.cells #[.pointer (some ⟨gm, 0, none⟩)] 36)).cell? ⟨wr.heap.size, 5, none⟩ = some (.int .i64 cl) ∧ (wC.alloc (.cells #[.pointer (some ⟨gm, 0, none⟩)] 36)).cell? ⟨wr.heap.size, 6, none⟩ = some (.slice pk keep.length ck)) := ⟨kc2.cell z1 (by simp), kc2.cell r6 (by simp), kc2.cell e5 (by simp), kc2.cell e6 (by simp)⟩
            go_simp
            refine hK _ _ (fun _ => hS4) ?_
            clear hK K
            refine wpAnyZ_one 16 rfl (by as_aux_lemma => kernel_rfl) (fun K hK => ?_)
            have hnews2 : ∀ (j : Nat) u, [Value.pointer (some ⟨gm, 0, none⟩)][j]? = some u → (wC.alloc (.cells #[.pointer (some ⟨gm, 0, none⟩)] 36)).cell? ((⟨wC.heap.size, 0, none⟩ : Addr).add j) = some u := fun j u hj => by
              rw [add_none rfl]
              rcases j with _ | j
              · simp at hj; subst hj; simp [go_sem]
              · simp at hj
            have hbc : w3.heap.size ≤ (wC.alloc (.cells #[.pointer (some ⟨gm, 0, none⟩)] 36)).heap.size := Nat.le_trans HRD.out.kept.size (Nat.le_trans HH.out.kept.size kc2.size)
            have rRc := own_of_kept rR6 kc2 (by simp)
            refine step_append_own2 (by rfl) (.tmp 146) (.tmp 157) 45 (by rfl) w3.heap.size 36 Try.underlying45 (.pointer none) 8 (by kernel_rfl) rfl _ _ _ (by rfl) rRc ⟨wC.heap.size, 0, none⟩ 1 1 [.pointer (some ⟨gm, 0, none⟩)] (by rfl) rfl hnews2 (by simp [Value.oneCell']) rm1.1 rm1.2 hbc ?_
            intro v8 w8 o8 g8 at8
            obtain ⟨p8, c8, rfl⟩ := own_shape2 o8
            have k8 := Kept.ofGrown (S := (Value.slice (some ⟨bR, 0, none⟩) E.length cR).ownBlock.toList) g8 (by intro k e _; simp [e])
            have kB8 := ((kc2.mono (by simp)).trans k8 (fun x hx => .inl hx))
            have x0 := (HH.out.blk.kept kB8 ngR).cell (j := 1) rfl
            have x1 := (HH.out.blk.kept kB8 ngR).free 1
            have x2 := append_old rRc o8 at8 (j := kk) (u := .pointer (some ⟨gu, 0, none⟩)) (by rw [List.getElem?_map, HEE.out.1]; simp [HV.out.2]) HKL.out
            have nO8 : wr.heap.size ∉ (Value.slice (some ⟨bR, 0, none⟩) E.length cR).ownBlock.toList := fun hm => (HRD.out.away _ HRD.out.inO.1).2.2.2.1 (by simpa using hm)
            have hS5 : (w8.cell? ⟨g, 1, none⟩ = some (.slice (some ⟨bR, 0, none⟩) E.length cR) ∧ w8.cell? ⟨bR, kk, none⟩ = some (.pointer (some ⟨gu, 0, none⟩)) ∧ w8.cell? ⟨wr.heap.size, 5, none⟩ = some (.int .i64 cl) ∧ w8.cell? ⟨wr.heap.size, 6, none⟩ = some (.slice pk keep.length ck)) := ⟨x0, x2, kB8.cell e5 nO8, kB8.cell e6 nO8⟩
            refine hK _ _ (fun _ => hS5) ?_
            clear hK K
            (try simp only [Act.put, List.setIfInBounds_toArray, List.set_cons_zero, List.set_cons_succ])
            refine wpAnyZ_one 17 rfl (by as_aux_lemma => kernel_rfl) (fun K hK => ?_)
            go_simp
            refine hK _ _ (fun _ => hS5) ?_
            clear hK K
            refine wpAnyZ_one 18 rfl (by as_aux_lemma => kernel_rfl) (fun K hK => ?_)
            go_simp
            refine hK _ _ (fun _ => hS5) ?_
            clear hK K
            refine wpAnyZ_one 19 rfl (by as_aux_lemma => kernel_rfl) (fun K hK => ?_)
            go_simp
            refine hK _ _ (fun h => absurd rfl h) ?_
            clear hK K
            refine wpAnyZ_done (by as_aux_lemma => kernel_rfl) ?_ _
            have at8' : (Value.slice p8 (E.length + 1) c8).ownBlock = (Value.slice (some ⟨bR, 0, none⟩) E.length cR).ownBlock ∨ (Value.slice p8 (E.length + 1) c8).ownBlock = some (wC.heap.size + 1) := by rcases at8 with e | e; exact .inl e; exact .inr (by have := e.1; simp at this; simpa using this)
            obtain ⟨f1, f2⟩ := HH.out.done kC' qC fB o8 k8 at8'
            obtain ⟨f3, f4⟩ := HH.out.doneX HRD.out.away kC' qC fB o8 k8 at8'
            obtain ⟨w9, hw9⟩ : ∃ w9, w9 = w8.setCell ⟨g, 1, none⟩ (.slice p8 (E.length + 1) c8) := ⟨_, rfl⟩
            rw [← hw9] at f1 f2 f3 f4
            have b9 := f1.blk.cell (j := 0) rfl
            have wk9 : IntKind.i64.wrap (((E.length + 1 : Nat) : Int) - 1) = (E.length : Int) := by rw [show (((E.length + 1 : Nat) : Int) - 1) = (E.length : Int) by omega]; exact wrap_i64_of (by omega) (by have := HELM.out; omega)
            have HRP := @hideH _ (HRD.out.px f3 f1 f4)
            have few2 := @hideH _ (show Few (k + 1) (E ++ [⟨.pointer (some ⟨gn, 0, none⟩), .pointer (some ⟨gm, 0, none⟩), e.d.crash cl keep, ⟨FA.own ++ FB, FA.frz⟩⟩]) from (HM.out.mono (by omega)).push (by show (e.d.crash cl keep).loose.length ≤ _; exact Nat.zero_le _))
            have HW9 := @hideH _ hw9
            clear f1 f2 f3 f4 o8 k8 g8 at8 at8' kB8 x0 x1 x2 hS3 hS4 hS5 hnews2 qC fB hw9 kc2 rRc hbc nO8 kC kC' z1 g1f e5 e6 rR6 r6 ngR
            go_upto_region 32 with fail
            rw [← HW9.out]
            go_wp2
            go_meet
            case rel => exact ⟨E.length, _, _, _, rfl, HRP.out, few2.out, by have e2 := HEL.out; simp; omega, by simp⟩
          · as_aux_lemma =>
              have hKb : (kind == 13) = false := by simp [hK]
              have cutl := lentT_cut (P := Try.prog) 25 5 Try.underlying25 (by kernel_rfl) (show wd.ownsRow w3.heap.size 5 1 (.slice pl (bts.length + 300) cl9) (bts.length + 300) (u8s (bts ++ lentT 300)) by have := HRD.out.rowL; rw [List.length_append, lentT_length] at this; exact this)
              have c4 := HBD.out.cell (j := 4) rfl
              have f4 := HBD.out.free 4
              go_upto_region 34 with fail
              obtain ⟨wy, hwy⟩ : ∃ wy, wy = wd.setCell ⟨wr.heap.size, 4, none⟩ (.slice pl bts.length cl9) := ⟨_, rfl⟩
              rw [← hwy]
              obtain ⟨RY, BY⟩ := HRD.out.store HBD.out (.slice pl bts.length cl9)
              rw [← hwy] at RY BY
              have bsl : Bs wy (.slice pl bts.length cl9) bts := lent_bs (show wy.ownsRow w3.heap.size 5 1 (.slice pl (bts.length + 300) cl9) (bts.length + 300) (u8s (bts ++ lentT 300)) by have := RY.rowL; rw [List.length_append, lentT_length] at this; exact this)
              have isk := BB.out.2.kept ((K2.out.then HK23.out).then RY.kept)
              have hub : bts ≠ [] → ∀ x, (Value.slice pl bts.length cl9).ownBlock = some x → Xb w3.heap.size wr.heap.size we.heap.size x := fun _ x hx => (RY.inL x (by rw [own_block_len _ _ bts.length]; exact hx)).1
              have hvk : keep ≠ [] → ∀ x, (Value.slice pk keep.length ck).ownBlock = some x → Xb w3.heap.size wr.heap.size we.heap.size x := fun h0 x hx => .inl (by have e1 := BB.out.2.far h0 x hx; have e2 := K2.out.size; have e3 := HK23.out.size; omega)
              have hpl := play_anyX w3.heap.size g k _ _ (.slice pl bts.length cl9) (.slice pk keep.length ck) E which n mm cl bts keep wy RY.book _ RY.away HM.out (by have e1 := HLEN.out; omega) (by have e1 := HELM.out; omega) bsl isk hub hvk NN.out HPOS.out kind hK
              have y0 := BY.cell (j := 0) rfl
              have y1 := BY.cell (j := 1) rfl
              have y2 := BY.cell (j := 2) rfl
              have y3 := BY.cell (j := 3) rfl
              have y4 := BY.cell (j := 4) rfl
              have y5 := BY.cell (j := 5) rfl
              have y6 := BY.cell (j := 6) rfl
              have HRY := @hideH _ RY
              clear hwy RY BY bsl isk hub hvk cutl c4 f4 c0 HRD HBD
              go_wp2_with fail
              refine hpl.mono ?_
              clear hpl
              rintro r wp ⟨rfl, vD2, vR2, E2, b2, few2, l1, l2, -, px2, aw2⟩
              have HRP := @hideH _ (HRY.out.px px2 b2 aw2)
              have HF2 := @hideH _ (And.intro few2 (And.intro l1 l2))
              clear px2 b2 aw2 few2 l1 l2 y0 y1 y2 y3 y4 y5 y6
              go_wp2
              go_meet
              case rel => exact ⟨kk, vD2, vR2, E2, rfl, HRP.out, HF2.out.1, by have e1 := HF2.out.2.2; have e2 := HEL.out; omega, Nat.lt_of_lt_of_le HKL.out HF2.out.2.1⟩
        case rest =>
          as_aux_lemma =>
            obtain ⟨kj, vD1, vR1, E1, rfl, hJ⟩ := hcut
            obtain ⟨wj, rfl⟩ : ∃ wj, wj = wc := ⟨_, rfl⟩
            obtain ⟨wo, rfl⟩ : ∃ wo, wo = wr := ⟨_, rfl⟩
            have kWj : Kept [] W wj := (K2.out.then HK23.out).then hJ.out.1.kept
            have s4 := kWj.cell HC4.out (by simp)
            have bsj := BB.out.1.kept kWj
            have isj := BB.out.2.kept kWj
            have HJ := hJ
            have HISJ := @hideH _ isj
            have hLe2 := lent_any _ bts wj bsj HOBS.out.1
            clear hJ kWj bsj isj HRD HBD c0 HM HKL HPOS HEL HELM KA KL HOQ HBO
            go_wp2_with fail
            refine hLe2.mono ?_
            clear hLe2
            rintro r w11 ⟨vl2, rfl, ol2, kl2⟩
            have R11 := HJ.out.1.then kl2
            have hsm := same_eq _ _ (bts ++ lentT 300) w11 (Bs.ofOwn (show w11.ownsRow w3.heap.size 5 1 (.slice pl (bts.length + 300) cl9) (bts ++ lentT 300).length (u8s (bts ++ lentT 300)) from R11.rowL)) (Bs.ofOwn (show w11.ownsRow wj.heap.size 5 1 vl2 (bts ++ lentT 300).length (u8s (bts ++ lentT 300)) by rw [List.length_append, lentT_length]; exact ol2))
            obtain ⟨pl2, cl2, rfl⟩ := own_shape2 ol2
            have hst := stands_any w3.heap.size g kj vD1 vR1 E1 _ w11 R11.book (List.getElem?_eq_getElem HJ.out.2.2.2)
            have HR11 := @hideH _ R11
            clear R11 ol2 kl2 s4
            go_wp2_with fail
            refine hsm.mono ?_
            clear hsm
            rintro r w12 ⟨rfl, rfl⟩
            go_wp2_with fail
            refine hst.mono ?_
            clear hst
            rintro r w13 ⟨rfl, k13⟩
            have HR13 := @hideH _ (HR11.out.then k13)
            clear k13 HR11
            obtain ⟨be, ce9, epe, -, -, -⟩ := own_at HR13.out.rowK (by simp)
            obtain ⟨rfl, rfl⟩ : pe = some ⟨be, 0, none⟩ ∧ ce = ce9 := by simp at epe; exact epe
            obtain ⟨bl, cl8, epl, -, -, -⟩ := own_at HR13.out.rowL (by rw [List.length_append, lentT_length]; omega)
            obtain ⟨rfl, rfl⟩ : pl = some ⟨bl, 0, none⟩ ∧ cl9 = cl8 := by simp [lentT_length] at epl; exact epl
            clear epe epl
            go_wp2
            go_loopw [20] (fun vj wr => ∃ t : Nat, t ≤ keep.length ∧ vj = .int .i64 t ∧ Hid (Rnd w3 (Xb w3.heap.size wo.heap.size we.heap.size) g wo.heap.size vD1 vR1 (.slice (some ⟨bl, 0, none⟩) (bts.length + 300) cl9) (.slice (some ⟨be, 0, none⟩) (keep.length + 3) ce) E1 (bts ++ lentT 300) (ones t keep) (.slice pk keep.length ck) wr)) (fun vj _ => keep.length - (intOf vj).toNat)
            case atStart => exact ⟨0, Nat.zero_le _, rfl, HR13.out⟩
            case round =>
              clear HR13
              obtain ⟨t, ht, rfl, h2⟩ := hrel
              have o6 := h2.out.atO
              by_cases htl : t < keep.length
              · have htl' : (t : Int) < (keep.length : Int) := by omega
                have ht0 : (0 : Int) ≤ (t : Int) := by omega
                have htq : (t : Int) < (keep.length : Int) + 3 := by omega
                have wt : IntKind.i64.wrap ((t : Int) + 1) = (t : Int) + 1 := wrap_i64_of (by omega) (by have := HOBS.out.2; omega)
                obtain ⟨z, hz⟩ : ∃ z, keep[t]? = some z := ⟨_, List.getElem?_eq_getElem htl⟩
                obtain ⟨bk0, ok0, ck0, ek, -, hkc⟩ := BB.out.2.pos (by omega)
                cases ek
                have kjr : Kept [] W wr := (K2.out.then HK23.out).then h2.out.kept
                have qz := kjr.cell (hkc t z hz) (by simp)
                have cz := ones_cell h2.out.rowK hz
                have rk9 := h2.out.rowK
                rw [ones_length ht] at rk9
                have fz := rk9.frozenAt t
                clear rk9
                have hzz : (z != z) = false := by simp
                have kx : Kept [] wr wr.drew := (Kept.refl [] wr).drew
                have REL := @hideH _ (show Rnd w3 (Xb w3.heap.size wo.heap.size we.heap.size) g wo.heap.size vD1 vR1 (.slice (some ⟨bl, 0, none⟩) (bts.length + 300) cl9) (.slice (some ⟨be, 0, none⟩) (keep.length + 3) ce) E1 (bts ++ lentT 300) (ones (t + 1) keep) (.slice (some ⟨bk0, ok0, none⟩) keep.length ck) (wr.drew.setCell ⟨be, t, none⟩ (.int .i64 1)) by rw [← ones_set htl]; exact (h2.out.then kx).setK t 1)
                clear h2 hkc kjr hz htl
                go_upto_region 42 with fail
                go_region_held3 (fun w' => w'.cell? ⟨wo.heap.size, 6, none⟩ = some (.slice (some ⟨bk0, ok0, none⟩) keep.length ck) ∧ w'.cell? ⟨be, t, none⟩ = some (.int .i64 z) ∧ w'.cell? ⟨bk0, ok0 + t, none⟩ = some (.int .i64 z))
                  (first | (exact ⟨o6, cz, qz⟩) | go_keep) (fail)
                go_wp2
                go_roundw
                case rel => exact ⟨t + 1, by omega, by go_num, REL⟩
                case measure => simp [intOf]; omega
              · have hte : t = keep.length := by omega
                have htl' : ¬ (t : Int) < (keep.length : Int) := by omega
                have h3 : Hid (Rnd w3 (Xb w3.heap.size wo.heap.size we.heap.size) g wo.heap.size vD1 vR1 (.slice (some ⟨bl, 0, none⟩) (bts.length + 300) cl9) (.slice (some ⟨be, 0, none⟩) (keep.length + 3) ce) E1 (bts ++ lentT 300) (ones keep.length keep) (.slice pk keep.length ck) wr) := (by rw [hte] at h2; exact h2)
                obtain ⟨u1, u2, u3⟩ := ones_end h3.out.rowK
                have w0 : IntKind.i64.wrap (keep.length : Int) = (keep.length : Int) := wrap_i64_of (by omega) (by have := HOBS.out.2; omega)
                have w1 : IntKind.i64.wrap ((keep.length : Int) + 1) = (keep.length : Int) + 1 := wrap_i64_of (by omega) (by have := HOBS.out.2; omega)
                have w2' : IntKind.i64.wrap ((keep.length : Int) + 2) = (keep.length : Int) + 2 := wrap_i64_of (by omega) (by have := HOBS.out.2; omega)
                have w3' : IntKind.i64.wrap ((keep.length : Int) + 3 - 2) = (keep.length : Int) + 1 := by rw [show (keep.length : Int) + 3 - 2 = (keep.length : Int) + 1 by omega]; exact w1
                have w4' : IntKind.i64.wrap ((keep.length : Int) + 3 - 1) = (keep.length : Int) + 2 := by rw [show (keep.length : Int) + 3 - 1 = (keep.length : Int) + 2 by omega]; exact w2'
                have n1 : (keep.length : Int) < (keep.length : Int) + 3 := by omega
                have n2 : (keep.length : Int) + 1 < (keep.length : Int) + 3 := by omega
                have n3 : (keep.length : Int) + 2 < (keep.length : Int) + 3 := by omega
                have m1 : (0 : Int) ≤ (keep.length : Int) := by omega
                have m2 : (0 : Int) ≤ (keep.length : Int) + 1 := by omega
                have m3 : (0 : Int) ≤ (keep.length : Int) + 2 := by omega
                have z1 : ((keep.length : Int) + 1).toNat = keep.length + 1 := by omega
                have z2 : ((keep.length : Int) + 2).toNat = keep.length + 2 := by omega
                clear h2 hte
                go_upto_region 45 with fail
                go_wp2
                obtain ⟨wi, rfl⟩ : ∃ wi, wi = wr := ⟨_, rfl⟩
                clear u1 u2 u3 w0 w1 w2' w3' w4' n1 n2 n3 m1 m2 m3 z1 z2
                go_loopw [21] (fun vj wr => ∃ (s : Nat) (bs : List UInt8), s ≤ bts.length + 300 ∧ bs.length = bts.length + 300 ∧ vj = .int .i64 s ∧ Hid (Rnd w3 (Xb w3.heap.size wo.heap.size we.heap.size) g wo.heap.size vD1 vR1 (.slice (some ⟨bl, 0, none⟩) (bts.length + 300) cl9) (.slice (some ⟨be, 0, none⟩) (keep.length + 3) ce) E1 bs (ones keep.length keep) (.slice pk keep.length ck) wr)) (fun vj _ => (bts.length + 300) - (intOf vj).toNat)
                case atStart => exact ⟨0, _, Nat.zero_le _, by rw [List.length_append, lentT_length], rfl, h3.out⟩
                case round =>
                  clear h3
                  obtain ⟨s, bs, hs, hbl, rfl, h4⟩ := hrel
                  by_cases hsl : s < bts.length + 300
                  · have hsl' : (s : Int) < (bts.length : Int) + 300 := by omega
                    have hs0 : (0 : Int) ≤ (s : Int) := by omega
                    have hsi : s < bs.length := by omega
                    have ws : IntKind.i64.wrap ((s : Int) + 1) = (s : Int) + 1 := wrap_i64_of (by omega) (by have := HOBS.out.1; omega)
                    obtain ⟨x, hx⟩ : ∃ x, bs[s]? = some x := ⟨_, List.getElem?_eq_getElem hsi⟩
                    have rl := h4.out.rowL
                    have cx := byte_at rl hx
                    rw [hbl] at rl
                    have fx := rl.frozenAt s
                    have REL := @hideH _ (h4.out.setL s (x ^^^ 0x5a) (bits .xor .u8 (x.toNat : Int) 90) (xor5a x))
                    have hbl2 : (bs.set s (x ^^^ 0x5a)).length = bts.length + 300 := by rw [List.length_set]; exact hbl
                    clear h4 rl hx hsi
                    have HB2 := @hideH _ hbl2
                    have HB1 := @hideH _ hbl
                    clear hbl hbl2
                    go_wp2
                    go_roundw
                    case rel => exact ⟨s + 1, _, by omega, HB2.out, by go_num, REL⟩
                    case measure => simp [intOf]; omega
                  · have hsl' : ¬ (s : Int) < (bts.length : Int) + 300 := by omega
                    have BKX := @hideH _ (And.intro h4.out.book (And.intro HJ.out.2.1 (And.intro HJ.out.2.2.1 (And.intro HJ.out.2.2.2 h4.out.kept))))
                    clear h4 HJ hbl
                    have wk1 : IntKind.i64.wrap ((k : Int) + 1) = (k : Int) + 1 := wrap_i64_of (by omega) (by have := HLEN.out; omega)
                    go_wp2
                    go_roundw
                    case rel => exact ⟨k + 1, vD1, vR1, E1, by omega, by go_num, BKX.out.1, BKX.out.2.1, BKX.out.2.2.1, by have e1 := BKX.out.2.2.2.1; omega, BKX.out.2.2.2.2⟩
                    case measure => simp [intOf]; omega
      · as_aux_lemma =>
          have hlt' : ¬ (k : Int) < (ss.length : Int) := by omega
          have HX := @hideH _ (And.intro hh.out.1 hh.out.2.2.2.2)
          have hEm : E.length ≤ 3300000000000 := by have e1 := hh.out.2.2.1; have e2 := HLEN.out; omega
          have HEM := @hideH _ hEm
          clear hh hEm kr kr3
          obtain ⟨wo, rfl⟩ : ∃ wo, wo = wr := ⟨_, rfl⟩
          go_wp2
          go_loopw [22] (fun vj wr => ∃ t : Nat, t ≤ E.length ∧ vj = .int .i64 t ∧ Hid (Book w3.heap.size wr g (.slice pD E.length cD) vR E ∧ Kept [] w3 wr)) (fun vj _ => E.length - (intOf vj).toNat)
          case atStart => exact ⟨0, Nat.zero_le _, rfl, HX.out⟩
          case round =>
            clear HX
            obtain ⟨t, ht, rfl, h2⟩ := hrel
            have g0 := h2.out.1.blk.cell (j := 0) rfl
            by_cases htl : t < E.length
            · have htl' : (t : Int) < (E.length : Int) := by omega
              have wt : IntKind.i64.wrap ((t : Int) + 1) = (t : Int) + 1 := wrap_i64_of (by omega) (by have := HEM.out; omega)
              have hst := stands_any w3.heap.size g t _ vR E _ wr h2.out.1 (List.getElem?_eq_getElem htl)
              have HX := h2
              clear h2
              go_wp2_with fail
              refine hst.mono ?_
              clear hst
              rintro r w13 ⟨rfl, k13⟩
              have REL := @hideH _ (And.intro (HX.out.1.kept k13 (by simp)) (HX.out.2.then k13))
              clear HX k13 g0
              go_wp2
              go_roundw
              case rel => exact ⟨t + 1, by omega, by go_num, REL⟩
              case measure => simp [intOf]; omega
            · have htl' : ¬ (t : Int) < (E.length : Int) := by omega
              have FINW := @hideH _ ((K2.out.then HK23.out).then h2.out.2)
              clear h2
              go_wp2
              go_ret
              exact ⟨rfl, FINW.out⟩
end Go.Proofs.Ytmipmiaflompmab

