import Derived.Test.YtinlhojojeabcaaC2
/-
  OWN WORK (by mkchc.py). Layer 12: the law ChainFresh.
-/
namespace Go.Proofs.Ytinlhojojeabcaa
open Go.RowKit
set_option linter.unusedVariables false
set_option linter.unusedSimpArgs false

set_option maxRecDepth 20000 in
set_option maxHeartbeats 12800000 in
theorem chainFresh_walk (O : ChOps) (HWR : Written) (v : Value) (pl : List ActL) (at_ : Int) (w : World) (h : Acts w v pl) : Calls Try.prog 7 #[v, .int .i64 at_] w fun e w' => e = .returned (.bool true) ∧ Kept [] w w' := by
  obtain ⟨inf, hin1, hin2, hin3, hin4⟩ := info_parts3 (show (Try.prog.info? 3).map (fun i => (i.zero, i.size, i.bytes)) = some (some (.int .i64 0), 1, 8) by kernel_rfl)
  have HI := @hideH _ (And.intro hin1 (And.intro hin2 (And.intro hin3 hin4)))
  clear hin1 hin2 hin3 hin4
  have hwr := HWR v pl w h
  obtain ⟨pv, cv, hv, -⟩ := h.shape
  subst hv
  obtain ⟨nv, hnv⟩ : ∃ n, n = pl.length := ⟨_, rfl⟩
  rw [← hnv] at hwr ⊢
  clear HWR h
  clear hnv
  go_enter Try.func7, Try.ntmps7
  go_wp2_with fail
  refine hwr.mono ?_
  clear hwr
  rintro e w1 ⟨n, vl, vw, gR, rs, wv, hn1, hn2, rfl, hW, k1⟩
  obtain ⟨st, hst⟩ : ∃ st, st = wrote pl n := ⟨_, rfl⟩
  have HOK := @hideH _ (show WOk st n by rw [hst]; exact wrote_ok pl n hn1 hn2)
  have HUP := @hideH _ (show st.lines.Pairwise (fun a b => a.lsn < b.lsn) by rw [hst]; exact wrote_up pl n hn1 hn2)
  rw [← hst] at hW
  clear hst hn1
  obtain ⟨r0, r1, r2, r3, hrs⟩ := list4_of hW.rlen
  subst hrs
  obtain ⟨p5, c5, hvl⟩ : ∃ p c, vl = .slice p n c := by obtain ⟨p, c, e, -⟩ := Row.shape hW.lines; exact ⟨p, c, by rw [e, HOK.out.len]⟩
  obtain ⟨p6, c6, hvw⟩ : ∃ p c, vw = .slice p n c := by obtain ⟨p, c, e, -⟩ := Row.shape hW.ways; exact ⟨p, c, by rw [e, HOK.out.wlen]⟩
  subst hvl hvw
  obtain ⟨w2, hw2⟩ : ∃ wx, wx = w1.alloc (.cells #[.slice r0.a.p r0.a.n r0.a.c, .slice r0.l.p r0.l.n r0.l.c, .bool r0.b, .slice r1.a.p r1.a.n r1.a.c, .slice r1.l.p r1.l.n r1.l.c, .bool r1.b, .slice r2.a.p r2.a.n r2.a.c, .slice r2.l.p r2.l.n r2.l.c, .bool r2.b, .slice r3.a.p r3.a.n r3.a.c, .slice r3.l.p r3.l.n r3.l.c, .bool r3.b] 35) := ⟨_, rfl⟩
  have k2 : Kept [] w1 w2 := by rw [hw2]; exact (Kept.refl [] w1).alloc _
  have HW := @hideH _ (And.intro (hW.kept k2) (And.intro (k1.then k2) hn2))
  clear hW k1 k2 hn2
  rw [show (flatR [r0, r1, r2, r3]).toArray = #[.slice r0.a.p r0.a.n r0.a.c, .slice r0.l.p r0.l.n r0.l.c, .bool r0.b, .slice r1.a.p r1.a.n r1.a.c, .slice r1.l.p r1.l.n r1.l.c, .bool r1.b, .slice r2.a.p r2.a.n r2.a.c, .slice r2.l.p r2.l.n r2.l.c, .bool r2.b, .slice r3.a.p r3.a.n r3.a.c, .slice r3.l.p r3.l.n r3.l.c, .bool r3.b] from rfl]
  go_upto_region 2 with fail
  rw [← hw2]
  clear hw2
  by_cases hn0 : n = 0
  · subst hn0
    go_wp2_with fail
    refine (known_any O w2).mono ?_
    rintro e w3 ⟨rfl, k3⟩
    go_wp2_with fail
    refine (known_any O w3).mono ?_
    rintro e w4 ⟨rfl, k4⟩
    have HE := @hideH _ ((HW.out.2.1.then k3).then k4)
    clear k3 k4
    go_wp2
    go_ret
    exact ⟨rfl, HE.out⟩
  have hn0' : ((n : Int) == 0) = false := by simp; omega
  go_wp2_with fail
  refine (known_any O w2).mono ?_
  rintro e w3 ⟨rfl, k3⟩
  have HW3 := @hideH _ (And.intro (HW.out.1.kept k3) (And.intro (HW.out.2.1.then k3) HW.out.2.2))
  clear HW k3
  obtain ⟨k, hk⟩ : ∃ k : Nat, at_ % (n : Int) = (k : Int) := ⟨(at_ % (n : Int)).toNat, by have := Int.emod_nonneg at_ (show (n : Int) ≠ 0 by omega); omega⟩
  have hkn : k < n := by have := Int.emod_lt_of_pos at_ (show (0 : Int) < (n : Int) by omega); omega
  have hI := into_any at_ (n : Int) w3 (by omega) (by have := HW3.out.2.2; omega)
  rw [hk] at hI
  clear hk
  have hkn' : (k : Int) < (n : Int) := by omega
  have hk0 : (0 : Int) ≤ (k : Int) := by omega
  obtain ⟨l, hl⟩ : ∃ l, st.lines[k]? = some l := ⟨_, List.getElem?_eq_getElem (by rw [HOK.out.len]; exact hkn)⟩
  obtain ⟨al, hal, hch, hlast, hlen⟩ := HOK.out.ways k l hl
  obtain ⟨gl, ep5, hglo, -, hcl, hfl⟩ := Row.pos (by have q := HW3.out.1.lines; rw [HOK.out.len] at q; exact q) (show 0 < n by omega)
  subst ep5
  have hcc : ∀ (j : Nat) u, l.cells[j]? = some u → w3.cell? ⟨gl, k * 12 + j, none⟩ = some u := fun j u hj => hcl _ u (flatL_at st.lines k l j u hl hj)
  have hLn := HW3.out.1.reads HOK.out.fits
  have hfit := HOK.out.fits l (List.mem_of_getElem? hl)
  have hback : askL false (rdr st.lines false) l.lsn = (al.reverse, 0, al.reverse) := by rw [← hlast]; exact hch.back (by have := HW3.out.2.2; omega)
  have hA := fun (W : World) (kW : Kept [] w3 W) => asking_any O _ st.lines false false l.lsn W (hLn.kept kW (by simp)) hfit.1
  rw [hback] at hA
  obtain ⟨lsn, hlsn⟩ : ∃ x, x = l.lsn := ⟨_, rfl⟩
  have c0 : w3.cell? ⟨gl, k * 12, none⟩ = some (.int .i64 lsn) := by have q := hcc 0 _ rfl; rw [hlsn]; exact q
  rw [← hlsn] at hA
  obtain ⟨ar, har⟩ : ∃ x, x = al.reverse := ⟨_, rfl⟩
  rw [← har] at hA hal
  have HAR := @hideH _ (show 0 < ar.length ∧ ar.length ≤ 300 by rw [har, List.length_reverse]; exact ⟨hch.ne, by have := HW3.out.2.2; omega⟩)
  have HLL := @hideH _ (And.intro hl (And.intro hal (And.intro hlsn (And.intro hfit (And.intro (And.intro hglo hfl) (HOK.out.in_ l (List.mem_of_getElem? hl)).1)))))
  have HCC := @hideH _ hcc
  have HLN := @hideH _ hLn
  clear hl hal hch hlast hlen hcl hfl hcc hLn hfit hback har hlsn hglo hn0 hkn
  go_wp2_with fail
  refine hI.mono ?_
  clear hI
  rintro e wz ⟨rfl, hwz⟩
  rw [hwz]
  clear hwz wz
  obtain ⟨na, hna⟩ : ∃ x, x = ar.length := ⟨_, rfl⟩
  have HNA := hideH hna
  clear hna
  have hAa := hA w3 (Kept.refl [] w3)
  have c0a := ((Kept.refl [] w3)).cell c0 (by simp)
  go_wp2_with fail
  refine hAa.mono ?_
  clear hAa c0a
  rintro e w4 ⟨va, pa, rfl, nsa, npa, -, ka⟩
  obtain ⟨paa, caa, eaa⟩ := nsa.shape
  subst eaa
  obtain ⟨ppa, cpa, epa⟩ := npa.shape
  subst epa
  clear npa
  simp only at nsa ⊢
  rw [← HNA.out] at nsa ⊢
  have K4 : Kept [] w3 w4 := ka
  have hAb := hA w4 K4
  have c0b := (K4).cell c0 (by simp)
  go_wp2_with fail
  refine hAb.mono ?_
  clear hAb c0b
  rintro e w5 ⟨vb, pb, rfl, nsb, npb, -, kb⟩
  obtain ⟨pab, cab, eab⟩ := nsb.shape
  subst eab
  obtain ⟨ppb, cpb, epb⟩ := npb.shape
  subst epb
  clear npb
  simp only at nsb ⊢
  rw [← HNA.out] at nsb ⊢
  have K5 : Kept [] w3 w5 := K4.then kb
  go_wp2_with fail
  refine (book_any w5).mono ?_
  rintro e w6 ⟨vbc, rfl, hLc, kbc⟩
  obtain ⟨pbc, cbc, ebc, -⟩ := hLc.shape
  subst ebc
  have hAc := asking_any O _ bookL false true 109 w6 hLc ⟨by omega, by omega⟩
  rw [show askL true (rdr bookL false) 109 = ([109, 35], 0, [109, 35, 1]) from book_undo] at hAc
  go_wp2_with fail
  refine hAc.mono ?_
  clear hAc hLc
  rintro e w7 ⟨vc, pc, rfl, nsc, npc, -, kc⟩
  obtain ⟨pac, cac, eac⟩ := nsc.shape
  subst eac
  obtain ⟨ppc, cpc, epc⟩ := npc.shape
  subst epc
  clear npc
  simp only at nsc ⊢
  skip
  have K7 : Kept [] w3 w7 := (K5.then kbc).then kc
  go_wp2_with fail
  refine (book_any w7).mono ?_
  rintro e w8 ⟨vbd, rfl, hLd, kbd⟩
  obtain ⟨pbd, cbd, ebd, -⟩ := hLd.shape
  subst ebd
  have hAd := asking_any O _ bookL false true 109 w8 hLd ⟨by omega, by omega⟩
  rw [show askL true (rdr bookL false) 109 = ([109, 35], 0, [109, 35, 1]) from book_undo] at hAd
  go_wp2_with fail
  refine hAd.mono ?_
  clear hAd hLd
  rintro e w9 ⟨vd, pd, rfl, nsd, npd, -, kd⟩
  obtain ⟨pad, cad, ead⟩ := nsd.shape
  subst ead
  obtain ⟨ppd, cpd, epd⟩ := npd.shape
  subst epd
  clear npd
  simp only at nsd ⊢
  skip
  have K9 : Kept [] w3 w9 := (K7.then kbd).then kd
  have nsc' : Ns w7 w6.heap.size (.slice pac 2 cac) [109, 35] := nsc
  have nsd' : Ns w9 w8.heap.size (.slice pad 2 cad) [109, 35] := nsd
  have n9a := nsa.kept (((kb.then kbc).then kc).then (kbd.then kd)) (by simp)
  have n9b := nsb.kept ((kbc.then kc).then (kbd.then kd)) (by simp)
  have n9c := nsc'.kept (kbd.then kd) (by simp)
  have s34 := ka.size
  have s45 := kb.size
  have s57 := (kbc.then kc).size
  have s56 := kbc.size
  have s78 := kbd.size
  have s89 := kd.size
  have s67 := kc.size
  have ab := Apt1.of n9a n9b (fun y hy => (nsa.lt hy).2)
  have ac := Apt1.of n9a n9c (fun y hy => by have := (nsa.lt hy).2; omega)
  have ad := Apt1.of n9a nsd' (fun y hy => by have := (nsa.lt hy).2; omega)
  have bc := Apt1.of n9b n9c (fun y hy => by have := (nsb.lt hy).2; omega)
  have bd := Apt1.of n9b nsd' (fun y hy => by have := (nsb.lt hy).2; omega)
  have cd := Apt1.of n9c nsd' (fun y hy => by have := (nsc'.lt hy).2; omega)
  have F9 := FN.four (n9a.mono (b' := w3.heap.size) (by omega)) (n9b.mono (b' := w3.heap.size) (by omega)) (n9c.mono (b' := w3.heap.size) (by omega)) (nsd'.mono (b' := w3.heap.size) (by omega)) ab ac ad bc bd cd
  rw [← HNA.out] at F9
  obtain ⟨w10, hw10⟩ : ∃ wx, wx = w9.alloc (.cells #[.slice paa na caa, .slice pab na cab, .slice pac 2 cac, .slice pad 2 cad] 24) := ⟨_, rfl⟩
  have k10 : Kept [] w9 w10 := by rw [hw10]; exact (Kept.refl [] w9).alloc _
  have B10 : Blk w10 w9.heap.size 24 [.slice paa na caa, .slice pab na cab, .slice pac 2 cac, .slice pad 2 cad] := by rw [hw10]; exact Blk.new w9 _ _
  have A10 : Al4 w3 w10 w9.heap.size (four1 (.slice paa na caa) (.slice pab na cab) (.slice pac 2 cac) (.slice pad 2 cad)) (four1 na na 2 2) := ⟨all4' (B10.cell (j := 0) rfl) (B10.cell (j := 1) rfl) (B10.cell (j := 2) rfl) (B10.cell (j := 3) rfl), all4' (fun q => by have := (n9a.lt q).2; omega) (fun q => by have := (n9b.lt q).2; omega) (fun q => by have := (n9c.lt q).2; omega) (fun q => by have := (nsd'.lt q).2; omega), B10.lt, K9.size, K9.then k10, all4' (by have := HAR.out; have := HNA.out; exact ⟨by show 0 < na; omega, by show na ≤ 300; omega⟩) (by have := HAR.out; have := HNA.out; exact ⟨by show 0 < na; omega, by show na ≤ 300; omega⟩) ⟨by show 0 < 2; omega, by show 2 ≤ 300; omega⟩ ⟨by show 0 < 2; omega, by show 2 ≤ 300; omega⟩⟩
  have S10 : St1 w3 w10 w9.heap.size (four1 (.slice paa na caa) (.slice pab na cab) (.slice pac 2 cac) (.slice pad 2 cad)) (four1 na na 2 2) 0 0 := St1.start (FN.then F9 k10) A10
  obtain ⟨gA, hgA⟩ : ∃ g, g = w9.heap.size := ⟨_, rfl⟩
  obtain ⟨os, hos⟩ : ∃ o : Nat → Value, o = (four1 (.slice paa na caa) (.slice pab na cab) (.slice pac 2 cac) (.slice pad 2 cad)) := ⟨_, rfl⟩
  obtain ⟨ns, hns⟩ : ∃ o : Nat → Nat, o = four1 na na 2 2 := ⟨_, rfl⟩
  rw [← hgA, ← hos, ← hns] at S10
  have HS1 := @hideH _ S10
  clear S10 A10 B10 F9 ab ac ad bc bd cd s34 s45 s57 s56 s78 s89 s67 n9a n9b n9c nsc' nsd' nsa nsb nsc nsd ka kb kbc kc kbd kd K4 K5 K7 K9 k10 hos hns
  go_upto_region 10 with fail
  rw [← hw10, ← hgA]
  clear hw10 hgA
  go_wp2
  go_loopw [23] (fun vi wr => ∃ t : Nat, t ≤ 4 ∧ vi = .int .i64 t ∧ Hid (St1 w3 wr gA os ns t 0)) (fun vi _ => 4 - (intOf vi).toNat)
  case atStart => exact ⟨0, Nat.zero_le _, rfl, HS1⟩
  case round =>
    clear HS1
    obtain ⟨t, ht, rfl, hh⟩ := hrel
    by_cases ht4 : t < 4
    case pos =>
      have ht4' : (t : Int) < (4 : Int) := by omega
      have ht0 : (0 : Int) ≤ (t : Int) := by omega
      have wt : IntKind.i64.wrap ((t : Int) + 1) = (t : Int) + 1 := wrap_i64_of (by omega) (by omega)
      have wm : IntKind.i64.wrap (-1 - (t : Int)) = -1 - (t : Int) := wrap_i64_of (by omega) (by omega)
      clear ht
      obtain ⟨wo, rfl⟩ : ∃ wo, wo = wr := ⟨_, rfl⟩
      go_wp2
      go_loopw [24] (fun vj wr => ∃ s : Nat, vj = .int .i64 s ∧ Hid (s ≤ ns t ∧ St1 w3 wr gA os ns t s)) (fun vj _ => ns t - (intOf vj).toNat)
      case atStart => exact ⟨0, rfl, Nat.zero_le _, hh.out⟩
      case round =>
        clear hh
        obtain ⟨s, rfl, hh⟩ := hrel
        obtain ⟨g, c, -, hcell, hn300, hst⟩ := hh.out.2.at ht4
        obtain ⟨nt, hnt⟩ : ∃ x, x = ns t := ⟨_, rfl⟩
        rw [← hnt] at hcell hn300 hst
        have HNT := hideH hnt
        clear hnt
        by_cases hs : s < nt
        case pos =>
          have hs' : (s : Int) < (nt : Int) := by omega
          have hs0 : (0 : Int) ≤ (s : Int) := by omega
          have ws : IntKind.i64.wrap ((s : Int) + 1) = (s : Int) + 1 := wrap_i64_of (by omega) (by omega)
          obtain ⟨⟨u, hu⟩, hfz, hnx⟩ := hst hs
          unfold mk4 at hnx
          have HNX := @hideH _ (And.intro hnx (show s < nt from hs))
          clear hst hnx hh hn300 hs
          go_wp2
          go_roundw
          case rel => exact ⟨s + 1, by go_num, by have := HNX.out.2; have := HNT.out; omega, HNX.out.1⟩
          case measure => have e1 := HNX.out.2; have e2 := HNT.out; simp [intOf]; omega
        case neg =>
          have hs' : ¬ (s : Int) < (nt : Int) := by omega
          have es : s = ns t := by have e1 := hh.out.1; have e2 := HNT.out; omega
          have hh2 : St1 w3 wr gA os ns t (ns t) := by rw [← es]; exact hh.out.2
          have HNX := @hideH _ (St1.next hh2 ht4)
          clear es hh2
          clear hst hh hs hn300
          go_wp2
          go_roundw
          case rel => exact ⟨t + 1, by omega, by go_num, HNX⟩
          case measure => simp [intOf]; omega
    case neg =>
      have et : t = 4 := by omega
      have ht4' : ¬ (t : Int) < (4 : Int) := by omega
      have HS2 := @hideH _ (show St2 w3 wr gA os ns 0 0 (os 0) (.slice none 0 0) [] from St2.start (by have q := hh.out; rw [et] at q; exact q))
      clear hh ht ht4 et
      go_wp2
      go_loopw [22, 25] (fun vL vi wr => ∃ (t : Nat) (pL : Option Addr) (cL : Nat), t ≤ 4 ∧ vL = .slice pL t cL ∧ vi = .int .i64 t ∧ ∃ lv, Hid (St2 w3 wr gA os ns t 0 (os t) (.slice pL t cL) lv)) (fun _ vi _ => 4 - (intOf vi).toNat)
      case atStart => exact ⟨0, _, _, Nat.zero_le _, rfl, rfl, [], HS2⟩
      case round =>
        clear HS2 ht4'
        obtain ⟨t, pL, cL, ht, rfl, rfl, lv, hh⟩ := hrel
        by_cases ht4 : t < 4
        case pos =>
          have ht4' : (t : Int) < (4 : Int) := by omega
          have ht0 : (0 : Int) ≤ (t : Int) := by omega
          have wt : IntKind.i64.wrap ((t : Int) + 1) = (t : Int) + 1 := wrap_i64_of (by omega) (by omega)
          have wm : IntKind.i64.wrap (-1 - (t : Int)) = -1 - (t : Int) := wrap_i64_of (by omega) (by omega)
          obtain ⟨g, c, eos, hcell⟩ := hh.out.first ht4
          have HOS := @hideH _ (show St2 w3 wr gA os ns t 0 (.slice (some ⟨g, 0, none⟩) (ns t + 0) c) (.slice pL t cL) lv from by rw [Nat.add_zero, ← eos]; exact hh.out)
          obtain ⟨nt, hnt⟩ : ∃ x, x = ns t := ⟨_, rfl⟩
          rw [← hnt] at hcell HOS
          have HNT := hideH hnt
          clear hnt eos hh ht
          obtain ⟨wo, rfl⟩ : ∃ wo, wo = wr := ⟨_, rfl⟩
          go_wp2
          go_loopw [26, 27] (fun vm vj wr => ∃ (s : Nat) (pm : Option Addr) (cm : Nat), s ≤ 40 ∧ vm = .slice pm (nt + s) cm ∧ vj = .int .i64 s ∧ Hid (St2 w3 wr gA os ns t s (.slice pm (nt + s) cm) (.slice pL t cL) lv)) (fun _ vj _ => 40 - (intOf vj).toNat)
          case atStart => exact ⟨0, _, _, Nat.zero_le _, rfl, rfl, HOS⟩
          case round =>
            clear HOS hcell
            obtain ⟨s, pm, cm, hs, rfl, rfl, hh⟩ := hrel
            by_cases hs40 : s < 40
            case pos =>
              have hs' : (s : Int) < (40 : Int) := by omega
              have ws : IntKind.i64.wrap ((s : Int) + 1) = (s : Int) + 1 := wrap_i64_of (by omega) (by omega)
              obtain ⟨cs, hrow, hmk, hb3, hbA, h300⟩ := hh.out.row ht4
              rw [← HNT.out] at hrow hmk h300
              have hsrc := src_i64 (P := Try.prog) wr 24 3 Try.underlying24 (-1 - (t : Int))
              have ka : Kept [] wr (wr.alloc (.cells #[.int .i64 (-1 - (t : Int))] 3)) := (Kept.refl [] wr).alloc _
              have hrow2 := Row.kept hrow ka (by simp)
              have HBD := @hideH _ (And.intro (show nt + s ≤ 340 by omega) (And.intro hb3 (And.intro hs40 (And.intro hrow (And.intro hmk ka)))))
              clear hs40 hs h300 hb3 hbA hrow hmk
              go_wp2_with (at_builtin; refine wpList_append_row2 rfl (.tmp 123) (.tmp 126) 24 rfl w3.heap.size 3 inf (.int .i64 0) 1 8 Try.underlying24 HI.out.1 HI.out.2.1 HI.out.2.2.1 HI.out.2.2.2 rfl _ _ _ (by rfl) hrow2 _ 1 [.int .i64 (-1 - (t : Int))] (by rfl) hsrc (by have := HBD.out.1; omega) (by have := HBD.out.1; unfold maxLen; omega) (by have := HBD.out.1; omega) (by have := HBD.out.2.1; rw [World.size_alloc]; omega) ?_; intro v5 w5 r5 k5 at5; obtain ⟨p5', c5', hv5, -⟩ := Row.shape r5; subst hv5; have H5 := @hideH _ (And.intro r5 (And.intro k5 at5)); clear r5 k5 at5 hsrc hrow2 ka)
              have HNX := @hideH _ (show St2 w3 w5 gA os ns t (s + 1) (.slice p5' (nt + (s + 1)) c5') (.slice pL t cL) lv from hh.out.app ht4 (by rw [← HNT.out]; exact HBD.out.2.2.2.1) (by rw [← HNT.out]; exact HBD.out.2.2.2.2.1) HBD.out.2.2.2.2.2 (by rw [← HNT.out]; exact H5.out.1) H5.out.2.1 H5.out.2.2)
              have HS40 := @hideH _ HBD.out.2.2.1
              clear hh H5 HBD
              go_roundw
              case rel => exact ⟨s + 1, p5', c5', by have := HS40.out; omega, rfl, by go_num, HNX⟩
              case measure => have := HS40.out; simp [intOf]; omega
            case neg =>
              have es : s = 40 := by omega
              subst es
              obtain ⟨hlr, hbA, hge⟩ := hh.out.lrow
              have hsrc := src_cells (P := Try.prog) wr 1 32 24 Try.underlying32 [.slice pm (nt + 40) cm] rfl (by intro u hu; simp only [List.mem_singleton] at hu; subst hu; rfl) _ rfl
              have ka : Kept [] wr (wr.alloc (.cells #[.slice pm (nt + 40) cm] 24)) := (Kept.refl [] wr).alloc _
              have hrow2 := Row.kept hlr ka (by simp)
              obtain ⟨infW, jW1, jW2, jW3, jW4⟩ := info_parts3 (show (Try.prog.info? 24).map (fun i => (i.zero, i.size, i.bytes)) = some (some (.slice none 0 0), 1, 24) by kernel_rfl)
              have HJW := @hideH _ (And.intro jW1 (And.intro jW2 (And.intro jW3 jW4)))
              clear jW1 jW2 jW3 jW4
              have HBD := @hideH _ (And.intro hbA (And.intro ht4 ka))
              have hs' : ¬ ((40 : Nat) : Int) < (40 : Int) := by omega
              clear hlr hbA hge hs hs40
              go_wp2_with (at_builtin; refine wpList_append_row2 rfl (.tmp 128) (.tmp 130) 32 rfl (gA + 1) 24 infW (.slice none 0 0) 1 24 Try.underlying32 HJW.out.1 HJW.out.2.1 HJW.out.2.2.1 HJW.out.2.2.2 rfl _ _ _ (by rfl) hrow2 _ 1 [.slice pm (nt + 40) cm] (by rfl) hsrc (by have := HBD.out.2.1; omega) (by have := HBD.out.2.1; unfold maxLen; omega) (by have := HBD.out.2.1; omega) (by have := HBD.out.1; rw [World.size_alloc]; omega) ?_; intro v5 w5 r5 k5 at5; obtain ⟨p5', c5', hv5, -⟩ := Row.shape r5; subst hv5; have H5 := @hideH _ (And.intro r5 (And.intro k5 at5)); clear r5 k5 at5 hsrc hrow2 ka)
              have HNX := @hideH _ (show St2 w3 w5 gA os ns (t + 1) 0 (os (t + 1)) (.slice p5' (t + 1) c5') (lv ++ [.slice pm (nt + 40) cm]) from hh.out.long HBD.out.2.1 HBD.out.2.2 H5.out.1 H5.out.2.1 H5.out.2.2)
              clear hh H5 HBD
              go_roundw
              case rel => exact ⟨t + 1, p5', c5', by omega, rfl, by go_num, _, HNX⟩
              case measure => simp [intOf]; omega
        case neg =>
          have et : t = 4 := by omega
          subst et
          obtain ⟨gL, cL', eL, hrd⟩ := hh.out.read
          cases eL
          have HRD := @hideH _ (And.intro hrd hh.out.kept0)
          have ht4' : ¬ ((4 : Nat) : Int) < (4 : Int) := by omega
          clear hrd hh ht ht4
          obtain ⟨w11, rfl⟩ : ∃ w11, w11 = wr := ⟨_, rfl⟩
          go_wp2
          go_loopw [28] (fun vi wr => ∃ t : Nat, t ≤ 4 ∧ vi = .int .i64 t ∧ wr = w11) (fun vi _ => 4 - (intOf vi).toNat)
          case atStart => exact ⟨0, Nat.zero_le _, rfl, rfl⟩
          case round =>
            clear ht4'
            obtain ⟨t, ht, rfl, rfl⟩ := hrel
            by_cases ht4 : t < 4
            case pos =>
              have ht4' : (t : Int) < (4 : Int) := by omega
              have ht0 : (0 : Int) ≤ (t : Int) := by omega
              have wt : IntKind.i64.wrap ((t : Int) + 1) = (t : Int) + 1 := wrap_i64_of (by omega) (by omega)
              have wm : IntKind.i64.wrap (-1 - (t : Int)) = -1 - (t : Int) := wrap_i64_of (by omega) (by omega)
              obtain ⟨gv, cv', go, co, hc1, hc2, hc3, hc4⟩ := HRD.out.1 t ht4
              unfold mk4 at hc2 hc4
              obtain ⟨nt, hnt⟩ : ∃ x, x = ns t := ⟨_, rfl⟩
              rw [← hnt] at hc1 hc2 hc3 hc4
              have HNT := @hideH _ (show nt ≤ 300 by rw [hnt]; exact HRD.out.2.2 t ht4)
              have HC := @hideH _ (And.intro hc2 hc4)
              clear hnt hc2 hc4 ht
              skip
              go_wp2
              go_loopw [29] (fun vj wx => ∃ s : Nat, s ≤ nt + 40 ∧ vj = .int .i64 s ∧ wx = wr) (fun vj _ => nt + 40 - (intOf vj).toNat)
              case atStart => exact ⟨0, Nat.zero_le _, rfl, rfl⟩
              case round =>
                obtain ⟨s, hs, rfl, hwx⟩ := hrel
                subst hwx
                by_cases hs40 : s < nt + 40
                case pos =>
                  have hs' : (s : Int) < (nt : Int) + 40 := by omega
                  have hs0 : (0 : Int) ≤ (s : Int) := by omega
                  have ws : IntKind.i64.wrap ((s : Int) + 1) = (s : Int) + 1 := wrap_i64_of (by omega) (by have := HNT.out; omega)
                  have d1 := HC.out.1 s hs40
                  by_cases hsn : s < nt
                  · have hsn' : (s : Int) < (nt : Int) := by omega
                    have d2 := HC.out.2 s hsn
                    clear hsn hs
                    go_wp2
                    go_roundw
                    case rel => exact ⟨s + 1, by omega, by go_num, by first | rfl | trivial⟩
                    case measure => simp [intOf]; omega
                  · have hsn' : ¬ (s : Int) < (nt : Int) := by omega
                    clear hsn hs
                    go_wp2
                    go_roundw
                    case rel => exact ⟨s + 1, by omega, by go_num, by first | rfl | trivial⟩
                    case measure => simp [intOf]; omega
                case neg =>
                  have hs' : ¬ (s : Int) < (nt : Int) + 40 := by omega
                  clear hs hs40
                  go_wp2
                  go_roundw
                  case rel => exact ⟨t + 1, by omega, by go_num, by first | rfl | trivial⟩
                  case measure => simp [intOf]; omega
            case neg =>
              have ht4' : ¬ (t : Int) < (4 : Int) := by omega
              clear ht ht4
              skip
              have K0 := HRD.out.2.1
              have hA2 := hA wr K0
              have d0 := K0.cell c0 (by simp)
              obtain ⟨vk, hvk, hsk⟩ := HW3.out.1.wayl k _ HLL.out.2.1
              obtain ⟨gw, cw, ew, cwk⟩ := Row.get HW3.out.1.ways hvk
              obtain rfl : p6 = some ⟨gw, 0, none⟩ := by have e := ew; simp at e; exact e.1
              obtain ⟨pk, ck, ek⟩ := hsk.1.shape
              subst ek
              rw [← HNA.out] at cwk hsk
              have cwk2 := K0.cell cwk (by simp)
              have hsk2 := hsk.1.kept K0 (by simp)
              have HSK := @hideH _ hsk2
              have HK0 := @hideH _ K0
              clear hvk hsk ew cwk hsk2 hA K0
              go_wp2_with fail
              refine hA2.mono ?_
              clear hA2
              rintro e w13 ⟨v13, p13, rfl, n13, np13, -, k13⟩
              obtain ⟨pa13, ca13, ea13⟩ := n13.shape
              subst ea13
              obtain ⟨pp13, cp13, ep13⟩ := np13.shape
              subst ep13
              clear np13
              simp only at n13 ⊢
              rw [← HNA.out] at n13 ⊢
              have cwk3 := k13.cell cwk2 (by simp)
              have sk3 := HSK.out.kept k13 (by simp)
              have K13 := HK0.out.then k13
              clear cwk2 d0 k13
              go_wp2_with fail
              refine (same_eq _ _ ar _ _ w13 n13 sk3).mono ?_
              rintro e w14 ⟨rfl, k14⟩
              have K14 := K13.then k14
              clear n13 sk3 cwk3 K13 k14
              have nna : (((na : Nat) : Int) != ((na : Nat) : Int)) = false := by simp
              have ck1 : w14.cell? ⟨gl, k * 12 + 1, none⟩ = some (.int .i64 l.r.kind) := K14.cell (HCC.out 1 _ rfl) (by simp)
              obtain ⟨kd, hkd⟩ : ∃ x, x = l.r.kind := ⟨_, rfl⟩
              rw [← hkd] at ck1
              have HKD := hideH hkd
              clear hkd
              have HKW := @hideH _ (HW3.out.2.1.then K14)
              by_cases hk1 : kd = 1
              · subst hk1
                go_wp2
                go_ret
                exact ⟨rfl, HKW.out⟩
              have hk1' : (kd == 1) = false := by simpa using hk1
              have e0 := K14.cell c0 (by simp)
              have e3 : ∃ u, w14.cell? ⟨gl, k * 12 + 3, none⟩ = some u := ⟨_, K14.cell (HCC.out 3 _ rfl) (by simp)⟩
              obtain ⟨u3, e3⟩ := e3
              have hRow := HW3.out.1.lines.kept K14 (by simp)
              have hcap : k * 12 + 3 < c5 * 12 := by obtain ⟨_, _, p', c', e, q1, q2, _⟩ := HW3.out.1.lines; cases e; have := HOK.out.len; omega
              have f3 : w14.frozen? ⟨gl, k * 12 + 3, none⟩ = false := by have q := (HLL.out.2.2.2.2.1.2 (k * 12 + 3) hcap).2; have hb := K14.block gl (lt_of_cell (HCC.out 1 _ rfl)) (by simp); exact (frozen_of_block (a := ⟨gl, k * 12 + 3, none⟩) hb).trans q
              obtain ⟨hLs, kS⟩ := lines_spoil (c := c5) (n := n) (g := gl) (base := w.heap.size + 1) hRow HOK.out.fits HLL.out.1
              rw [← HLL.out.2.2.1] at hLs kS
              obtain ⟨w15, hw15⟩ : ∃ wx, wx = w14.setCell ⟨gl, k * 12 + 3, none⟩ (.int .i64 lsn) := ⟨_, rfl⟩
              rw [← hw15] at hLs kS
              have hA3 := asking_any O _ _ false false lsn w15 hLs (by rw [HLL.out.2.2.1]; exact HLL.out.2.2.2.1.1)
              have h120 : (askL false (rdr (st.lines.set k (spoil l)) false) lsn).2.1 = 120 := by rw [HLL.out.2.2.1]; exact back_spoilt HLL.out.1 HUP.out HLL.out.2.2.2.2.2 (by rw [← HKD.out]; exact hk1)
              rw [h120] at hA3
              have e0' : w15.cell? ⟨gl, k * 12, none⟩ = some (.int .i64 lsn) := by obtain ⟨b, o', eb, hat, -⟩ := hLs.at (k := k) (l := spoil l) (by rw [List.getElem?_set_self (by have := HOK.out.len; omega)]); cases eb; have q := hat 0 _ rfl; rw [Nat.zero_add] at q; rw [HLL.out.2.2.1]; exact q
              have HKF := @hideH _ (HKW.out.trans kS (fun x hx => .inr (by simp at hx; have := HLL.out.2.2.2.2.1.1; omega)))
              clear hLs kS h120 hRow hcap hk1 K14
              go_upto_region 41 with fail
              rw [← hw15]
              clear hw15 e0 e3 f3
              go_wp2_with fail
              refine hA3.mono ?_
              clear hA3
              rintro e w16 ⟨v16, p16, rfl, n16, np16, -, k16⟩
              have HKG := @hideH _ (HKF.out.then k16)
              clear n16 np16 k16
              go_wp2
              go_ret
              exact ⟨rfl, HKG.out⟩
end Go.Proofs.Ytinlhojojeabcaa

