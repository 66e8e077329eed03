import Derived.Deep.CutBlock
import Derived.Test.YtpbcfkfhkenhpaaC2
/-
  OWN WORK (by mkrma.py). The law: RoomHolds.
-/
namespace Go.Proofs.Ytpbcfkfhkenhpaa
open Go.RowKit
set_option linter.unusedVariables false
set_option linter.unusedSimpArgs false

set_option maxRecDepth 20000 in
set_option maxHeartbeats 25600000 in
theorem roomHolds_walk {Rm : World → Nat → List Nat → Int → List Tx → Prop} (O : RmOps Rm) (a : Int) (v : Value) (ss : List LifeR) (w : World) (hS : Lfs w v ss) : Calls Try.prog 6 #[.int .i64 a, v] w fun e w' => e = .returned (.bool true) ∧ Kept [] w w' := by
  obtain ⟨ps, cs, hv, hml⟩ := hS.shape
  subst hv
  obtain ⟨n, hn⟩ : ∃ n, n = ss.length := ⟨_, rfl⟩
  have HS := @hideH _ hS
  have HN := @hideH _ (show n = ss.length ∧ n ≤ maxLen from ⟨hn, by omega⟩)
  rw [← hn]
  clear hS hml hn
  obtain ⟨infI, hin1, hin2, hin3, hin4⟩ := info_parts3 (show (Try.prog.info? 3).map (fun i => (i.zero, i.size, i.bytes)) = some (some (.int .i64 0), 1, 8) by kernel_rfl)
  have HII := @hideH _ (And.intro hin1 (And.intro hin2 (And.intro hin3 hin4)))
  clear hin1 hin2 hin3 hin4
  go_enter Try.func6, Try.ntmps6
  go_wp2_with fail
  refine (head_any O w).mono ?_
  rintro e w1 ⟨rfl, k1⟩
  go_upto_if 21 with fail
  go_cut [0] (fun s wx => ∃ A : Int, s = .int .i64 A ∧ wx = w1 ∧ Hid (0 ≤ A ∧ A < 100000))
  case first =>
    have ht := tmod_small a
    have HT := @hideH _ ht
    by_cases hneg : a.tmod 100000 < 0
    · have wn : IntKind.i64.wrap (-(a.tmod 100000)) = -(a.tmod 100000) := wrap_i64_of (by omega) (by omega)
      clear ht
      go_wp2
      go_meet
      case rel => exact ⟨_, rfl, rfl, by have := HT.out; omega, by have := HT.out; omega⟩
    · clear ht
      go_wp2
      go_meet
      case rel => exact ⟨_, rfl, rfl, by have := HT.out; omega, by have := HT.out; omega⟩
  case rest =>
    obtain ⟨A, hs0, hwx, hA⟩ := hcut
    subst hs0 hwx
    have HA := @hideH _ hA.out
    clear hA
    go_wp2_with fail
    refine (O.new A _ (i64_mid HA.out.1 (by have := HA.out; omega))).mono ?_
    rintro e w2 ⟨gP, F, rfl, l2, hF, k2⟩
    obtain ⟨w3, hw3⟩ : ∃ wx, wx = w2.alloc (.cells #[.slice none 0 0, .slice none 0 0, .slice none 0 0, .slice none 0 0, .slice none 0 0, .slice none 0 0, .slice none 0 0, .slice none 0 0] 41) := ⟨_, rfl⟩
    obtain ⟨w4, hw4⟩ : ∃ wx, wx = w3.alloc (.cells #[.bool false, .bool false, .bool false, .bool false, .bool false, .bool false, .bool false, .bool false] 42) := ⟨_, rfl⟩
    have k3 : Kept [] w2 w3 := by rw [hw3]; exact (Kept.refl [] w2).alloc _
    have k4 : Kept [] w3 w4 := by rw [hw4]; exact (Kept.refl [] w3).alloc _
    have e3 : w3.heap.size = w2.heap.size + 1 := by rw [hw3, World.size_alloc]
    have B3 : Blk w3 w2.heap.size 41 (List.replicate 8 (.slice none 0 0)) := by rw [hw3]; exact Blk.new w2 _ _
    have B4 : Blk w4 w3.heap.size 42 ((List.replicate 8 false).map Value.bool) := by rw [hw4]; exact Blk.new w3 _ _
    have s1 := k1.size
    have s2 := k2.size
    have A0 : H0 Rm w w4 gP w2.heap.size w3.heap.size A F [] (List.replicate 8 (.slice none 0 0)) (List.replicate 8 []) (List.replicate 8 false) := by
      refine ⟨O.kept l2 (k3.then k4) (by simp), B3.kept k4 (by simp), B4, fun b v l h1 h2 => ?_, fun b b' v v' hne h1 h2 => ?_, fun v hv x hx => ?_, fun x hx => ?_, ⟨by omega, by omega, by omega⟩, by simp, by simp, ((k1.then k2).then k3).then k4⟩
      · rw [List.getElem?_replicate] at h1 h2
        split at h1
        · rename_i c
          rw [if_pos c] at h2
          cases h1
          cases h2
          exact Ns.nil _ _
        · cases h1
      · rw [List.getElem?_replicate] at h2
        split at h2
        · cases h2; exact Ap.none rfl
        · cases h2
      · rw [List.eq_of_mem_replicate hv] at hx
        cases hx
      · have e1 := hF x hx; have e2 := O.lt l2 x hx; exact ⟨by omega, by omega, by omega⟩
    have HA0 := @hideH _ (show HH Rm w w4 gP w2.heap.size (w2.heap.size + 1) A 0 from ⟨F, [], _, _, _, by rw [← e3]; exact A0, Pl.start, by omega, by simp [keptT]; exact HA.out.1⟩)
    obtain ⟨gO, hgO⟩ : ∃ g, g = w2.heap.size := ⟨_, rfl⟩
    obtain ⟨gI, hgI⟩ : ∃ g, g = w2.heap.size + 1 := ⟨_, rfl⟩
    rw [← hgI, ← hgO] at HA0
    clear A0 B3 B4 k1 k2 k3 k4 l2 hF s1 s2 e3
    go_upto_region 12 with fail
    rw [← hw3, ← hw4, ← hgI, ← hgO]
    clear hw3 hw4 hgO hgI
    go_wp2
    go_loopw [6, 9, 10, 11, 12, 13] (fun v6 v9 v10 v11 v12 v13 wr => ∃ (k : Nat) (U : Int), k ≤ n ∧ v9 = .int .i64 k ∧ v6 = .int .i64 U ∧ Hid (HH Rm w wr gP gO gI A U)) (fun _ vi _ _ _ _ _ => n - (intOf vi).toNat)
    case atStart => exact ⟨0, 0, Nat.zero_le _, rfl, rfl, HA0.out⟩
    case round =>
      clear HA0
      obtain ⟨k, U, hk, rfl, rfl, hh⟩ := hrel
      obtain ⟨F, T, vs, ops, fls, H, pl, hU0, hU⟩ := hh.out
      clear hh
      have HH1 := @hideH _ H
      have HP := @hideH _ pl
      have HU := @hideH _ (show 0 ≤ U ∧ U + keptT T ≤ A ∧ 0 ≤ keptT T ∧ A < 100000 from ⟨hU0, hU, pl.ok.kept.1, HA.out.2⟩)
      clear H pl hU0 hU
      by_cases hkl : k < n
      rotate_left
      · have hkl' : ¬ (k : Int) < (n : Int) := by omega
        as_aux_lemma =>
          have HR := @hideH _ (sumHk_range (fls := fls) (HP.out.all (a := A) (by have := HU.out; omega) HA.out.2))
          obtain ⟨wz, hwz⟩ : ∃ wz, wz = wr := ⟨_, rfl⟩
          rw [← hwz] at HH1
          rw [← hwz]
          clear hkl hk hwz
          go_wp2
          go_loopw [6, 14, 15] (fun v6 vb vk wq => ∃ b : Nat, b ≤ 8 ∧ vb = .int .i64 b ∧ v6 = .int .i64 (U + sumHk b ops fls) ∧ wq = wz) (fun _ vb _ _ => 8 - (intOf vb).toNat)
          case atStart => exact ⟨0, by omega, rfl, by simp [sumHk], rfl⟩
          case round =>
            obtain ⟨b, hb, rfl, rfl, hw⟩ := hrel
            rw [hw]
            clear hw
            by_cases hb8 : b < 8
            rotate_left
            · obtain rfl : b = 8 := by omega
              have HE := @hideH _ (show U + sumHk 8 ops fls ≤ A by rw [sumHk_all HP.out.lo HP.out.lf, ← HP.out.eq]; exact HU.out.2.1)
              obtain ⟨Z, hZ⟩ : ∃ Z, Z = U + sumHk 8 ops fls := ⟨_, rfl⟩
              rw [← hZ]
              have hZA : Z ≤ A := by rw [hZ]; exact HE.out
              clear hZ
              go_wp2
              go_ret
              exact ⟨by first | rfl | simp, HH1.out.kp⟩
            have hb' : (b : Int) < 8 := by omega
            have hb0 : (0 : Int) ≤ (b : Int) := by omega
            have wb : IntKind.i64.wrap ((b : Int) + 1) = (b : Int) + 1 := wrap_i64_of (by omega) (by omega)
            obtain ⟨vu, l, hv, hl, ns, c0, -⟩ := HH1.out.list hb8
            obtain ⟨fl, hf⟩ := flag_of HP.out.lf hb8
            have cf := (HH1.out.flag hf).1
            obtain ⟨pu, cu, hvu, -, -⟩ := ns.shape
            subst hvu
            obtain ⟨nu, hnu⟩ : ∃ nu, nu = l.length := ⟨_, rfl⟩
            have HNS := @hideH _ (And.intro ns (And.intro hnu (And.intro hl hf)))
            have HRG := @hideH _ (HP.out.rng hb8 hl)
            rw [← hnu] at c0
            have HX := @hideH _ (show sumHk (b + 1) ops fls = sumHk b ops fls + sumU l + f99 fl by simp only [sumHk, getD_of hl, getD_of hf])
            have HR0 := @hideH _ (HR.out b)
            obtain ⟨Z, hZ⟩ : ∃ Z, Z = U + sumHk b ops fls := ⟨_, rfl⟩
            rw [← hZ]
            have HZ := @hideH _ (show 0 ≤ Z ∧ Z ≤ 1000000 by rw [hZ]; have e1 := HR0.out; have e2 := HU.out; omega)
            have HZZ := @hideH _ hZ
            clear hZ ns hv hl hf hnu
            go_wp2
            go_loopw [6, 15] (fun v6 vk wq => ∃ j : Nat, j ≤ nu ∧ vk = .int .i64 j ∧ v6 = .int .i64 (Z + sumU (l.drop j)) ∧ wq = wz) (fun _ vk _ => (intOf vk).toNat)
            case atStart => exact ⟨nu, Nat.le_refl _, rfl, by rw [List.drop_of_length_le (by have := HNS.out.2.1; omega)]; simp [sumU], rfl⟩
            case round =>
              obtain ⟨j, hj, rfl, rfl, hw⟩ := hrel
              rw [hw]
              clear hw
              obtain ⟨s1, hs1⟩ : ∃ s, s = sumU (l.drop j) := ⟨_, rfl⟩
              have HS1 := @hideH _ (show s1 = sumU (l.drop j) ∧ 0 ≤ s1 ∧ s1 ≤ 100000 from ⟨hs1, by rw [hs1]; exact (drop_range HRG.out.1 j).1, by rw [hs1]; have e1 := (drop_range HRG.out.1 j).2; have e2 := HRG.out.2.2; have e3 := HU.out; omega⟩)
              rw [← hs1]
              clear hs1
              by_cases hj0 : j = 0
              rotate_left
              · have hj1 : (0 : Int) < (j : Int) := by omega
                have hj2 : (0 : Int) ≤ (j : Int) - 1 := by omega
                have hj3 : (j : Int) - 1 < (nu : Int) := by omega
                have wj : IntKind.i64.wrap ((j : Int) - 1) = (j : Int) - 1 := wrap_i64_of (by omega) (by have e1 := HNS.out.1.shape; obtain ⟨_, _, _, e2, e3⟩ := e1; unfold maxLen at e3; have := HNS.out.2.1; omega)
                obtain ⟨jj, hjj⟩ : ∃ jj, j = jj + 1 := ⟨j - 1, by omega⟩
                obtain ⟨z, hz⟩ : ∃ z, l[jj]? = some z := ⟨_, List.getElem?_eq_getElem (by have := HNS.out.2.1; omega)⟩
                obtain ⟨gu, hpu, -, -, e0, -⟩ := HNS.out.1.at hz
                subst hpu
                have hjn : ((j : Int) - 1).toNat = jj := by omega
                have HDS := @hideH _ (show sumU (l.drop jj) = 46 + z + s1 by rw [drop_sum hz, ← hjj, ← HS1.out.1])
                have HZI := @hideH _ (HRG.out.1 z (List.mem_of_getElem? hz))
                have hjc : (j : Int) - 1 = (jj : Int) := by omega
                have v1 : IntKind.i64.wrap (Z + s1 + 46) = Z + s1 + 46 := wrap_i64_of (by have e1 := HZ.out; have e2 := HS1.out; omega) (by have e1 := HZ.out; have e2 := HS1.out; omega)
                have v2 : IntKind.i64.wrap (Z + s1 + 46 + z) = Z + s1 + 46 + z := wrap_i64_of (by have e1 := HZ.out; have e2 := HS1.out; have e3 := HZI.out.1; omega) (by have e1 := HZ.out; have e2 := HS1.out; have e3 := HZI.out.2; omega)
                rw [hjc] at wj
                have HJJ := @hideH _ hjj
                clear hz hjj hj0 hj2
                have hjl : (jj : Int) < (nu : Int) := by omega
                have hjp : (0 : Int) ≤ (jj : Int) := by omega
                have wj' : IntKind.i64.wrap ((j : Int) - 1) = (jj : Int) := by rw [hjc]; exact wj
                clear hjc hj3 hjn wj
                go_wp2
                go_roundw
                case rel => exact ⟨jj, by omega, by first | rfl | go_num, by rw [HDS.out]; congr 1; omega, by first | rfl | trivial⟩
                case measure => simp [intOf]; have := HJJ.out; omega
              subst hj0
              have HF0 := @hideH _ (show s1 = sumU l from HS1.out.1)
              have v9 : IntKind.i64.wrap (Z + s1 + 99) = Z + s1 + 99 := wrap_i64_of (by have e1 := HZ.out; have e2 := HS1.out; omega) (by have e1 := HZ.out; have e2 := HS1.out; omega)
              cases fl
              · go_wp2
                go_roundw
                case rel => exact ⟨b + 1, by omega, by go_num, by rw [HX.out, HZZ.out, HF0.out]; congr 1; simp [f99]; omega, by first | rfl | trivial⟩
                case measure => simp [intOf]; omega
              · go_wp2
                go_roundw
                case rel => exact ⟨b + 1, by omega, by go_num, by rw [HX.out, HZZ.out, HF0.out]; congr 1; simp [f99]; omega, by first | rfl | trivial⟩
                case measure => simp [intOf]; omega
      have hkl' : (k : Int) < (n : Int) := by omega
      have hk0 : (0 : Int) ≤ (k : Int) := by omega
      have wk : IntKind.i64.wrap ((k : Int) + 1) = (k : Int) + 1 := wrap_i64_of (by omega) (by have := HN.out.2; unfold maxLen at this; omega)
      obtain ⟨s, hs⟩ : ∃ s, ss[k]? = some s := ⟨_, List.getElem?_eq_getElem (by have := HN.out.1; omega)⟩
      obtain ⟨sb, so, sc, es, ⟨c0, c1, c2⟩, nn⟩ := HS.out.at hs
      cases es
      have d0 := HH1.out.kp.cell c0 (by simp)
      have d1 := HH1.out.kp.cell c1 (by simp)
      have d2 := HH1.out.kp.cell c2 (by simp)
      obtain ⟨b, hb7', hb⟩ := and_small (x := s.birth) 3 7 rfl (by omega)
      have hb7 : bits .and .i64 s.birth 7 = (b : Int) := hb7'
      obtain ⟨m, hm15', hm⟩ := and_small (x := s.n) 4 15 rfl (by omega)
      have hm15 : bits .and .i64 s.n 15 = (m : Int) := hm15'
      obtain ⟨q, hq3', hq⟩ := and_small (x := s.kind) 2 3 rfl (by omega)
      have hq3 : bits .and .i64 s.kind 3 = (q : Int) := hq3'
      have wm : IntKind.i64.wrap (1 + (m : Int)) = 1 + (m : Int) := wrap_i64_of (by omega) (by omega)
      have HB := @hideH _ (show b < 8 ∧ m < 16 ∧ q < 4 from ⟨hb, hm, hq⟩)
      have hb8 : (b : Int) < 8 := by have : b < 8 := hb; omega
      have hb0 : (0 : Int) ≤ (b : Int) := by omega
      clear c0 c1 c2 nn hs hb7' hm15' hq3' hb hm hq
      go_upto_region 15 with fail
      go_quiet (fail)
      obtain ⟨wd, hwd⟩ : ∃ wd, wd = wr.drewN nq := ⟨_, rfl⟩
      have HK0 := @hideH _ (show Kept [] wr wd by rw [hwd]; exact (Kept.refl [] wr).drewN' nq)
      have HH2 := @hideH _ (HH1.out.then O HK0.out)
      replace d0 := HK0.out.cell d0 (by simp)
      replace d1 := HK0.out.cell d1 (by simp)
      replace d2 := HK0.out.cell d2 (by simp)
      rw [← hwd]
      clear hwd HH1 HK0 d1 d2
      obtain ⟨vu, l, hv, hl, ns, cO, fO⟩ := HH2.out.list HB.out.1
      obtain ⟨fl, hf⟩ := flag_of HP.out.lf HB.out.1
      have cf := (HH2.out.flag hf).1
      have ff := (HH2.out.flag hf).2
      obtain ⟨pu, cu, hvu, hnc, hcm⟩ := ns.shape
      subst hvu
      obtain ⟨nu, hnu⟩ : ∃ nu, nu = l.length := ⟨_, rfl⟩
      have HNS := @hideH _ (And.intro ns (And.intro hnu (And.intro hl hf)))
      have HV := @hideH _ (And.intro hv (And.intro hnc hcm))
      have HRG := @hideH _ (HP.out.rng HB.out.1 hl)
      have HLN := @hideH _ (show nu ≤ 100000 by have e1 := HRG.out.2.2; have e2 := HU.out; have e3 := sz_len HRG.out.1; omega)
      rw [← hnu] at cO
      clear ns hv hl hf hnu hnc hcm
      go_upto_block 2 with fail
      go_cut [6] (fun s6 wx => ∃ U' : Int, s6 = .int .i64 U' ∧ Hid (HH Rm w wx gP gO gI A U'))
      case first =>
        by_cases q0 : q = 0
        · have q0e : ((q : Int) == 0) = true := by subst q0; rfl
          clear q0
          as_aux_lemma =>
            have KT := @hideH _ (show 0 ≤ U ∧ U + keptT T ≤ A ∧ 0 ≤ keptT T ∧ A < 100000 from HU.out)
            cases fl
            rotate_left
            · skip
              have hfr : frameI 7 (b : Int) (1 + (m : Int)) = 35 + 26 * (b : Int) + 9 * (1 + (m : Int)) := frame_7 ⟨by omega, by omega, by have := HB.out; omega, by have := HB.out; omega⟩
              have HFR := @hideH _ hfr
              clear hfr
              go_wp2_with fail
              refine (frameV O HFR.out _ (i64_mid (by omega) (by omega)) (i64_mid (by have := HB.out; omega) (by have := HB.out; omega)) (i64_mid (by have := HB.out; omega) (by have := HB.out; omega))).mono ?_
              clear HFR
              rintro e x1 ⟨rfl, kx⟩
              have HHa := @hideH _ (HH2.out.then O kx)
              clear kx HH2
              have HQ := @hideH _ (O.fits (U) (35 + 26 * (b : Int) + 9 * (1 + (m : Int))) 0 _ HHa.out.l (i64_mid (by have e1 := KT.out; omega) (by have e1 := KT.out; omega)) (i64_mid (by have e2 := HB.out; omega) (by have e2 := HB.out; omega)) (i64_mid (by omega) (by omega)))
              rw [fits_is (by have e1 := KT.out; omega) (by have e2 := HB.out; omega) (by omega)] at HQ
              by_cases hft : (U) + (35 + 26 * (b : Int) + 9 * (1 + (m : Int))) + 0 + keptT (T) ≤ A
              · skip
                rw [decide_eq_true hft] at HQ
                have HFT := @hideH _ hft
                clear hft
                go_wp2_with fail
                refine HQ.out.mono ?_
                clear HQ
                rintro e x1 ⟨rfl, kx⟩
                have HHb := @hideH _ (HHa.out.then O kx)
                clear kx HHa
                have v1 : IntKind.i64.wrap (U + 35) = U + 35 := wrap_i64_of (by have e1 := KT.out; have e2 := HB.out; omega) (by have e1 := KT.out; have e2 := HB.out; omega)
                have v2 : IntKind.i64.wrap (26 * (b : Int)) = 26 * (b : Int) := wrap_i64_of (by have e1 := KT.out; have e2 := HB.out; omega) (by have e1 := KT.out; have e2 := HB.out; omega)
                have v3 : IntKind.i64.wrap (U + 35 + 26 * (b : Int)) = U + 35 + 26 * (b : Int) := wrap_i64_of (by have e1 := KT.out; have e2 := HB.out; omega) (by have e1 := KT.out; have e2 := HB.out; omega)
                have v4 : IntKind.i64.wrap (9 * (1 + (m : Int))) = 9 * (1 + (m : Int)) := wrap_i64_of (by have e1 := KT.out; have e2 := HB.out; omega) (by have e1 := KT.out; have e2 := HB.out; omega)
                have v5 : IntKind.i64.wrap (U + 35 + 26 * (b : Int) + 9 * (1 + (m : Int))) = U + 35 + 26 * (b : Int) + 9 * (1 + (m : Int)) := wrap_i64_of (by have e1 := KT.out; have e2 := HB.out; omega) (by have e1 := KT.out; have e2 := HB.out; omega)
                go_wp2
                go_meet
                case rel => exact ⟨_, rfl, F, T, vs, ops, fls, HHb.out, HP.out, by have e1 := KT.out; have e2 := HB.out; omega, by have e1 := HFT.out; omega⟩
              · skip
                rw [decide_eq_false hft] at HQ
                have HFT := @hideH _ hft
                clear hft
                go_wp2_with fail
                refine HQ.out.mono ?_
                clear HQ
                rintro e x1 ⟨rfl, kx⟩
                have HHb := @hideH _ (HHa.out.then O kx)
                clear kx HHa
                go_wp2
                go_meet
                case rel => exact ⟨_, rfl, F, T, vs, ops, fls, HHb.out, HP.out, by have e1 := KT.out; omega, by have e1 := KT.out; omega⟩
            have HQ := @hideH _ (O.frame 1 0 0 wd (i64_mid (by omega) (by omega)) (i64_mid (by omega) (by omega)) (i64_mid (by omega) (by omega)))
            rw [show frameI 1 0 0 = 34 from by decide] at HQ
            go_wp2_with fail
            refine HQ.out.mono ?_
            clear HQ
            rintro e x1 ⟨rfl, kx⟩
            have HHz := @hideH _ (HH2.out.then O kx)
            replace cf := kx.cell cf (by simp)
            replace cO := kx.cell cO (by simp)
            have ff := (HHz.out.flag HNS.out.2.2.2).2
            have fO := HHz.out.bo.free b
            clear kx HH2
            have HQ := @hideH _ (O.fits (U) (34) (99) _ HHz.out.l (i64_mid (by have e1 := HU.out; have e2 := HB.out; omega) (by have e1 := HU.out; have e2 := HB.out; omega)) (i64_mid (by have e2 := HB.out; omega) (by have e2 := HB.out; omega)) (i64_mid (by have e2 := HB.out; omega) (by have e2 := HB.out; omega)))
            rw [fits_is (by have e1 := HU.out; have e2 := HB.out; omega) (by have e2 := HB.out; omega) (by have e2 := HB.out; omega)] at HQ
            by_cases hft : (U) + (34) + (99) + keptT T ≤ A
            rotate_left
            · skip
              rw [decide_eq_false hft] at HQ
              have HFT := @hideH _ hft
              clear hft
              go_wp2_with fail
              refine HQ.out.mono ?_
              clear HQ
              rintro e x1 ⟨rfl, kx⟩
              have HHy := @hideH _ (HHz.out.then O kx)
              clear kx HHz
              have hfr : frameI 7 (b : Int) (1 + (m : Int)) = 35 + 26 * (b : Int) + 9 * (1 + (m : Int)) := frame_7 ⟨by omega, by omega, by have := HB.out; omega, by have := HB.out; omega⟩
              have HFR := @hideH _ hfr
              clear hfr
              go_wp2_with fail
              refine (frameV O HFR.out _ (i64_mid (by omega) (by omega)) (i64_mid (by have := HB.out; omega) (by have := HB.out; omega)) (i64_mid (by have := HB.out; omega) (by have := HB.out; omega))).mono ?_
              clear HFR
              rintro e x1 ⟨rfl, kx⟩
              have HHa := @hideH _ (HHy.out.then O kx)
              clear kx HHy
              have HQ := @hideH _ (O.fits (U) (35 + 26 * (b : Int) + 9 * (1 + (m : Int))) 0 _ HHa.out.l (i64_mid (by have e1 := KT.out; omega) (by have e1 := KT.out; omega)) (i64_mid (by have e2 := HB.out; omega) (by have e2 := HB.out; omega)) (i64_mid (by omega) (by omega)))
              rw [fits_is (by have e1 := KT.out; omega) (by have e2 := HB.out; omega) (by omega)] at HQ
              by_cases hft : (U) + (35 + 26 * (b : Int) + 9 * (1 + (m : Int))) + 0 + keptT (T) ≤ A
              · skip
                rw [decide_eq_true hft] at HQ
                have HFT := @hideH _ hft
                clear hft
                go_wp2_with fail
                refine HQ.out.mono ?_
                clear HQ
                rintro e x1 ⟨rfl, kx⟩
                have HHb := @hideH _ (HHa.out.then O kx)
                clear kx HHa
                have v1 : IntKind.i64.wrap (U + 35) = U + 35 := wrap_i64_of (by have e1 := KT.out; have e2 := HB.out; omega) (by have e1 := KT.out; have e2 := HB.out; omega)
                have v2 : IntKind.i64.wrap (26 * (b : Int)) = 26 * (b : Int) := wrap_i64_of (by have e1 := KT.out; have e2 := HB.out; omega) (by have e1 := KT.out; have e2 := HB.out; omega)
                have v3 : IntKind.i64.wrap (U + 35 + 26 * (b : Int)) = U + 35 + 26 * (b : Int) := wrap_i64_of (by have e1 := KT.out; have e2 := HB.out; omega) (by have e1 := KT.out; have e2 := HB.out; omega)
                have v4 : IntKind.i64.wrap (9 * (1 + (m : Int))) = 9 * (1 + (m : Int)) := wrap_i64_of (by have e1 := KT.out; have e2 := HB.out; omega) (by have e1 := KT.out; have e2 := HB.out; omega)
                have v5 : IntKind.i64.wrap (U + 35 + 26 * (b : Int) + 9 * (1 + (m : Int))) = U + 35 + 26 * (b : Int) + 9 * (1 + (m : Int)) := wrap_i64_of (by have e1 := KT.out; have e2 := HB.out; omega) (by have e1 := KT.out; have e2 := HB.out; omega)
                go_wp2
                go_meet
                case rel => exact ⟨_, rfl, F, T, vs, ops, fls, HHb.out, HP.out, by have e1 := KT.out; have e2 := HB.out; omega, by have e1 := HFT.out; omega⟩
              · skip
                rw [decide_eq_false hft] at HQ
                have HFT := @hideH _ hft
                clear hft
                go_wp2_with fail
                refine HQ.out.mono ?_
                clear HQ
                rintro e x1 ⟨rfl, kx⟩
                have HHb := @hideH _ (HHa.out.then O kx)
                clear kx HHa
                go_wp2
                go_meet
                case rel => exact ⟨_, rfl, F, T, vs, ops, fls, HHb.out, HP.out, by have e1 := KT.out; omega, by have e1 := KT.out; omega⟩
            rw [decide_eq_true hft] at HQ
            have HFT := @hideH _ hft
            clear hft
            go_wp2_with fail
            refine HQ.out.mono ?_
            clear HQ
            rintro e x1 ⟨rfl, kx⟩
            have HHy := @hideH _ (HHz.out.then O kx)
            replace cf := kx.cell cf (by simp)
            replace cO := kx.cell cO (by simp)
            have ff := (HHy.out.flag HNS.out.2.2.2).2
            have fO := HHy.out.bo.free b
            clear kx HHz
            have v0 : IntKind.i64.wrap (U + 34) = U + 34 := wrap_i64_of (by have e1 := HU.out; omega) (by have e1 := HU.out; omega)
            have HG := @hideH _ (HP.out.begin HB.out.1 HNS.out.2.2.2 (HP.out.small (a := A) (by have := HU.out; omega) HA.out.2))
            skip
            have HS1 := @hideH _ (HHy.out.setF O (b := b) (by rw [HP.out.lf]; exact HB.out.1) true)
            clear HHy
            go_upto_region 22 with fail
            have HQ := @hideH _ (O.beg (b : Int) _ HS1.out.l (i64_nat (by have := HB.out; omega)) (HP.out.small (a := A) (by have := HU.out; omega) HA.out.2))
            rw [HG.out.1] at HQ
            go_wp2_with fail
            refine HQ.out.mono ?_
            clear HQ
            rintro e y2 ⟨F2, rfl, l2, fr2, k2⟩
            have HS2 := @hideH _ (HS1.out.op O l2 fr2 k2)
            clear l2 fr2 k2 HS1 cf cO ff fO
            have KT2 := @hideH _ (show 0 ≤ U + 34 ∧ U + 34 + keptT (begT T b) ≤ A ∧ 0 ≤ keptT (begT T b) ∧ A < 100000 by rw [HG.out.2.2]; have e1 := HU.out; have e2 := HFT.out; omega)
            clear HFT
            have hfr : frameI 7 (b : Int) (1 + (m : Int)) = 35 + 26 * (b : Int) + 9 * (1 + (m : Int)) := frame_7 ⟨by omega, by omega, by have := HB.out; omega, by have := HB.out; omega⟩
            have HFR := @hideH _ hfr
            clear hfr
            go_wp2_with fail
            refine (frameV O HFR.out _ (i64_mid (by omega) (by omega)) (i64_mid (by have := HB.out; omega) (by have := HB.out; omega)) (i64_mid (by have := HB.out; omega) (by have := HB.out; omega))).mono ?_
            clear HFR
            rintro e x1 ⟨rfl, kx⟩
            have HHa := @hideH _ (HS2.out.then O kx)
            clear kx HS2
            have HQ := @hideH _ (O.fits (U + 34) (35 + 26 * (b : Int) + 9 * (1 + (m : Int))) 0 _ HHa.out.l (i64_mid (by have e1 := KT2.out; omega) (by have e1 := KT2.out; omega)) (i64_mid (by have e2 := HB.out; omega) (by have e2 := HB.out; omega)) (i64_mid (by omega) (by omega)))
            rw [fits_is (by have e1 := KT2.out; omega) (by have e2 := HB.out; omega) (by omega)] at HQ
            by_cases hft : (U + 34) + (35 + 26 * (b : Int) + 9 * (1 + (m : Int))) + 0 + keptT (begT T b) ≤ A
            · skip
              rw [decide_eq_true hft] at HQ
              have HFT := @hideH _ hft
              clear hft
              go_wp2_with fail
              refine HQ.out.mono ?_
              clear HQ
              rintro e x1 ⟨rfl, kx⟩
              have HHb := @hideH _ (HHa.out.then O kx)
              clear kx HHa
              have v1 : IntKind.i64.wrap (U + 34 + 35) = U + 34 + 35 := wrap_i64_of (by have e1 := KT2.out; have e2 := HB.out; omega) (by have e1 := KT2.out; have e2 := HB.out; omega)
              have v2 : IntKind.i64.wrap (26 * (b : Int)) = 26 * (b : Int) := wrap_i64_of (by have e1 := KT2.out; have e2 := HB.out; omega) (by have e1 := KT2.out; have e2 := HB.out; omega)
              have v3 : IntKind.i64.wrap (U + 34 + 35 + 26 * (b : Int)) = U + 34 + 35 + 26 * (b : Int) := wrap_i64_of (by have e1 := KT2.out; have e2 := HB.out; omega) (by have e1 := KT2.out; have e2 := HB.out; omega)
              have v4 : IntKind.i64.wrap (9 * (1 + (m : Int))) = 9 * (1 + (m : Int)) := wrap_i64_of (by have e1 := KT2.out; have e2 := HB.out; omega) (by have e1 := KT2.out; have e2 := HB.out; omega)
              have v5 : IntKind.i64.wrap (U + 34 + 35 + 26 * (b : Int) + 9 * (1 + (m : Int))) = U + 34 + 35 + 26 * (b : Int) + 9 * (1 + (m : Int)) := wrap_i64_of (by have e1 := KT2.out; have e2 := HB.out; omega) (by have e1 := KT2.out; have e2 := HB.out; omega)
              go_wp2
              go_meet
              case rel => exact ⟨_, rfl, F2, begT T b, vs, ops, (fls.set b true), HHb.out, HG.out.2.1, by have e1 := KT2.out; have e2 := HB.out; omega, by have e1 := HFT.out; omega⟩
            · skip
              rw [decide_eq_false hft] at HQ
              have HFT := @hideH _ hft
              clear hft
              go_wp2_with fail
              refine HQ.out.mono ?_
              clear HQ
              rintro e x1 ⟨rfl, kx⟩
              have HHb := @hideH _ (HHa.out.then O kx)
              clear kx HHa
              go_wp2
              go_meet
              case rel => exact ⟨_, rfl, F2, begT T b, vs, ops, (fls.set b true), HHb.out, HG.out.2.1, by have e1 := KT2.out; omega, by have e1 := KT2.out; omega⟩
        have q0' : ((q : Int) == 0) = false := by simp; omega
        by_cases q1 : q = 1
        · have q1e : ((q : Int) == 1) = true := by subst q1; rfl
          clear q0 q1
          as_aux_lemma =>
            cases fl
            · go_wp2
              go_meet
              case rel => exact ⟨_, rfl, F, T, vs, ops, fls, HH2.out, HP.out, HU.out.1, HU.out.2.1⟩
            have hfr : frameI 2 (1 + (m : Int)) 0 = 38 + 2 * (1 + (m : Int)) := frame_2 ⟨by omega, by omega, by have := HB.out; omega, by omega⟩
            have HFR := @hideH _ hfr
            clear hfr
            go_wp2_with fail
            refine (frameV O HFR.out _ (i64_mid (by omega) (by omega)) (i64_mid (by have := HB.out; omega) (by have := HB.out; omega)) (i64_mid (by have := HB.out; omega) (by have := HB.out; omega))).mono ?_
            clear HFR
            rintro e x1 ⟨rfl, kx⟩
            have HHa := @hideH _ (HH2.out.then O kx)
            replace cf := kx.cell cf (by simp)
            replace cO := kx.cell cO (by simp)
            have ff := (HHa.out.flag HNS.out.2.2.2).2
            have fO := HHa.out.bo.free b
            clear kx HH2
            have hfr : frameI 3 (1 + (m : Int)) 0 = 46 + (1 + (m : Int)) := frame_3 ⟨by omega, by omega, by have := HB.out; omega, by omega⟩
            have HFR := @hideH _ hfr
            clear hfr
            go_wp2_with fail
            refine (frameV O HFR.out _ (i64_mid (by omega) (by omega)) (i64_mid (by have := HB.out; omega) (by have := HB.out; omega)) (i64_mid (by have := HB.out; omega) (by have := HB.out; omega))).mono ?_
            clear HFR
            rintro e x1 ⟨rfl, kx⟩
            have HHb := @hideH _ (HHa.out.then O kx)
            replace cf := kx.cell cf (by simp)
            replace cO := kx.cell cO (by simp)
            have ff := (HHb.out.flag HNS.out.2.2.2).2
            have fO := HHb.out.bo.free b
            clear kx HHa
            have HQ := @hideH _ (O.fits (U) (38 + 2 * (1 + (m : Int))) (46 + (1 + (m : Int))) _ HHb.out.l (i64_mid (by have e1 := HU.out; have e2 := HB.out; omega) (by have e1 := HU.out; have e2 := HB.out; omega)) (i64_mid (by have e2 := HB.out; omega) (by have e2 := HB.out; omega)) (i64_mid (by have e2 := HB.out; omega) (by have e2 := HB.out; omega)))
            rw [fits_is (by have e1 := HU.out; have e2 := HB.out; omega) (by have e2 := HB.out; omega) (by have e2 := HB.out; omega)] at HQ
            by_cases hft : (U) + (38 + 2 * (1 + (m : Int))) + (46 + (1 + (m : Int))) + keptT T ≤ A
            rotate_left
            · skip
              rw [decide_eq_false hft] at HQ
              have HFT := @hideH _ hft
              clear hft
              go_wp2_with fail
              refine HQ.out.mono ?_
              clear HQ
              rintro e x1 ⟨rfl, kx⟩
              have HHc := @hideH _ (HHb.out.then O kx)
              clear kx HHb
              go_wp2
              go_meet
              case rel => exact ⟨_, rfl, F, T, vs, ops, fls, HHc.out, HP.out, HU.out.1, HU.out.2.1⟩
            rw [decide_eq_true hft] at HQ
            have HFT := @hideH _ hft
            clear hft
            go_wp2_with fail
            refine HQ.out.mono ?_
            clear HQ
            rintro e x1 ⟨rfl, kx⟩
            obtain ⟨x9, hx9⟩ : ∃ x, x = x1 := ⟨_, rfl⟩
            rw [← hx9] at kx ⊢
            clear hx9
            have HHc := @hideH _ (HHb.out.then O kx)
            replace cf := kx.cell cf (by simp)
            replace cO := kx.cell cO (by simp)
            have ff := (HHc.out.flag HNS.out.2.2.2).2
            have fO := HHc.out.bo.free b
            clear kx HHb
            have v1 : IntKind.i64.wrap (U + 38) = U + 38 := wrap_i64_of (by have e1 := HU.out; have e2 := HB.out; omega) (by have e1 := HU.out; have e2 := HB.out; omega)
            have v2 : IntKind.i64.wrap (2 * (1 + (m : Int))) = 2 * (1 + (m : Int)) := wrap_i64_of (by have e1 := HU.out; have e2 := HB.out; omega) (by have e1 := HU.out; have e2 := HB.out; omega)
            have v3 : IntKind.i64.wrap (U + 38 + 2 * (1 + (m : Int))) = U + 38 + 2 * (1 + (m : Int)) := wrap_i64_of (by have e1 := HU.out; have e2 := HB.out; omega) (by have e1 := HU.out; have e2 := HB.out; omega)
            have HG := @hideH _ (HP.out.update HB.out.1 HNS.out.2.2.2 HNS.out.2.2.1 (n := 1 + (m : Int)) ⟨by omega, by have := HB.out; omega⟩ (HP.out.small (a := A) (by have := HU.out; omega) HA.out.2))
            have hN7 := (HHc.out.ns b _ _ HV.out.1 HNS.out.2.2.1).kept ((Kept.refl [] x9).alloc (.cells #[.int .i64 (1 + (m : Int))] 3)) (by simp)
            unfold Ns at hN7
            rw [← HNS.out.2.1] at hN7
            have hsrc := src_i64 (P := Try.prog) x9 33 3 Try.underlying33 (1 + (m : Int))
            have hb7x : w.heap.size ≤ (x9.alloc (.cells #[.int .i64 (1 + (m : Int))] 3)).heap.size := (HHc.out.kp.alloc _).size
            go_upto_region 30 with (at_builtin; refine wpList_append_row2 rfl (.tmp 112) (.tmp 114) 33 rfl w.heap.size 3 infI (.int .i64 0) 1 8 Try.underlying33 HII.out.1 HII.out.2.1 HII.out.2.2.1 HII.out.2.2.2 rfl _ _ _ (by rfl) hN7 _ 1 _ (by rfl) hsrc (by have e1 := HLN.out; omega) (by have e1 := HLN.out; unfold maxLen; omega) (by have e1 := HLN.out; omega) hb7x ?_; intro v' w8 r8 k8 o8; obtain ⟨p8, c8, hv', -⟩ := Row.shape r8; subst hv'; have FIN := (HHc.out.then O ((Kept.refl [] x9).alloc (.cells #[.int .i64 (1 + (m : Int))] 3))).setV O (v' := .slice p8 (nu + 1) c8) (l' := l ++ [1 + (m : Int)]) HV.out.1 (by unfold Ns; rw [List.length_append, ← HNS.out.2.1, i64s_append]; exact r8) (by rw [← HNS.out.2.1]; exact k8) (by rw [← HNS.out.2.1]; exact o8.imp id (fun q y hy => by rw [q.1] at hy; cases hy; exact Nat.le_refl _)); have c9 := FIN.1.cell (j := b) HV.out.1; have f9 := FIN.1.free b; have HS8 := @hideH _ FIN.2; clear FIN r8 k8 o8 hN7 hsrc hb7x)
            obtain ⟨y1, hy1⟩ : ∃ y, y = w8.setCell ⟨gO, b, none⟩ (.slice p8 (nu + 1) c8) := ⟨_, rfl⟩
            rw [← hy1] at HS8 ⊢
            clear hy1 c9 f9 HHc cf cO ff fO
            have HQ := @hideH _ (O.upd (b : Int) (1 + (m : Int)) y1 HS8.out.l (i64_nat (by have := HB.out; omega)) (i64_mid (by omega) (by have := HB.out; omega)) (HP.out.small (a := A) (by have := HU.out; omega) HA.out.2))
            rw [HG.out.1] at HQ
            go_wp2_with fail
            refine HQ.out.mono ?_
            clear HQ
            rintro e y2 ⟨F2, rfl, l2, fr2, k2⟩
            have HS9 := @hideH _ (HS8.out.op O l2 fr2 k2)
            clear l2 fr2 k2 HS8
            go_wp2
            go_meet
            case rel => exact ⟨_, rfl, F2, updT T b (1 + (m : Int)), _, _, _, HS9.out, HG.out.2.1, by have e1 := HU.out; omega, by rw [HG.out.2.2]; have e1 := HFT.out; omega⟩
        have q1' : ((q : Int) == 1) = false := by simp; omega
        by_cases q2 : q = 2
        · have q2e : ((q : Int) == 2) = true := by subst q2; rfl
          clear q0 q1 q2
          as_aux_lemma =>
            by_cases hn0 : nu = 0
            · subst hn0
              go_wp2
              go_meet
              case rel => exact ⟨_, rfl, F, T, vs, ops, fls, HH2.out, HP.out, HU.out.1, HU.out.2.1⟩
            obtain ⟨mu, hmu⟩ : ∃ mu, nu = mu + 1 := ⟨nu - 1, by omega⟩
            have hn1 : (0 : Int) < (nu : Int) := by omega
            have wn1 : IntKind.i64.wrap ((nu : Int) - 1) = (mu : Int) := by rw [show (nu : Int) - 1 = (mu : Int) by omega]; exact wrap_i64_of (by omega) (by have := HLN.out; omega)
            have hm1 : (mu : Int) < (nu : Int) := by omega
            have hm0 : (0 : Int) ≤ (mu : Int) := by omega
            obtain ⟨l', z, hl', hz, htk⟩ := last_of (l := l) (n := mu) (by have := HNS.out.2.1; omega)
            obtain ⟨gu, hpu, -, -, e0, -⟩ := (HH2.out.ns b _ _ HV.out.1 HNS.out.2.2.1).at hz
            subst hpu
            have HG := @hideH _ (HP.out.undone HB.out.1 (l := l') (n := z) (by rw [← hl']; exact HNS.out.2.2.1))
            have HZ := @hideH _ (show 1 ≤ z ∧ z ≤ 65535 ∧ sumU l = sumU l' + 46 + z ∧ 0 ≤ sumU l' from ⟨HG.out.2.1.1, HG.out.2.1.2, by rw [hl', sumU_append]; simp [sumU]; omega, (sumU_range (fun x hx => HRG.out.1 x (by rw [hl']; simp [hx]))).1⟩)
            have v1 : IntKind.i64.wrap (U + 46) = U + 46 := wrap_i64_of (by have e1 := HU.out; omega) (by have e1 := HU.out; omega)
            have v2 : IntKind.i64.wrap (U + 46 + z) = U + 46 + z := wrap_i64_of (by have e1 := HU.out; have e2 := HZ.out; omega) (by have e1 := HU.out; have e2 := HZ.out; omega)
            have cut1 := fun (u : World) => run_cut_to_sz (P := Try.prog) u 33 3 1 Try.underlying33 (by kernel_rfl) (some ⟨gu, 0, none⟩) nu cu mu (by have e1 := HV.out.2.1; have e2 := HNS.out.2.1; omega)
            have hr := HH2.out.ns b _ _ HV.out.1 HNS.out.2.2.1
            unfold Ns at hr
            have hrf := hr.fronts mu (by have := HNS.out.2.1; omega) (by have := HNS.out.2.1; omega)
            have FIN := HH2.out.setV O (v' := .slice (some ⟨gu, 0, none⟩) mu cu) (l' := l') HV.out.1 (by unfold Ns; rw [show l'.length = mu by rw [← htk, List.length_take]; have := HNS.out.2.1; omega, ← htk, ← i64s_take]; simpa using hrf) ((Kept.refl _ wd)) (.inl rfl)
            have HS8 := @hideH _ FIN.2
            have HMU := @hideH _ hmu
            clear FIN hr hrf hl' hz htk hmu hn0
            go_upto_region 37 with fail
            obtain ⟨y1, hy1⟩ : ∃ y, y = wd.setCell ⟨gO, b, none⟩ (.slice (some ⟨gu, 0, none⟩) mu cu) := ⟨_, rfl⟩
            rw [← hy1] at HS8 ⊢
            clear hy1 cf cO ff fO e0 HH2 cut1
            have HQ := @hideH _ (O.und (b : Int) z y1 HS8.out.l (i64_nat (by have := HB.out; omega)) (i64_mid (by have := HZ.out; omega) (by have := HZ.out; omega)))
            rw [HG.out.1] at HQ
            go_wp2_with fail
            refine HQ.out.mono ?_
            clear HQ
            rintro e y2 ⟨F2, rfl, l2, fr2, k2⟩
            have HS9 := @hideH _ (HS8.out.op O l2 fr2 k2)
            clear l2 fr2 k2 HS8
            go_wp2
            go_meet
            case rel => exact ⟨_, rfl, F2, undT T b z, _, _, _, HS9.out, HG.out.2.2.1, by have e1 := HU.out; have e2 := HZ.out; omega, by rw [HG.out.2.2.2]; have e1 := HU.out; omega⟩
        have q2' : ((q : Int) == 2) = false := by simp; omega
        by_cases q3 : q = 3
        · have q3e : ((q : Int) == 3) = true := by subst q3; rfl
          clear q0 q1 q2 q3
          as_aux_lemma =>
            cases fl
            · go_wp2
              go_meet
              case rel => exact ⟨_, rfl, F, T, vs, ops, fls, HH2.out, HP.out, HU.out.1, HU.out.2.1⟩
            go_wp2
            go_loopw [6, 13] (fun v6 vk wq => ∃ j : Nat, j ≤ nu ∧ vk = .int .i64 j ∧ v6 = .int .i64 (U + sumU (l.drop j)) ∧ wq = wd) (fun _ vk _ => (intOf vk).toNat)
            case atStart => exact ⟨nu, Nat.le_refl _, rfl, by rw [List.drop_of_length_le (by have := HNS.out.2.1; omega)]; simp [sumU], rfl⟩
            case round =>
              obtain ⟨j, hj, rfl, rfl, hw⟩ := hrel
              rw [hw]
              clear hw
              obtain ⟨s1, hs1⟩ : ∃ s, s = sumU (l.drop j) := ⟨_, rfl⟩
              have HS1 := @hideH _ (show s1 = sumU (l.drop j) ∧ 0 ≤ s1 ∧ s1 ≤ 100000 from ⟨hs1, by rw [hs1]; exact (drop_range HRG.out.1 j).1, by rw [hs1]; have e1 := (drop_range HRG.out.1 j).2; have e2 := HRG.out.2.2; have e3 := HU.out; omega⟩)
              rw [← hs1]
              clear hs1
              by_cases hj0 : j = 0
              rotate_left
              · have hj1 : (0 : Int) < (j : Int) := by omega
                obtain ⟨jj, hjj⟩ : ∃ jj, j = jj + 1 := ⟨j - 1, by omega⟩
                obtain ⟨z, hz⟩ : ∃ z, l[jj]? = some z := ⟨_, List.getElem?_eq_getElem (by have := HNS.out.2.1; omega)⟩
                obtain ⟨gu, hpu, -, -, e0, -⟩ := HNS.out.1.at hz
                subst hpu
                have HDS := @hideH _ (show sumU (l.drop jj) = 46 + z + s1 by rw [drop_sum hz, ← hjj, ← HS1.out.1])
                have HZI := @hideH _ (HRG.out.1 z (List.mem_of_getElem? hz))
                have v1 : IntKind.i64.wrap (U + s1 + 46) = U + s1 + 46 := wrap_i64_of (by have e1 := HU.out; have e2 := HS1.out; omega) (by have e1 := HU.out; have e2 := HS1.out; omega)
                have v2 : IntKind.i64.wrap (U + s1 + 46 + z) = U + s1 + 46 + z := wrap_i64_of (by have e1 := HU.out; have e2 := HS1.out; have e3 := HZI.out.1; omega) (by have e1 := HU.out; have e2 := HS1.out; have e3 := HZI.out.2; omega)
                have wj' : IntKind.i64.wrap ((j : Int) - 1) = (jj : Int) := by rw [show (j : Int) - 1 = (jj : Int) by omega]; exact wrap_i64_of (by omega) (by have := HLN.out; omega)
                have hjl : (jj : Int) < (nu : Int) := by omega
                have hjp : (0 : Int) ≤ (jj : Int) := by omega
                have HJJ := @hideH _ hjj
                clear hz hjj hj0
                go_wp2
                go_roundw
                case rel => exact ⟨jj, by omega, by first | rfl | go_num, by rw [HDS.out]; congr 1; omega, by first | rfl | trivial⟩
                case measure => simp [intOf]; have := HJJ.out; omega
              subst hj0
              have HF0 := @hideH _ (show s1 = sumU l from HS1.out.1)
              have v9 : IntKind.i64.wrap (U + s1 + 99) = U + s1 + 99 := wrap_i64_of (by have e1 := HU.out; have e2 := HS1.out; omega) (by have e1 := HU.out; have e2 := HS1.out; omega)
              have HG := @hideH _ (HP.out.drop HB.out.1 HNS.out.2.2.2 HNS.out.2.2.1)
              have HS8 := @hideH _ ((HH2.out.setV O (v' := .slice none 0 0) (l' := []) HV.out.1 (Ns.nil _ _) (Kept.refl _ wd) (.inr (fun x hx => by cases hx))).2.setF O (b := b) (by rw [HP.out.lf]; exact HB.out.1) false)
              have cf2 : (wd.setCell ⟨gO, b, none⟩ (.slice none 0 0)).cell? ⟨gI, b, none⟩ = some (.bool true) := (HH2.out.setV O (v' := .slice none 0 0) (l' := []) HV.out.1 (Ns.nil _ _) (Kept.refl _ wd) (.inr (fun x hx => by cases hx))).2.flag HNS.out.2.2.2 |>.1
              have ff2 : (wd.setCell ⟨gO, b, none⟩ (.slice none 0 0)).frozen? ⟨gI, b, none⟩ = false := (HH2.out.setV O (v' := .slice none 0 0) (l' := []) HV.out.1 (Ns.nil _ _) (Kept.refl _ wd) (.inr (fun x hx => by cases hx))).2.flag HNS.out.2.2.2 |>.2
              go_upto_region 47 with fail
              obtain ⟨y1, hy1⟩ : ∃ y, y = (wd.setCell ⟨gO, b, none⟩ (.slice none 0 0)).setCell ⟨gI, b, none⟩ (.bool false) := ⟨_, rfl⟩
              rw [← hy1] at HS8 ⊢
              clear hy1 cf cO ff fO cf2 ff2 HH2
              have HQ := @hideH _ (O.drp (b : Int) y1 HS8.out.l (i64_nat (by have := HB.out; omega)))
              rw [HG.out.1] at HQ
              go_wp2_with fail
              refine HQ.out.mono ?_
              clear HQ
              rintro e y2 ⟨F2, rfl, l2, fr2, k2⟩
              have HS9 := @hideH _ (HS8.out.op O l2 fr2 k2)
              clear l2 fr2 k2 HS8
              go_wp2
              go_meet
              case rel => exact ⟨_, rfl, F2, drpT T b, _, _, _, HS9.out, HG.out.2.1, by have e1 := HU.out; have e2 := HS1.out; omega, by rw [HG.out.2.2]; have e1 := HU.out; have e2 := HF0.out; omega⟩
        have q3' : ((q : Int) == 3) = false := by simp; omega
        exfalso
        have := HB.out
        omega
      case rest =>
        as_aux_lemma =>
          obtain ⟨U', hs6, hh⟩ := hcut
          subst hs6
          obtain ⟨F', T', vs', ops', fls', H, pl, hU0, hU⟩ := hh.out
          clear hh
          have HH3 := @hideH _ H
          have HP3 := @hideH _ pl
          have HU3 := @hideH _ (show 0 ≤ U' ∧ U' + keptT T' ≤ A ∧ 0 ≤ keptT T' ∧ A < 100000 from ⟨hU0, hU, pl.ok.kept.1, HA.out.2⟩)
          clear H pl hU0 hU HH2 HP HU HNS HV HRG HLN cf cO ff fO d0
          obtain ⟨K, hK⟩ : ∃ K, K = keptT T' := ⟨_, rfl⟩
          have HQ := @hideH _ (O.fits U' 0 0 _ HH3.out.l (i64_mid HU3.out.1 (by have := HU3.out; omega)) (i64_mid (by omega) (by omega)) (i64_mid (by omega) (by omega)))
          rw [fits_is HU3.out.1 (by omega) (by omega), decide_eq_true (by have := HU3.out; omega)] at HQ
          go_wp2_with fail
          refine HQ.out.mono ?_
          clear HQ
          rintro e x1 ⟨rfl, kx⟩
          have HH4 := @hideH _ (HH3.out.then O kx)
          clear kx HH3
          have HQ := @hideH _ (O.all _ HH4.out.l)
          rw [← hK] at HQ
          have hUK : ¬ A < U' + K := by rw [hK]; have := HU3.out; omega
          have wUK : IntKind.i64.wrap (U' + K) = U' + K := by rw [hK]; have := HU3.out; exact wrap_i64_of (by omega) (by omega)
          clear hK
          go_wp2_with fail
          refine HQ.out.mono ?_
          clear HQ
          rintro e x2 ⟨rfl, kx⟩
          have HH5 := @hideH _ (HH4.out.then O kx)
          clear kx HH4
          go_wp2
          go_roundw
          case rel => exact ⟨k + 1, U', by omega, by go_num, rfl, F', T', vs', ops', fls', HH5.out, HP3.out, HU3.out.1, HU3.out.2.1⟩
          case measure => simp [intOf]; omega
end Go.Proofs.Ytpbcfkfhkenhpaa

