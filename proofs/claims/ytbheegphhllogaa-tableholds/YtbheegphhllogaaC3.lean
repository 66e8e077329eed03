import Derived.Test.YtbheegphhllogaaC2
/-
  OWN WORK (by mktbd.py). The law: TableHolds.
-/
namespace Go.Proofs.Ytbheegphhllogaa
open Go.RowKit
set_option linter.unusedVariables false
set_option linter.unusedSimpArgs false

theorem ids_ne {m : Int} {S : List RowR} (ok : OkT m S) {k i : Nat} {z x : RowR} (hz : S[k]? = some z) (hx : S[i]? = some x) (h : k ≠ i) : z.id ≠ x.id := by
  obtain ⟨h1, rfl⟩ := List.getElem?_eq_some_iff.1 hz
  obtain ⟨h2, rfl⟩ := List.getElem?_eq_some_iff.1 hx
  rcases Nat.lt_or_gt_of_ne h with c | c
  · exact List.pairwise_iff_getElem.1 ok.ids k i h1 h2 c
  · exact fun e => List.pairwise_iff_getElem.1 ok.ids i k h2 h1 c e.symm
theorem births_up {m : Int} {S : List RowR} (ok : OkT m S) {k i : Nat} {z x : RowR} (hz : S[k]? = some z) (hx : S[i]? = some x) (h : k < i) : z.birth < x.birth := by
  obtain ⟨h1, rfl⟩ := List.getElem?_eq_some_iff.1 hz
  obtain ⟨h2, rfl⟩ := List.getElem?_eq_some_iff.1 hx
  exact List.pairwise_iff_getElem.1 ok.up k i h1 h2 h
set_option maxRecDepth 20000 in
set_option maxHeartbeats 25600000 in
theorem tableHolds_walk {Tb : World → Nat → List Nat → Int → List RowR → Prop} (O : TbOps Tb) (most : Int) (v : Value) (ss : List StepT) (r : RowR) (w : World) (hS : Scr w v ss) (hri : r.i64) : Calls Try.prog 3 #[.int .i64 most, v, .agg #[.int .i64 r.birth, .int .i64 r.id, .int .i64 r.state, .int .i64 r.last, .int .i64 r.next]] w fun e w' => e = .returned (.bool true) ∧ Kept [] w w' := by
  obtain ⟨w0, hw0⟩ : ∃ wx, wx = w.alloc (.cells #[.int .i64 r.birth, .int .i64 r.id, .int .i64 r.state, .int .i64 r.last, .int .i64 r.next] 24) := ⟨_, rfl⟩
  have kw0 : Kept [] w w0 := by rw [hw0]; exact (Kept.refl [] w).alloc _
  have XB : Blk w0 w.heap.size 24 r.cs := by rw [hw0]; exact Blk.new w _ _
  have HPL := @hideH _ (played_any O most v ss w0 (hS.kept kw0))
  have HRI := @hideH _ hri
  have HMM := @hideH _ (mostOf_ok most)
  have HW0 := @hideH _ kw0
  have HXB := @hideH _ XB
  clear hS hri kw0 XB
  have wm : IntKind.i64.wrap (1 + most % 8) = mostOf most := wrap_i64_of (by omega) (by omega)
  obtain ⟨M, hM⟩ : ∃ M, M = mostOf most := ⟨_, rfl⟩
  rw [← hM] at wm HPL HMM
  obtain ⟨q8, hq8⟩ : ∃ q, q = most % 8 := ⟨_, rfl⟩
  rw [← hq8] at wm
  have HQ8 := @hideH _ hq8
  clear hM hq8
  go_enter Try.func3, Try.ntmps3
  go_upto_region 1 with fail
  rw [← hw0]
  clear hw0
  obtain ⟨bx, hbx⟩ : ∃ bx, bx = w.heap.size := ⟨_, rfl⟩
  rw [← hbx] at HXB
  rw [← hbx]
  clear hbx
  go_wp2_with fail
  refine HPL.out.mono ?_
  clear HPL
  rintro e w1 ⟨g, F, S, u, l, rfl, p1⟩
  have HP := @hideH _ p1
  clear p1
  have HKN := @hideH _ (known_any O w1)
  go_wp2_with fail
  refine HKN.out.mono ?_
  clear HKN
  rintro e w2 ⟨rfl, k2⟩
  have HQ := @hideH _ (O.rows w2 (O.kept HP.out.t k2 (by simp)))
  go_wp2_with fail
  refine HQ.out.mono ?_
  clear HQ
  rintro e w3 ⟨vr, rfl, m3, k3⟩
  have HD3 := @hideH _ (hd_start O HP.out k2 m3 k3 HXB.out)
  have HOK := @hideH _ (O.ok HP.out.t)
  have HPM := @hideH _ HP.out.pm
  clear k2 k3 m3 HP
  obtain ⟨p, c, hv⟩ := HD3.out.a.shape
  subst hv
  obtain ⟨pr, cr, hv⟩ := HD3.out.b.shape
  subst hv
  obtain ⟨n, hn⟩ : ∃ n, n = S.length := ⟨_, rfl⟩
  have hnl : l.length = n := by rw [hn]; exact HPM.out.length_eq.symm
  have HN := @hideH _ (And.intro hn hnl)
  rw [hnl, ← hn] at HD3
  rw [hnl, ← hn]
  have hmn : ¬ M < (n : Int) := by have e1 := HOK.out.len; rw [← hn] at e1; omega
  have H8 := @hideH _ (show n ≤ 8 by have e1 := HOK.out.len; have e2 := HOK.out.most; rw [← hn] at e1; omega)
  have hnn : ((n : Int) != (n : Int)) = false := by simp
  have hq := O.count w3 HD3.out.t
  rw [← hn] at hq
  have HQ := @hideH _ hq
  clear hq hn hnl
  go_wp2_with fail
  refine HQ.out.mono ?_
  clear HQ
  rintro e w4 ⟨rfl, k4⟩
  have HD4 := @hideH _ (HD3.out.then O k4)
  clear HD3 k4
  go_wp2_with fail
  refine (into8 most w4).mono ?_
  rintro e wx ⟨rfl, hwx⟩
  rw [hwx, ← HQ8.out]
  clear hwx wx
  go_wp2
  go_loopw [10, 11] (fun vf vi wr => ∃ i : Nat, i ≤ n ∧ vi = .int .i64 i ∧ vf = .bool (frOf (S.take i) r) ∧ Hid (Hd Tb w0 wr M g F S (.slice p n c) l (.slice pr n cr) bx r)) (fun _ vi _ => n - (intOf vi).toNat)
  case atStart => exact ⟨0, Nat.zero_le _, rfl, rfl, HD4.out⟩
  case round =>
    clear HD4
    obtain ⟨i, hi, rfl, rfl, hh⟩ := hrel
    obtain ⟨wo, rfl⟩ : ∃ wo, wo = wr := ⟨_, rfl⟩
    obtain ⟨fb, hfb⟩ : ∃ fb, fb = frOf (S.take i) r := ⟨_, rfl⟩
    rw [← hfb]
    have HFB := @hideH _ hfb
    clear hfb
    by_cases hil : i < n
    · have hil' : (i : Int) < (n : Int) := by omega
      have hi0 : (0 : Int) ≤ (i : Int) := by omega
      have wi : IntKind.i64.wrap ((i : Int) + 1) = (i : Int) + 1 := wrap_i64_of (by omega) (by have := H8.out; omega)
      obtain ⟨x, hx⟩ : ∃ x, S[i]? = some x := ⟨_, List.getElem?_eq_getElem (by have := HN.out.1; omega)⟩
      obtain ⟨gr, hp, -, -, ⟨d0, d1, d2, d3, d4⟩, -⟩ := hh.out.b.at hx
      subst hp
      have HX := @hideH _ hx
      have HXM := @hideH _ (List.mem_of_getElem? hx : x ∈ S)
      clear hx
      go_upto_region 11 with fail
      go_cut [78] (fun c wx => c = .bool false ∧ Hid (Kept [] wo wx))
      case first =>
        as_aux_lemma =>
          by_cases hz : i = 0
          · have hp' : decide ((0 : Int) < (i : Int)) = false := by simp; omega
            have hp : ¬ (0 : Int) < (i : Int) := by omega
            have hpn : decide (0 < i) = false := by simp; omega
            clear hz
            go_quiet (fail)
            go_wp2
            go_meet
            case rel => exact ⟨rfl, (Kept.refl [] wo).drewN' _⟩
          · obtain ⟨q, hq⟩ : ∃ q : Nat, i = q + 1 := ⟨i - 1, by omega⟩
            have hp' : decide ((0 : Int) < (i : Int)) = true := by simp; omega
            have hp : (0 : Int) < (i : Int) := by omega
            have hpn : decide (0 < i) = true := by simp; omega
            have wq : IntKind.i64.wrap ((i : Int) - 1) = (q : Int) := by rw [wrap_i64_of (by omega) (by have := H8.out; omega)]; omega
            have hq0 : (0 : Int) ≤ (q : Int) := by omega
            have hq1 : (q : Int) < (n : Int) := by omega
            obtain ⟨yq, hyq⟩ : ∃ y, S[q]? = some y := ⟨_, List.getElem?_eq_getElem (by have := HN.out.1; omega)⟩
            obtain ⟨gr', hpp, -, -, ⟨u0, -⟩, -⟩ := hh.out.b.at hyq
            cases hpp
            have hup := births_up HOK.out hyq HX.out (by omega)
            have hle' : decide (x.birth ≤ yq.birth) = false := decide_eq_false (by omega)
            clear hz hq hyq hup
            go_quiet (fail)
            go_wp2
            go_meet
            case rel => exact ⟨rfl, (Kept.refl [] wo).drewN' _⟩
      case rest =>
        obtain ⟨hs78, hK⟩ := hcut
        subst hs78
        have HK5 := @hideH _ hK.out
        obtain ⟨w5, rfl⟩ : ∃ wx, wx = wc := ⟨_, rfl⟩
        have k5 : Kept [] wo w5 := HK5.out
        clear hK HK5
        replace d0 := k5.cell d0 (by simp)
        replace d1 := k5.cell d1 (by simp)
        replace d2 := k5.cell d2 (by simp)
        replace d3 := k5.cell d3 (by simp)
        replace d4 := k5.cell d4 (by simp)
        have HD5 := @hideH _ (hh.out.then O k5)
        clear k5 hh
        go_wp2
        go_loopw [12, 13] (fun vt vk wr => ∃ k : Nat, k ≤ n ∧ vk = .int .i64 k ∧ vt = .bool (decide (x ∈ l.take k)) ∧ Hid (Kept [] w5 wr)) (fun _ vk _ => n - (intOf vk).toNat)
        case atStart => exact ⟨0, Nat.zero_le _, rfl, by simp, Kept.refl _ _⟩
        case round =>
          obtain ⟨k, hk, rfl, rfl, h2⟩ := hrel
          replace d0 := h2.out.cell d0 (by simp)
          replace d1 := h2.out.cell d1 (by simp)
          replace d2 := h2.out.cell d2 (by simp)
          replace d3 := h2.out.cell d3 (by simp)
          replace d4 := h2.out.cell d4 (by simp)
          have HD6 := @hideH _ (HD5.out.then O h2.out)
          by_cases hkl : k < n
          · have hkl' : (k : Int) < (n : Int) := by omega
            have hk0 : (0 : Int) ≤ (k : Int) := by omega
            have wk : IntKind.i64.wrap ((k : Int) + 1) = (k : Int) + 1 := wrap_i64_of (by omega) (by have := H8.out; omega)
            obtain ⟨y, hy⟩ : ∃ y, l[k]? = some y := ⟨_, List.getElem?_eq_getElem (by have := HN.out.2; omega)⟩
            obtain ⟨gv, hp, -, -, ⟨y0, y1, y2, y3, y4⟩, -⟩ := HD6.out.a.at hy
            subst hp
            obtain ⟨z, hz⟩ : ∃ z, S[k]? = some z := ⟨_, List.getElem?_eq_getElem (by have := HN.out.1; omega)⟩
            obtain ⟨gr', hp, -, -, ⟨z0, z1, -⟩, -⟩ := HD6.out.b.at hz
            cases hp
            have HY := @hideH _ (mem_next (x := x) hy)
            have HZ := @hideH _ hz
            clear hy hz z0
            have heq := eqRow y x
            obtain ⟨tb, htb⟩ : ∃ tb, tb = decide (x ∈ l.take k) := ⟨_, rfl⟩
            rw [← htb]
            rw [← htb] at HY
            clear htb
            by_cases hki : k = i
            · have hki' : ((k : Int) != (i : Int)) = false := by simp; omega
              clear hki
              cases tb with
              | true =>
                as_aux_lemma =>
                  go_upto_region 17 with fail
                  go_quiet (fail)
                  obtain ⟨w6, hw6⟩ : ∃ wx, wx = wr.drewN nq := ⟨_, rfl⟩
                  have k6 : Kept [] wr w6 := by rw [hw6]; exact (Kept.refl [] wr).drewN' _
                  rw [← hw6]
                  clear hw6
                  replace d1 := k6.cell d1 (by simp)
                  replace z1 := k6.cell z1 (by simp)
                  have HK6 := @hideH _ (h2.out.then k6)
                  clear k6 y0 y1 y2 y3 y4 d0 d2 d3 d4 heq
                  go_wp2
                  go_quiet (fail)
                  go_wp2
                  go_roundw
                  case rel => exact ⟨k + 1, by omega, by go_num, by rw [HY.out]; first | rfl | simp, HK6.out.drewN' _⟩
                  case measure => simp [intOf]; omega
              | false =>
                as_aux_lemma =>
                  go_upto_region 17 with fail
                  go_quiet (fail)
                  obtain ⟨w6, hw6⟩ : ∃ wx, wx = wr.drewN nq := ⟨_, rfl⟩
                  have k6 : Kept [] wr w6 := by rw [hw6]; exact (Kept.refl [] wr).drewN' _
                  rw [← hw6]
                  clear hw6
                  replace d1 := k6.cell d1 (by simp)
                  replace z1 := k6.cell z1 (by simp)
                  have HK6 := @hideH _ (h2.out.then k6)
                  clear k6 y0 y1 y2 y3 y4 d0 d2 d3 d4 heq
                  go_wp2
                  go_quiet (fail)
                  go_wp2
                  go_roundw
                  case rel => exact ⟨k + 1, by omega, by go_num, by rw [HY.out]; first | rfl | simp, HK6.out.drewN' _⟩
                  case measure => simp [intOf]; omega
            · have hki' : ((k : Int) != (i : Int)) = true := by simp; omega
              have hid : (z.id == x.id) = false := by
                have q : z.id ≠ x.id := ids_ne HOK.out HZ.out HX.out hki
                simpa using q
              clear hki
              cases tb with
              | true =>
                as_aux_lemma =>
                  go_upto_region 17 with fail
                  go_quiet (fail)
                  obtain ⟨w6, hw6⟩ : ∃ wx, wx = wr.drewN nq := ⟨_, rfl⟩
                  have k6 : Kept [] wr w6 := by rw [hw6]; exact (Kept.refl [] wr).drewN' _
                  rw [← hw6]
                  clear hw6
                  replace d1 := k6.cell d1 (by simp)
                  replace z1 := k6.cell z1 (by simp)
                  have HK6 := @hideH _ (h2.out.then k6)
                  clear k6 y0 y1 y2 y3 y4 d0 d2 d3 d4 heq
                  go_wp2
                  go_quiet (fail)
                  go_wp2
                  go_roundw
                  case rel => exact ⟨k + 1, by omega, by go_num, by rw [HY.out]; first | rfl | simp, HK6.out.drewN' _⟩
                  case measure => simp [intOf]; omega
              | false =>
                as_aux_lemma =>
                  go_upto_region 17 with fail
                  go_quiet (fail)
                  obtain ⟨w6, hw6⟩ : ∃ wx, wx = wr.drewN nq := ⟨_, rfl⟩
                  have k6 : Kept [] wr w6 := by rw [hw6]; exact (Kept.refl [] wr).drewN' _
                  rw [← hw6]
                  clear hw6
                  replace d1 := k6.cell d1 (by simp)
                  replace z1 := k6.cell z1 (by simp)
                  have HK6 := @hideH _ (h2.out.then k6)
                  clear k6 y0 y1 y2 y3 y4 d0 d2 d3 d4 heq
                  go_wp2
                  go_quiet (fail)
                  go_wp2
                  go_roundw
                  case rel => exact ⟨k + 1, by omega, by go_num, by rw [HY.out]; first | rfl | simp, HK6.out.drewN' _⟩
                  case measure => simp [intOf]; omega
          · have hkl' : ¬ (k : Int) < (n : Int) := by omega
            have htrue : decide (x ∈ l.take k) = true := decide_eq_true (by rw [show k = l.length by have := HN.out.2; omega, List.take_length]; exact HPM.out.mem_iff.1 HXM.out)
            rw [htrue]
            clear htrue HD5 h2
            have HXI := @hideH _ (show x.i64 from right_i64 (HOK.out.right x HXM.out))
            have hq := O.get x.birth wr HD6.out.t HXI.out.1
            rw [HOK.out.dif.findB HXM.out] at hq
            have HQ := @hideH _ hq
            clear hq
            unfold rowOf at HQ
            simp only [Option.getD_some, Option.isSome_some, RowR.v] at HQ
            go_wp2_with fail
            refine HQ.out.mono ?_
            clear HQ
            rintro e w7 ⟨rfl, ka⟩
            replace d0 := ka.cell d0 (by simp)
            replace d1 := ka.cell d1 (by simp)
            replace d2 := ka.cell d2 (by simp)
            replace d3 := ka.cell d3 (by simp)
            replace d4 := ka.cell d4 (by simp)
            obtain ⟨w8, hw8⟩ : ∃ wx, wx = w7.alloc (.cells #[.int .i64 x.birth, .int .i64 x.id, .int .i64 x.state, .int .i64 x.last, .int .i64 x.next] 24) := ⟨_, rfl⟩
            have kw8 : Kept [] w7 w8 := by rw [hw8]; exact (Kept.refl [] w7).alloc _
            have Z : Blk w8 w7.heap.size 24 x.cs := by rw [hw8]; exact Blk.new w7 _ _
            replace d0 := kw8.cell d0 (by simp)
            replace d1 := kw8.cell d1 (by simp)
            replace d2 := kw8.cell d2 (by simp)
            replace d3 := kw8.cell d3 (by simp)
            replace d4 := kw8.cell d4 (by simp)
            have a0 := Z.cell (j := 0) rfl
            have a1 := Z.cell (j := 1) rfl
            have a2 := Z.cell (j := 2) rfl
            have a3 := Z.cell (j := 3) rfl
            have a4 := Z.cell (j := 4) rfl
            have HD8 := @hideH _ ((HD6.out.then O ka).then O kw8)
            clear HD6 ka kw8 Z
            go_upto_region 21 with fail
            rw [← hw8]
            clear hw8
            have hq := O.byId x.id w8 HD8.out.t HXI.out.2.1
            rw [HOK.out.dif.findI HXM.out] at hq
            have HQ := @hideH _ hq
            clear hq
            unfold rowOf at HQ
            simp only [Option.getD_some, Option.isSome_some, RowR.v] at HQ
            go_wp2_with fail
            refine HQ.out.mono ?_
            clear HQ
            rintro e w9 ⟨rfl, ka⟩
            replace d0 := ka.cell d0 (by simp)
            replace d1 := ka.cell d1 (by simp)
            replace d2 := ka.cell d2 (by simp)
            replace d3 := ka.cell d3 (by simp)
            replace d4 := ka.cell d4 (by simp)
            replace a0 := ka.cell a0 (by simp)
            replace a1 := ka.cell a1 (by simp)
            replace a2 := ka.cell a2 (by simp)
            replace a3 := ka.cell a3 (by simp)
            replace a4 := ka.cell a4 (by simp)
            obtain ⟨wa, hwa⟩ : ∃ wx, wx = w9.alloc (.cells #[.int .i64 x.birth, .int .i64 x.id, .int .i64 x.state, .int .i64 x.last, .int .i64 x.next] 24) := ⟨_, rfl⟩
            have kwa : Kept [] w9 wa := by rw [hwa]; exact (Kept.refl [] w9).alloc _
            have Z : Blk wa w9.heap.size 24 x.cs := by rw [hwa]; exact Blk.new w9 _ _
            replace d0 := kwa.cell d0 (by simp)
            replace d1 := kwa.cell d1 (by simp)
            replace d2 := kwa.cell d2 (by simp)
            replace d3 := kwa.cell d3 (by simp)
            replace d4 := kwa.cell d4 (by simp)
            replace a0 := kwa.cell a0 (by simp)
            replace a1 := kwa.cell a1 (by simp)
            replace a2 := kwa.cell a2 (by simp)
            replace a3 := kwa.cell a3 (by simp)
            replace a4 := kwa.cell a4 (by simp)
            have b0 := Z.cell (j := 0) rfl
            have b1 := Z.cell (j := 1) rfl
            have b2 := Z.cell (j := 2) rfl
            have b3 := Z.cell (j := 3) rfl
            have b4 := Z.cell (j := 4) rfl
            have HDA := @hideH _ ((HD8.out.then O ka).then O kwa)
            clear HD8 ka kwa Z
            go_upto_region 22 with fail
            rw [← hwa]
            clear hwa
            have heq := eqRow x x
            rw [decide_eq_true (rfl : x = x)] at heq
            go_quiet (fail)
            obtain ⟨wb, hwb⟩ : ∃ wx, wx = wa.drewN nq := ⟨_, rfl⟩
            have kb : Kept [] wa wb := by rw [hwb]; exact (Kept.refl [] wa).drewN' _
            rw [← hwb]
            clear hwb
            replace d0 := kb.cell d0 (by simp)
            replace d1 := kb.cell d1 (by simp)
            replace d2 := kb.cell d2 (by simp)
            replace d3 := kb.cell d3 (by simp)
            replace d4 := kb.cell d4 (by simp)
            have HDB := @hideH _ (HDA.out.then O kb)
            clear HDA kb heq a0 a1 a2 a3 a4 b0 b1 b2 b3 b4
            have r0 := HDB.out.x.cell (j := 0) rfl
            have r1 := HDB.out.x.cell (j := 1) rfl
            have HNX := @hideH _ (frOf_next (r := r) HX.out)
            rw [← HFB.out] at HNX
            clear HFB
            go_upto_region 24 with fail
            cases fb with
            | false =>
              as_aux_lemma =>
                go_quiet (fail)
                obtain ⟨wc, hwc⟩ : ∃ wx, wx = wb.drewN nq := ⟨_, rfl⟩
                have kc : Kept [] wb wc := by rw [hwc]; exact (Kept.refl [] wb).drewN' _
                rw [← hwc]
                have HDC := @hideH _ (HDB.out.then O kc)
                clear kc hwc HDB d0 d1 d2 d3 d4 r0 r1
                go_wp2
                go_roundw
                case rel => exact ⟨i + 1, by omega, by go_num, by rw [HNX.out]; first | rfl | simp, HDC.out⟩
                case measure => simp [intOf]; omega
            | true =>
              by_cases hb : x.birth = r.birth
              · have hb' : (x.birth != r.birth) = false := by simpa using hb
                rw [hb'] at HNX
                clear hb
                as_aux_lemma =>
                  go_quiet (fail)
                  obtain ⟨wc, hwc⟩ : ∃ wx, wx = wb.drewN nq := ⟨_, rfl⟩
                  have kc : Kept [] wb wc := by rw [hwc]; exact (Kept.refl [] wb).drewN' _
                  rw [← hwc]
                  have HDC := @hideH _ (HDB.out.then O kc)
                  clear kc hwc HDB d0 d1 d2 d3 d4 r0 r1
                  go_wp2
                  go_roundw
                  case rel => exact ⟨i + 1, by omega, by go_num, by rw [HNX.out]; first | rfl | simp, HDC.out⟩
                  case measure => simp [intOf]; omega
              · have hb' : (x.birth != r.birth) = true := by simpa using hb
                rw [hb'] at HNX
                clear hb
                by_cases hd : x.id = r.id
                · have hd' : (x.id != r.id) = false := by simpa using hd
                  rw [hd'] at HNX
                  clear hd
                  as_aux_lemma =>
                    go_quiet (fail)
                    obtain ⟨wc, hwc⟩ : ∃ wx, wx = wb.drewN nq := ⟨_, rfl⟩
                    have kc : Kept [] wb wc := by rw [hwc]; exact (Kept.refl [] wb).drewN' _
                    rw [← hwc]
                    have HDC := @hideH _ (HDB.out.then O kc)
                    clear kc hwc HDB d0 d1 d2 d3 d4 r0 r1
                    go_wp2
                    go_roundw
                    case rel => exact ⟨i + 1, by omega, by go_num, by rw [HNX.out]; first | rfl | simp, HDC.out⟩
                    case measure => simp [intOf]; omega
                · have hd' : (x.id != r.id) = true := by simpa using hd
                  rw [hd'] at HNX
                  clear hd
                  as_aux_lemma =>
                    go_quiet (fail)
                    obtain ⟨wc, hwc⟩ : ∃ wx, wx = wb.drewN nq := ⟨_, rfl⟩
                    have kc : Kept [] wb wc := by rw [hwc]; exact (Kept.refl [] wb).drewN' _
                    rw [← hwc]
                    have HDC := @hideH _ (HDB.out.then O kc)
                    clear kc hwc HDB d0 d1 d2 d3 d4 r0 r1
                    go_wp2
                    go_roundw
                    case rel => exact ⟨i + 1, by omega, by go_num, by rw [HNX.out]; first | rfl | simp, HDC.out⟩
                    case measure => simp [intOf]; omega
    · have hil' : ¬ (i : Int) < (n : Int) := by omega
      have HFF := @hideH _ (show fb = frOf S r by rw [HFB.out, show i = S.length by have := HN.out.1; omega, List.take_length])
      clear HFB hil hi
      have x0 := hh.out.x.cell (j := 0) rfl
      have x1 := hh.out.x.cell (j := 1) rfl
      have x2 := hh.out.x.cell (j := 2) rfl
      have x3 := hh.out.x.cell (j := 3) rfl
      have x4 := hh.out.x.cell (j := 4) rfl
      obtain ⟨b, id, s, la, ne⟩ := r
      simp only at x0 x1 x2 x3 x4
      obtain ⟨RB, hRB⟩ : ∃ RB, RB = decide (rightR ⟨b, id, s, la, ne⟩) := ⟨_, rfl⟩
      have HRB := @hideH _ hRB
      clear hRB
      go_upto_region 25 with fail
      go_cut [18] from 180 to 238 (fun c wx => c = .bool RB ∧ wx = wo)
      case first =>
        as_aux_lemma =>
          by_cases b1 : (1 : Int) ≤ b
          rotate_left
          · have q : True := trivial
            clear q
            have HE := @hideH _ (show ¬ rightR ⟨b, id, s, la, ne⟩ from fun h => by have : (1 : Int) ≤ b := h.1.1; exact b1 this)
            go_wp2
            go_meet
            case rel => exact ⟨by rw [HRB.out, decide_eq_false HE.out], rfl⟩
          by_cases b2 : b ≤ (1152921504606846976 : Int)
          rotate_left
          · have q : True := trivial
            clear q
            have HE := @hideH _ (show ¬ rightR ⟨b, id, s, la, ne⟩ from fun h => by exact b2 h.1.2)
            go_wp2
            go_meet
            case rel => exact ⟨by rw [HRB.out, decide_eq_false HE.out], rfl⟩
          by_cases i1 : (1 : Int) ≤ id
          rotate_left
          · have q : True := trivial
            clear q
            have HE := @hideH _ (show ¬ rightR ⟨b, id, s, la, ne⟩ from fun h => by exact i1 h.2.1.1)
            go_wp2
            go_meet
            case rel => exact ⟨by rw [HRB.out, decide_eq_false HE.out], rfl⟩
          by_cases i2 : id ≤ (64 : Int)
          rotate_left
          · have q : True := trivial
            clear q
            have HE := @hideH _ (show ¬ rightR ⟨b, id, s, la, ne⟩ from fun h => by exact i2 h.2.1.2)
            go_wp2
            go_meet
            case rel => exact ⟨by rw [HRB.out, decide_eq_false HE.out], rfl⟩
          by_cases sx : s = 1 ∨ s = 2
          rotate_left
          · have s1 : (s == 1) = false := by simp; exact fun q => sx (.inl q)
            have s2 : (s == 2) = false := by simp; exact fun q => sx (.inr q)
            have HSX := @hideH _ sx
            clear sx
            have HE := @hideH _ (show ¬ rightR ⟨b, id, s, la, ne⟩ from fun h => by exact HSX.out h.2.2.1)
            go_wp2
            go_meet
            case rel => exact ⟨by rw [HRB.out, decide_eq_false HE.out], rfl⟩
          have HSX := @hideH _ sx
          rcases sx with sv | sv
          · subst sv
            by_cases l1 : b ≤ la
            rotate_left
            · have q : True := trivial
              clear q
              have HE := @hideH _ (show ¬ rightR ⟨b, id, 1, la, ne⟩ from fun h => by exact l1 h.2.2.2.1.1)
              go_wp2
              go_meet
              case rel => exact ⟨by rw [HRB.out, decide_eq_false HE.out], rfl⟩
            by_cases l2 : la ≤ (1152921504606846976 : Int)
            rotate_left
            · have q : True := trivial
              clear q
              have HE := @hideH _ (show ¬ rightR ⟨b, id, 1, la, ne⟩ from fun h => by exact l2 h.2.2.2.1.2)
              go_wp2
              go_meet
              case rel => exact ⟨by rw [HRB.out, decide_eq_false HE.out], rfl⟩
            have HBI := @hideH _ (And.intro (And.intro b1 b2) (And.intro (And.intro i1 i2) (And.intro l1 l2)))
            by_cases n0 : ne = 0
            · subst n0
              have HE := @hideH _ (show rightR ⟨b, id, 1, la, 0⟩ from ⟨HBI.out.1, HBI.out.2.1, HSX.out, HBI.out.2.2, .inl rfl⟩)
              go_wp2
              go_meet
              case rel => exact ⟨by rw [HRB.out, decide_eq_true HE.out], rfl⟩
            · have n0' : (ne == 0) = false := by simpa using n0
              by_cases n1 : b < ne
              rotate_left
              · have HNN := @hideH _ (And.intro n0 n1)
                clear n0
                have HE := @hideH _ (show ¬ rightR ⟨b, id, 1, la, ne⟩ from fun h => by rcases h.2.2.2.2 with q | q; exact HNN.out.1 q; exact HNN.out.2 q.1)
                go_wp2
                go_meet
                case rel => exact ⟨by rw [HRB.out, decide_eq_false HE.out], rfl⟩
              by_cases n2 : ne ≤ la
              rotate_left
              · have HNN := @hideH _ (And.intro n0 n2)
                clear n0
                have HE := @hideH _ (show ¬ rightR ⟨b, id, 1, la, ne⟩ from fun h => by rcases h.2.2.2.2 with q | q; exact HNN.out.1 q; exact HNN.out.2 q.2)
                go_wp2
                go_meet
                case rel => exact ⟨by rw [HRB.out, decide_eq_false HE.out], rfl⟩
              have HNN := @hideH _ (And.intro n1 n2)
              clear n0
              have HE := @hideH _ (show rightR ⟨b, id, 1, la, ne⟩ from ⟨HBI.out.1, HBI.out.2.1, HSX.out, HBI.out.2.2, .inr HNN.out⟩)
              go_wp2
              go_meet
              case rel => exact ⟨by rw [HRB.out, decide_eq_true HE.out], rfl⟩
          · subst sv
            by_cases l1 : b ≤ la
            rotate_left
            · have q : True := trivial
              clear q
              have HE := @hideH _ (show ¬ rightR ⟨b, id, 2, la, ne⟩ from fun h => by exact l1 h.2.2.2.1.1)
              go_wp2
              go_meet
              case rel => exact ⟨by rw [HRB.out, decide_eq_false HE.out], rfl⟩
            by_cases l2 : la ≤ (1152921504606846976 : Int)
            rotate_left
            · have q : True := trivial
              clear q
              have HE := @hideH _ (show ¬ rightR ⟨b, id, 2, la, ne⟩ from fun h => by exact l2 h.2.2.2.1.2)
              go_wp2
              go_meet
              case rel => exact ⟨by rw [HRB.out, decide_eq_false HE.out], rfl⟩
            have HBI := @hideH _ (And.intro (And.intro b1 b2) (And.intro (And.intro i1 i2) (And.intro l1 l2)))
            by_cases n0 : ne = 0
            · subst n0
              have HE := @hideH _ (show rightR ⟨b, id, 2, la, 0⟩ from ⟨HBI.out.1, HBI.out.2.1, HSX.out, HBI.out.2.2, .inl rfl⟩)
              go_wp2
              go_meet
              case rel => exact ⟨by rw [HRB.out, decide_eq_true HE.out], rfl⟩
            · have n0' : (ne == 0) = false := by simpa using n0
              by_cases n1 : b < ne
              rotate_left
              · have HNN := @hideH _ (And.intro n0 n1)
                clear n0
                have HE := @hideH _ (show ¬ rightR ⟨b, id, 2, la, ne⟩ from fun h => by rcases h.2.2.2.2 with q | q; exact HNN.out.1 q; exact HNN.out.2 q.1)
                go_wp2
                go_meet
                case rel => exact ⟨by rw [HRB.out, decide_eq_false HE.out], rfl⟩
              by_cases n2 : ne ≤ la
              rotate_left
              · have HNN := @hideH _ (And.intro n0 n2)
                clear n0
                have HE := @hideH _ (show ¬ rightR ⟨b, id, 2, la, ne⟩ from fun h => by rcases h.2.2.2.2 with q | q; exact HNN.out.1 q; exact HNN.out.2 q.2)
                go_wp2
                go_meet
                case rel => exact ⟨by rw [HRB.out, decide_eq_false HE.out], rfl⟩
              have HNN := @hideH _ (And.intro n1 n2)
              clear n0
              have HE := @hideH _ (show rightR ⟨b, id, 2, la, ne⟩ from ⟨HBI.out.1, HBI.out.2.1, HSX.out, HBI.out.2.2, .inr HNN.out⟩)
              go_wp2
              go_meet
              case rel => exact ⟨by rw [HRB.out, decide_eq_true HE.out], rfl⟩
      case rest =>
        obtain ⟨h18, hwc⟩ := hcut
        subst h18
        subst hwc
        obtain ⟨wo, rfl⟩ : ∃ wx, wx = wc := ⟨_, rfl⟩
        by_cases hr : rightR ⟨b, id, s, la, ne⟩
        rotate_left
        · rw [show RB = false from HRB.out.trans (decide_eq_false hr)]
          as_aux_lemma =>
            have HE := @hideH _ (put_range (m := M) (l := S) hr)
            clear hr
            have hq := O.put ⟨b, id, s, la, ne⟩ wo hh.out.t HRI.out
            rw [HE.out.1, HE.out.2] at hq
            simp only [RowR.v] at hq
            have HQ := @hideH _ hq
            clear hq
            go_wp2_with fail
            refine HQ.out.mono ?_
            clear HQ
            rintro e w5 ⟨F5, rfl, l5, fr5, k5⟩
            have HP5 := @hideH _ (hh.out.put O l5 k5)
            clear l5 fr5 k5 hh x0 x1 x2 x3 x4
            have HQ := @hideH _ (O.rows w5 HP5.out.1)
            go_wp2_with fail
            refine HQ.out.mono ?_
            clear HQ
            rintro e w6 ⟨vn, rfl, m6, k6⟩
            have HB6 := @hideH _ (And.intro m6 (And.intro (HP5.out.2.1.kept k6 (by simp)) (HP5.out.2.2.2.then k6)))
            have HX6 := @hideH _ (And.intro (O.kept HP5.out.1 k6 (by simp)) (HP5.out.2.2.1.kept k6 (by simp)))
            clear m6 k6 HP5
            have HQ := @hideH _ (same_eq vn _ S _ _ w6 HB6.out.1 HB6.out.2.1)
            go_wp2_with fail
            refine HQ.out.mono ?_
            clear HQ
            rintro e w7 ⟨rfl, k7⟩
            have KE := @hideH _ (HW0.out.then (HB6.out.2.2.then k7))
            clear HB6 HX6 k7
            go_wp2
            go_ret
            exact ⟨by first | rfl | simp, KE.out⟩
        rw [show RB = true from HRB.out.trans (decide_eq_true hr)]
        have HRR := @hideH _ (show rightR ⟨b, id, s, la, ne⟩ from hr)
        clear hr
        cases fb with
        | false =>
          as_aux_lemma =>
            have HE := @hideH _ (put_txn (m := M) (l := S) HRR.out (fr_no HFF.out.symm))
            have hq := O.put ⟨b, id, s, la, ne⟩ wo hh.out.t HRI.out
            rw [HE.out.1, HE.out.2] at hq
            simp only [RowR.v] at hq
            have HQ := @hideH _ hq
            clear hq
            go_wp2_with fail
            refine HQ.out.mono ?_
            clear HQ
            rintro e w5 ⟨F5, rfl, l5, fr5, k5⟩
            have HP5 := @hideH _ (hh.out.put O l5 k5)
            clear l5 fr5 k5 hh x0 x1 x2 x3 x4
            have HQ := @hideH _ (O.rows w5 HP5.out.1)
            go_wp2_with fail
            refine HQ.out.mono ?_
            clear HQ
            rintro e w6 ⟨vn, rfl, m6, k6⟩
            have HB6 := @hideH _ (And.intro m6 (And.intro (HP5.out.2.1.kept k6 (by simp)) (HP5.out.2.2.2.then k6)))
            have HX6 := @hideH _ (And.intro (O.kept HP5.out.1 k6 (by simp)) (HP5.out.2.2.1.kept k6 (by simp)))
            clear m6 k6 HP5
            have HQ := @hideH _ (same_eq vn _ S _ _ w6 HB6.out.1 HB6.out.2.1)
            go_wp2_with fail
            refine HQ.out.mono ?_
            clear HQ
            rintro e w7 ⟨rfl, k7⟩
            have KE := @hideH _ (HW0.out.then (HB6.out.2.2.then k7))
            clear HB6 HX6 k7
            go_wp2
            go_ret
            exact ⟨by first | rfl | simp, KE.out⟩
        | true =>
          have HFN := @hideH _ (fr_yes HFF.out.symm)
          by_cases hm : (n : Int) = M
          · have hm' : ((n : Int) == M) = true := by simpa using hm
            as_aux_lemma =>
              have HE := @hideH _ (put_full (m := M) HRR.out HFN.out.1 HFN.out.2 (by rw [← HN.out.1]; omega))
              clear hm
              have hq := O.put ⟨b, id, s, la, ne⟩ wo hh.out.t HRI.out
              rw [HE.out.1, HE.out.2] at hq
              simp only [RowR.v] at hq
              have HQ := @hideH _ hq
              clear hq
              go_wp2_with fail
              refine HQ.out.mono ?_
              clear HQ
              rintro e w5 ⟨F5, rfl, l5, fr5, k5⟩
              have HP5 := @hideH _ (hh.out.put O l5 k5)
              clear l5 fr5 k5 hh x0 x1 x2 x3 x4
              have HQ := @hideH _ (O.rows w5 HP5.out.1)
              go_wp2_with fail
              refine HQ.out.mono ?_
              clear HQ
              rintro e w6 ⟨vn, rfl, m6, k6⟩
              have HB6 := @hideH _ (And.intro m6 (And.intro (HP5.out.2.1.kept k6 (by simp)) (HP5.out.2.2.2.then k6)))
              have HX6 := @hideH _ (And.intro (O.kept HP5.out.1 k6 (by simp)) (HP5.out.2.2.1.kept k6 (by simp)))
              clear m6 k6 HP5
              go_wp2_with fail
              refine (into8 most w6).mono ?_
              rintro e wx ⟨rfl, hwx⟩
              rw [hwx, ← HQ8.out]
              clear hwx wx
              have HQ := @hideH _ (same_eq vn _ S _ _ w6 HB6.out.1 HB6.out.2.1)
              go_wp2_with fail
              refine HQ.out.mono ?_
              clear HQ
              rintro e w7 ⟨rfl, k7⟩
              have KE := @hideH _ (HW0.out.then (HB6.out.2.2.then k7))
              clear HB6 HX6 k7
              go_wp2
              go_ret
              exact ⟨by first | rfl | simp, KE.out⟩
          · have hm' : ((n : Int) == M) = false := by simpa using hm
            as_aux_lemma =>
              have HE := @hideH _ (put_ok (m := M) HRR.out HFN.out.1 HFN.out.2 (by rw [← HN.out.1]; omega))
              clear hm
              have hq := O.put ⟨b, id, s, la, ne⟩ wo hh.out.t HRI.out
              rw [HE.out.1, HE.out.2] at hq
              simp only [RowR.v] at hq
              have HQ := @hideH _ hq
              clear hq
              go_wp2_with fail
              refine HQ.out.mono ?_
              clear HQ
              rintro e w5 ⟨F5, rfl, l5, fr5, k5⟩
              have HP5 := @hideH _ (hh.out.put O l5 k5)
              clear l5 fr5 k5 hh x0 x1 x2 x3 x4
              have HQ := @hideH _ (O.rows w5 HP5.out.1)
              go_wp2_with fail
              refine HQ.out.mono ?_
              clear HQ
              rintro e w6 ⟨vn, rfl, m6, k6⟩
              have HB6 := @hideH _ (And.intro m6 (And.intro (HP5.out.2.1.kept k6 (by simp)) (HP5.out.2.2.2.then k6)))
              have HX6 := @hideH _ (And.intro (O.kept HP5.out.1 k6 (by simp)) (HP5.out.2.2.1.kept k6 (by simp)))
              clear m6 k6 HP5
              go_wp2_with fail
              refine (into8 most w6).mono ?_
              rintro e wx ⟨rfl, hwx⟩
              rw [hwx, ← HQ8.out]
              clear hwx wx
              have HOI := @hideH _ (find_ins (O.ok HX6.out.1))
              have hq := O.get b w6 HX6.out.1 HRI.out.1
              rw [show findB (insB ⟨b, id, s, la, ne⟩ S) b = some ⟨b, id, s, la, ne⟩ from HOI.out] at hq
              have HQ := @hideH _ hq
              clear hq
              unfold rowOf at HQ
              simp only [Option.getD_some, Option.isSome_some, RowR.v] at HQ
              have x0 := HX6.out.2.cell (j := 0) rfl
              have x1 := HX6.out.2.cell (j := 1) rfl
              have x2 := HX6.out.2.cell (j := 2) rfl
              have x3 := HX6.out.2.cell (j := 3) rfl
              have x4 := HX6.out.2.cell (j := 4) rfl
              simp only at x0 x1 x2 x3 x4
              go_wp2_with fail
              refine HQ.out.mono ?_
              clear HQ
              rintro e w7 ⟨rfl, k7⟩
              replace x0 := k7.cell x0 (by simp)
              replace x1 := k7.cell x1 (by simp)
              replace x2 := k7.cell x2 (by simp)
              replace x3 := k7.cell x3 (by simp)
              replace x4 := k7.cell x4 (by simp)
              obtain ⟨w8, hw8⟩ : ∃ wx, wx = w7.alloc (.cells #[.int .i64 b, .int .i64 id, .int .i64 s, .int .i64 la, .int .i64 ne] 24) := ⟨_, rfl⟩
              have kw8 : Kept [] w7 w8 := by rw [hw8]; exact (Kept.refl [] w7).alloc _
              have Z : Blk w8 w7.heap.size 24 [.int .i64 b, .int .i64 id, .int .i64 s, .int .i64 la, .int .i64 ne] := by rw [hw8]; exact Blk.new w7 _ _
              have z0 := Z.cell (j := 0) rfl
              have z1 := Z.cell (j := 1) rfl
              have z2 := Z.cell (j := 2) rfl
              have z3 := Z.cell (j := 3) rfl
              have z4 := Z.cell (j := 4) rfl
              replace x0 := kw8.cell x0 (by simp)
              replace x1 := kw8.cell x1 (by simp)
              replace x2 := kw8.cell x2 (by simp)
              replace x3 := kw8.cell x3 (by simp)
              replace x4 := kw8.cell x4 (by simp)
              have heq := eqRow ⟨b, id, s, la, ne⟩ ⟨b, id, s, la, ne⟩
              rw [decide_eq_true (rfl : (⟨b, id, s, la, ne⟩ : RowR) = ⟨b, id, s, la, ne⟩)] at heq
              simp only at heq
              obtain ⟨pn, cn, hvn⟩ := HB6.out.1.shape
              have hln : (insB ⟨b, id, s, la, ne⟩ S).length = n + 1 := by rw [(insB_perm _ _).length_eq, List.length_cons, ← HN.out.1]
              rw [hln] at hvn
              subst hvn
              have hcast : (((n + 1 : Nat) : Int)) = (n : Int) + 1 := by omega
              have wn : IntKind.i64.wrap ((n : Int) + 1) = (n : Int) + 1 := wrap_i64_of (by omega) (by have := H8.out; omega)
              have KE := @hideH _ (HW0.out.then ((HB6.out.2.2.then k7).then kw8))
              clear HB6 HX6 k7 kw8 Z hln
              go_upto_region 31 with fail
              rw [← hw8]
              clear hw8
              go_wp2
              go_ret
              exact ⟨by first | rfl | simp, KE.out⟩
end Go.Proofs.Ytbheegphhllogaa

