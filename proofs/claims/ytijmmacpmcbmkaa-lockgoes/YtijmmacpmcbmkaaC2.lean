import Derived.Test.YtijmmacpmcbmkaaC1
/-
  OWN WORK (by mklk5.py). The law: LockGoes.
-/
namespace Go.Proofs.Ytijmmacpmcbmkaa
open Go.RowKit
set_option linter.unusedVariables false
set_option linter.unusedSimpArgs false

set_option maxRecDepth 20000 in
set_option maxHeartbeats 6400000 in
theorem lockGoes_walk {Lk : World → Nat → List Nat → List Int → Prop} (O : LkOps Lk) (v : Value) (ss : List StepL) (p b : Int) (w : World) (hS : Scr w v ss) (hp : I64 p) (hb : I64 b) : Calls Try.prog 5 #[v, .int .i64 p, .int .i64 b] w fun e w' => e = .returned (.bool true) ∧ Kept [] w w' := by
  have hPl := fun (W : World) (kW : Kept [] w W) => played_any O v ss W (hS.kept kW)
  have HPB := @hideH _ (And.intro hp hb)
  obtain ⟨ps, cs, hv, -⟩ := hS.shape
  subst hv
  clear hS hp hb
  obtain ⟨hs, hhs⟩ : ∃ hs, hs = playedL ss ss.length := ⟨_, rfl⟩
  rw [← hhs] at hPl
  clear hhs
  obtain ⟨nS, hnS⟩ : ∃ n, n = ss.length := ⟨_, rfl⟩
  rw [← hnS] at hPl ⊢
  clear hnS
  go_enter Try.func5, Try.ntmps5
  have hP1 := hPl w (Kept.refl [] w)
  go_wp2_with fail
  refine hP1.mono ?_
  clear hP1
  rintro e w1 ⟨g1, F1, rfl, l1, hF1, k1⟩
  have hP2 := hPl w1 k1
  clear hPl
  go_wp2_with fail
  refine hP2.mono ?_
  clear hP2
  rintro e w2 ⟨g2, F2, rfl, l2, hF2, k2⟩
  have HOK := @hideH _ (O.ok l1)
  obtain ⟨x0, x1, x2, x3, x4, x5, x6, x7, x8, x9, x10, x11, x12, x13, x14, x15, e16⟩ := len16 HOK.out.len
  have HX := @hideH _ e16
  clear e16
  have hlt1 := O.lt l1
  have hlt2 := O.lt l2
  have sz1 := k1.size
  have sz2 := k2.size
  have HF := @hideH _ (And.intro hF1 (And.intro hF2 (And.intro hlt1 (And.intro hlt2 (And.intro sz1 sz2)))))
  have a1 := O.kept l1 k2 (by simp)
  have K2 := k1.then k2
  clear l1 k1 k2 hF1 hF2 hlt1 hlt2 sz1 sz2
  go_wp2_with fail
  refine (known_any O w2).mono ?_
  rintro e w3 ⟨rfl, k3⟩
  have a3 := O.kept a1 k3 (by simp)
  have b3 := O.kept l2 k3 (by simp)
  have K3 := K2.then k3
  have sz3 := k3.size
  clear a1 l2 K2 k3
  go_wp2_with fail
  refine (holders_any O g1 F1 hs w3 a3).mono ?_
  rintro e w4 ⟨rfl, k4⟩
  have sz4 := k4.size
  rw [show (i64s hs).toArray = #[.int .i64 x0, .int .i64 x1, .int .i64 x2, .int .i64 x3, .int .i64 x4, .int .i64 x5, .int .i64 x6, .int .i64 x7, .int .i64 x8, .int .i64 x9, .int .i64 x10, .int .i64 x11, .int .i64 x12, .int .i64 x13, .int .i64 x14, .int .i64 x15] from by rw [HX.out]; rfl]
  obtain ⟨w5, hw5⟩ : ∃ wx, wx = w4.alloc (.cells #[.int .i64 x0, .int .i64 x1, .int .i64 x2, .int .i64 x3, .int .i64 x4, .int .i64 x5, .int .i64 x6, .int .i64 x7, .int .i64 x8, .int .i64 x9, .int .i64 x10, .int .i64 x11, .int .i64 x12, .int .i64 x13, .int .i64 x14, .int .i64 x15] 31) := ⟨_, rfl⟩
  have kw5 : Kept [] w4 w5 := by rw [hw5]; exact (Kept.refl [] w4).alloc _
  have Ba : Blk w5 w4.heap.size 31 (i64s hs) := by rw [HX.out, hw5]; exact Blk.new w4 _ _
  go_upto_region 6 with fail
  rw [← hw5]
  clear hw5
  have HW4 := @hideH _ (show w2.heap.size ≤ w4.heap.size ∧ w4.heap.size < w5.heap.size from ⟨by omega, Ba.lt⟩)
  have a5 := O.kept a3 (k4.then kw5) (by simp)
  have b5 := O.kept b3 (k4.then kw5) (by simp)
  have K5 := K3.then (k4.then kw5)
  clear a3 b3 K3 k4 kw5 sz3 sz4
  go_wp2_with fail
  refine (O.give p w5 a5 HPB.out.1).mono ?_
  rintro e w6 ⟨rfl, a6, k6⟩
  have n4 : w4.heap.size ∉ F1 := fun hm => by have e1 := HF.out.2.2.1 _ hm; have e2 := HW4.out; have e3 := HF.out.2.2.2.2.2; omega
  have Ba6 := Ba.kept k6 n4
  have d12 : ∀ x ∈ F2, x ∉ F1 := fun x hx hm => by have e1 := HF.out.2.2.1 _ hm; have e2 := HF.out.2.1 _ hx; omega
  have HD := @hideH _ (And.intro d12 n4)
  have b6 := O.kept b5 k6 d12
  have K6 := K5.trans k6 (fun x hx => .inr (HF.out.1 x hx))
  have sz6 := k6.size
  obtain ⟨hg, hhg⟩ : ∃ h, h = giveH hs p := ⟨_, rfl⟩
  rw [← hhg] at a6
  have HG := @hideH _ hhg
  obtain ⟨B, hB⟩ : ∃ B, B = giveB hs p := ⟨_, rfl⟩
  rw [← hB]
  have HB := @hideH _ hB
  clear hhg hB k6 K5 a5 b5 Ba n4 d12
  obtain ⟨y0, y1, y2, y3, y4, y5, y6, y7, y8, y9, y10, y11, y12, y13, y14, y15, e16⟩ := len16 (O.ok a6).len
  have HY := @hideH _ e16
  clear e16
  go_wp2_with fail
  refine (holders_any O g1 F1 hg w6 a6).mono ?_
  rintro e w7 ⟨rfl, k7⟩
  have sz7 := k7.size
  rw [show (i64s hg).toArray = #[.int .i64 y0, .int .i64 y1, .int .i64 y2, .int .i64 y3, .int .i64 y4, .int .i64 y5, .int .i64 y6, .int .i64 y7, .int .i64 y8, .int .i64 y9, .int .i64 y10, .int .i64 y11, .int .i64 y12, .int .i64 y13, .int .i64 y14, .int .i64 y15] from by rw [HY.out]; rfl]
  obtain ⟨w8, hw8⟩ : ∃ wx, wx = w7.alloc (.cells #[.int .i64 y0, .int .i64 y1, .int .i64 y2, .int .i64 y3, .int .i64 y4, .int .i64 y5, .int .i64 y6, .int .i64 y7, .int .i64 y8, .int .i64 y9, .int .i64 y10, .int .i64 y11, .int .i64 y12, .int .i64 y13, .int .i64 y14, .int .i64 y15] 31) := ⟨_, rfl⟩
  have kw8 : Kept [] w7 w8 := by rw [hw8]; exact (Kept.refl [] w7).alloc _
  have Bn : Blk w8 w7.heap.size 31 (i64s hg) := by rw [HY.out, hw8]; exact Blk.new w7 _ _
  go_upto_region 8 with fail
  rw [← hw8]
  clear hw8
  have b8 := O.kept b6 (k7.then kw8) (by simp)
  have K8 := K6.then (k7.then kw8)
  have Ba8 := Ba6.kept (k7.then kw8) (by simp)
  obtain ⟨gW, hgW⟩ : ∃ g, g = w4.heap.size := ⟨_, rfl⟩
  obtain ⟨gN, hgN⟩ : ∃ g, g = w7.heap.size := ⟨_, rfl⟩
  have HLT := @hideH _ (show w2.heap.size ≤ gW ∧ gW < gN ∧ gN < w8.heap.size from ⟨by have := HW4.out; omega, by have := HW4.out; omega, by rw [hgN]; exact Bn.lt⟩)
  rw [← hgW, ← hgN]
  rw [← hgW] at Ba8
  rw [← hgN] at Bn
  have H8 := @hideH _ (And.intro Ba8 (And.intro Bn (And.intro b8 K8)))
  clear hgW hgN Ba8 Bn b8 K8 a6 b6 k7 kw8 K6 Ba6 sz6 sz7
  go_wp2
  go_loopw [12] (fun vi wr => ∃ t : Nat, t ≤ 16 ∧ vi = .int .i64 t ∧ wr = w8) (fun vi _ => 16 - (intOf vi).toNat)
  case atStart => exact ⟨0, Nat.zero_le _, rfl, rfl⟩
  case round =>
    obtain ⟨t, ht, rfl, rfl⟩ := hrel
    by_cases ht6 : t < 16
    case pos =>
      have ht6' : (t : Int) < (16 : Int) := by omega
      have ht0 : (0 : Int) ≤ (t : Int) := by omega
      have wt : IntKind.i64.wrap ((t : Int) + 1) = (t : Int) + 1 := wrap_i64_of (by omega) (by omega)
      have ca := H8.out.1.cell (i64s_at (l := hs) (j := t) (by rw [HOK.out.len]; exact ht6))
      have cn := H8.out.2.1.cell (i64s_at (l := hg) (j := t) (by rw [HY.out]; exact ht6))
      have hgt : hg.getD t 0 = if (t : Int) = p then 0 else hs.getD t 0 := by rw [HG.out]; exact give_get HOK.out.len p ht6
      obtain ⟨x, hx⟩ : ∃ x, x = hs.getD t 0 := ⟨_, rfl⟩
      rw [← hx] at ca hgt
      obtain ⟨y, hy⟩ : ∃ y, y = hg.getD t 0 := ⟨_, rfl⟩
      rw [← hy] at cn hgt
      have HXY := @hideH _ (And.intro hx (And.intro hgt ht6))
      clear hx hy hgt ht ht6
      by_cases c1 : (0 : Int) ≤ p
      case neg =>
        have ep : ((t : Int) == p) = false := by simp; omega
        have ey : y = x := by rw [HXY.out.2.1, if_neg (by omega)]
        have eB : B = false := by rw [HB.out]; exact give_out (fun q => c1 q.1)
        subst ey
        subst eB
        go_wp2
        go_roundw
        case rel => exact ⟨t + 1, by have := HXY.out.2.2; omega, by go_num, by first | rfl | trivial⟩
        case measure => have := HXY.out.2.2; simp [intOf]; omega
      case pos =>
        by_cases c2 : p < (16 : Int)
        case neg =>
          have ep : ((t : Int) == p) = false := by simp; omega
          have ey : y = x := by rw [HXY.out.2.1, if_neg (by have := HXY.out.2.2; omega)]
          have eB : B = false := by rw [HB.out]; exact give_out (fun q => c2 q.2)
          subst ey
          subst eB
          go_wp2
          go_roundw
          case rel => exact ⟨t + 1, by have := HXY.out.2.2; omega, by go_num, by first | rfl | trivial⟩
          case measure => have := HXY.out.2.2; simp [intOf]; omega
        case pos =>
          obtain ⟨k, hk, epk⟩ := isP_nat ⟨c1, c2⟩
          have ck := H8.out.1.cell (i64s_at (l := hs) (j := k) (by rw [HOK.out.len]; exact hk))
          have eB : B = (hs.getD k 0 != 0) := by rw [HB.out, epk]; exact give_in hk
          obtain ⟨z, hz⟩ : ∃ z, z = hs.getD k 0 := ⟨_, rfl⟩
          rw [← hz] at ck eB
          have HZ := @hideH _ (And.intro hz (And.intro epk eB))
          clear eB hz
          subst epk
          have k15 : ¬ (15 : Int) < (k : Int) := by omega
          have k15' : (k : Int) ≤ (15 : Int) := by omega
          by_cases hk0 : k = 0
          · skip
            have ck0 : wr.cell? ⟨gW, 0, none⟩ = some (.int .i64 z) := by rw [hk0] at ck; exact ck
            have hkp : ¬ (0 : Int) < (k : Int) := by omega
            have hkq : ¬ (k : Int) < (0 : Int) := by omega
            have hkr : (k : Int) ≤ (0 : Int) := by omega
            clear hk0
            by_cases ep : t = k
            · skip
              have ey : y = 0 := by rw [HXY.out.2.1, if_pos (by omega)]
              have ep' : ((t : Int) == (k : Int)) = true := by simp; omega
              clear ep
              subst ey
              by_cases hz0 : z = 0
              · skip
                have eB : B = false := by rw [HZ.out.2.2, hz0]; rfl
                subst eB
                subst hz0
                go_wp2
                go_roundw
                case rel => exact ⟨t + 1, by have := HXY.out.2.2; omega, by go_num, by first | rfl | trivial⟩
                case measure => have := HXY.out.2.2; simp [intOf]; omega
              · skip
                have hz1 : (z != 0) = true := by simpa using hz0
                have eB : B = true := by rw [HZ.out.2.2, hz1]
                subst eB
                clear hz0
                go_wp2
                go_roundw
                case rel => exact ⟨t + 1, by have := HXY.out.2.2; omega, by go_num, by first | rfl | trivial⟩
                case measure => have := HXY.out.2.2; simp [intOf]; omega
            · skip
              have ey : y = x := by rw [HXY.out.2.1, if_neg (by omega)]
              have ep' : ((t : Int) == (k : Int)) = false := by simp; omega
              clear ep
              subst ey
              by_cases hz0 : z = 0
              · skip
                have eB : B = false := by rw [HZ.out.2.2, hz0]; rfl
                subst eB
                subst hz0
                go_wp2
                go_roundw
                case rel => exact ⟨t + 1, by have := HXY.out.2.2; omega, by go_num, by first | rfl | trivial⟩
                case measure => have := HXY.out.2.2; simp [intOf]; omega
              · skip
                have hz1 : (z != 0) = true := by simpa using hz0
                have eB : B = true := by rw [HZ.out.2.2, hz1]
                subst eB
                clear hz0
                go_wp2
                go_roundw
                case rel => exact ⟨t + 1, by have := HXY.out.2.2; omega, by go_num, by first | rfl | trivial⟩
                case measure => have := HXY.out.2.2; simp [intOf]; omega
          · skip
            have hkp : (0 : Int) < (k : Int) := by omega
            have hkq : ¬ (k : Int) < (0 : Int) := by omega
            by_cases ep : t = k
            · skip
              have ey : y = 0 := by rw [HXY.out.2.1, if_pos (by omega)]
              have ep' : ((t : Int) == (k : Int)) = true := by simp; omega
              clear ep
              subst ey
              by_cases hz0 : z = 0
              · skip
                have eB : B = false := by rw [HZ.out.2.2, hz0]; rfl
                subst eB
                subst hz0
                go_wp2
                go_roundw
                case rel => exact ⟨t + 1, by have := HXY.out.2.2; omega, by go_num, by first | rfl | trivial⟩
                case measure => have := HXY.out.2.2; simp [intOf]; omega
              · skip
                have hz1 : (z != 0) = true := by simpa using hz0
                have eB : B = true := by rw [HZ.out.2.2, hz1]
                subst eB
                clear hz0
                go_wp2
                go_roundw
                case rel => exact ⟨t + 1, by have := HXY.out.2.2; omega, by go_num, by first | rfl | trivial⟩
                case measure => have := HXY.out.2.2; simp [intOf]; omega
            · skip
              have ey : y = x := by rw [HXY.out.2.1, if_neg (by omega)]
              have ep' : ((t : Int) == (k : Int)) = false := by simp; omega
              clear ep
              subst ey
              by_cases hz0 : z = 0
              · skip
                have eB : B = false := by rw [HZ.out.2.2, hz0]; rfl
                subst eB
                subst hz0
                go_wp2
                go_roundw
                case rel => exact ⟨t + 1, by have := HXY.out.2.2; omega, by go_num, by first | rfl | trivial⟩
                case measure => have := HXY.out.2.2; simp [intOf]; omega
              · skip
                have hz1 : (z != 0) = true := by simpa using hz0
                have eB : B = true := by rw [HZ.out.2.2, hz1]
                subst eB
                clear hz0
                go_wp2
                go_roundw
                case rel => exact ⟨t + 1, by have := HXY.out.2.2; omega, by go_num, by first | rfl | trivial⟩
                case measure => have := HXY.out.2.2; simp [intOf]; omega
    case neg =>
      have ht6' : ¬ (t : Int) < (16 : Int) := by omega
      clear ht ht6
      obtain ⟨hd, hhd⟩ : ∃ h, h = dropH hs b := ⟨_, rfl⟩
      have HDR := @hideH _ hhd
      obtain ⟨hl, hhl⟩ : ∃ h, h = heldL hs b := ⟨_, rfl⟩
      have HHL := @hideH _ hhl
      have hH := O.held b wr H8.out.2.2.1 HPB.out.2
      rw [← hhl] at hH
      go_wp2_with fail
      refine hH.mono ?_
      clear hH
      rintro e w9 ⟨v9, rfl, n9, k9⟩
      obtain ⟨p9, c9, e9⟩ := n9.shape
      subst e9
      have b9 := O.kept H8.out.2.2.1 k9 (by simp)
      have hD := O.drop b w9 b9 HPB.out.2
      rw [← hhl, ← hhd] at hD
      clear hhl hhd
      obtain ⟨nh, hnh⟩ : ∃ x, x = hl.length := ⟨_, rfl⟩
      have HNH := hideH hnh
      rw [← hnh] at n9 ⊢
      clear hnh
      go_wp2_with fail
      refine hD.mono ?_
      clear hD
      rintro e w10 ⟨v10, rfl, n10, b10, k10⟩
      obtain ⟨p10, c10, e10⟩ := n10.shape
      subst e10
      rw [← HNH.out] at n10 ⊢
      have nF9 : ∀ x, (Value.slice p9 nh c9).ownBlock = some x → x ∉ F2 := fun x hx hm => by have e1 := HF.out.2.2.2.1 x hm; have e2 := (n9.lt hx).1; have e3 := HLT.out; omega
      have n9' := n9.kept k10 nF9
      have gW2 : gW ∉ F2 := fun hm => by have e1 := HF.out.2.2.2.1 _ hm; have e2 := HLT.out; omega
      have gN2 : gN ∉ F2 := fun hm => by have e1 := HF.out.2.2.2.1 _ hm; have e2 := HLT.out; omega
      have Ba10 := (H8.out.1.kept k9 (by simp)).kept k10 gW2
      have Bn10 := (H8.out.2.1.kept k9 (by simp)).kept k10 gN2
      have K10 := (H8.out.2.2.2.then k9).trans k10 (fun x hx => .inr (by have e1 := HF.out.2.1 x hx; have e2 := HF.out.2.2.2.2.1; omega))
      have HS2 := @hideH _ (And.intro gW2 gN2)
      have sz9 := k9.size
      have HSZ9 := @hideH _ (show gN < w9.heap.size by have := HLT.out; omega)
      clear sz9
      clear k9 k10 b9 n9 nF9 gW2 gN2 H8
      obtain ⟨z0, z1, z2, z3, z4, z5, z6, z7, z8, z9, z10, z11, z12, z13, z14, z15, e16⟩ := len16 (O.ok b10).len
      have HZ := @hideH _ e16
      clear e16
      go_wp2_with fail
      refine (holders_any O g2 F2 hd w10 b10).mono ?_
      rintro e w11 ⟨rfl, k11⟩
      rw [show (i64s hd).toArray = #[.int .i64 z0, .int .i64 z1, .int .i64 z2, .int .i64 z3, .int .i64 z4, .int .i64 z5, .int .i64 z6, .int .i64 z7, .int .i64 z8, .int .i64 z9, .int .i64 z10, .int .i64 z11, .int .i64 z12, .int .i64 z13, .int .i64 z14, .int .i64 z15] from by rw [HZ.out]; rfl]
      have Bn11 := Bn10.kept k11 (by simp)
      rw [HY.out] at Bn11
      have q0 := Bn11.cell (j := 0) rfl
      have q1 := Bn11.cell (j := 1) rfl
      have q2 := Bn11.cell (j := 2) rfl
      have q3 := Bn11.cell (j := 3) rfl
      have q4 := Bn11.cell (j := 4) rfl
      have q5 := Bn11.cell (j := 5) rfl
      have q6 := Bn11.cell (j := 6) rfl
      have q7 := Bn11.cell (j := 7) rfl
      have q8 := Bn11.cell (j := 8) rfl
      have q9 := Bn11.cell (j := 9) rfl
      have q10 := Bn11.cell (j := 10) rfl
      have q11 := Bn11.cell (j := 11) rfl
      have q12 := Bn11.cell (j := 12) rfl
      have q13 := Bn11.cell (j := 13) rfl
      have q14 := Bn11.cell (j := 14) rfl
      have q15 := Bn11.cell (j := 15) rfl
      have f0 := Bn11.free 0
      have f1 := Bn11.free 1
      have f2 := Bn11.free 2
      have f3 := Bn11.free 3
      have f4 := Bn11.free 4
      have f5 := Bn11.free 5
      have f6 := Bn11.free 6
      have f7 := Bn11.free 7
      have f8 := Bn11.free 8
      have f9 := Bn11.free 9
      have f10 := Bn11.free 10
      have f11 := Bn11.free 11
      have f12 := Bn11.free 12
      have f13 := Bn11.free 13
      have f14 := Bn11.free 14
      have f15 := Bn11.free 15
      obtain ⟨BF, kF⟩ := Blk.fill16 Bn11 (.int .i64 z0) (.int .i64 z1) (.int .i64 z2) (.int .i64 z3) (.int .i64 z4) (.int .i64 z5) (.int .i64 z6) (.int .i64 z7) (.int .i64 z8) (.int .i64 z9) (.int .i64 z10) (.int .i64 z11) (.int .i64 z12) (.int .i64 z13) (.int .i64 z14) (.int .i64 z15)
      obtain ⟨w12, hw12⟩ : ∃ wx, wx = ((((((((((((((((w11.setCell ⟨gN, 0, none⟩ (.int .i64 z0)).setCell ⟨gN, 1, none⟩ (.int .i64 z1)).setCell ⟨gN, 2, none⟩ (.int .i64 z2)).setCell ⟨gN, 3, none⟩ (.int .i64 z3)).setCell ⟨gN, 4, none⟩ (.int .i64 z4)).setCell ⟨gN, 5, none⟩ (.int .i64 z5)).setCell ⟨gN, 6, none⟩ (.int .i64 z6)).setCell ⟨gN, 7, none⟩ (.int .i64 z7)).setCell ⟨gN, 8, none⟩ (.int .i64 z8)).setCell ⟨gN, 9, none⟩ (.int .i64 z9)).setCell ⟨gN, 10, none⟩ (.int .i64 z10)).setCell ⟨gN, 11, none⟩ (.int .i64 z11)).setCell ⟨gN, 12, none⟩ (.int .i64 z12)).setCell ⟨gN, 13, none⟩ (.int .i64 z13)).setCell ⟨gN, 14, none⟩ (.int .i64 z14)).setCell ⟨gN, 15, none⟩ (.int .i64 z15)) := ⟨_, rfl⟩
      rw [← hw12] at BF kF
      have Bn12 : Blk w12 gN 31 (i64s hd) := by rw [HZ.out]; exact BF
      have Ba12 := (Ba10.kept k11 (by simp)).kept kF (by have := HLT.out; simp; omega)
      have b12 := O.kept (O.kept b10 k11 (by simp)) kF (fun x hx hm => by simp at hm; subst hm; exact HS2.out.2 hx)
      skip
      have n9q := (n9'.kept k11 (by simp)).kept kF (fun x hx hm => by simp at hm; have e1 := (n9'.lt hx).1; have e2 := HLT.out; omega)
      have n10q := (n10.kept k11 (by simp)).kept kF (fun x hx hm => by simp at hm; have e1 := (n10.lt hx).1; have e2 := HSZ9.out; omega)
      have K12 := (K10.then k11).trans kF (fun x hx => .inr (by simp at hx; have e2 := HLT.out; have e3 := HF.out.2.2.2.2; omega))
      have H12 := @hideH _ (And.intro Ba12 (And.intro Bn12 (And.intro b12 (And.intro n9q (And.intro n10q K12)))))
      clear Ba12 Bn12 b12 n9q n10q K12 BF kF Bn11 Bn10 Ba10 b10 n9' n10 K10 k11
      go_upto_region 19 with fail
      rw [← hw12]
      clear hw12 q0 f0 q1 f1 q2 f2 q3 f3 q4 f4 q5 f5 q6 f6 q7 f7 q8 f8 q9 f9 q10 f10 q11 f11 q12 f12 q13 f13 q14 f14 q15 f15
      go_wp2_with fail
      refine (same_eq _ _ hl _ _ w12 H12.out.2.2.2.1 H12.out.2.2.2.2.1).mono ?_
      rintro e w13 ⟨rfl, k13⟩
      have b13 := O.kept H12.out.2.2.1 k13 (by simp)
      have hH := O.held b w13 b13 HPB.out.2
      rw [show heldL hd b = [] by rw [HDR.out]; exact held_drop HOK.out.len b] at hH
      go_wp2_with fail
      refine hH.mono ?_
      clear hH
      rintro e w14 ⟨v14, rfl, n14, k14⟩
      obtain ⟨p14, c14, e14⟩ := n14.shape
      subst e14
      clear n14
      have b14 := O.kept b13 k14 (by simp)
      have hD := O.drop b w14 b14 HPB.out.2
      rw [show heldL hd b = [] by rw [HDR.out]; exact held_drop HOK.out.len b, show dropH hd b = hd by rw [HDR.out]; exact drop_drop hs b] at hD
      go_wp2_with fail
      refine hD.mono ?_
      clear hD
      rintro e w15 ⟨v15, rfl, n15, b15, k15⟩
      obtain ⟨p15, c15, e15⟩ := n15.shape
      subst e15
      clear n15
      have kk := k13.then k14
      have n10f : ∀ x, (Value.slice p10 nh c10).ownBlock = some x → x ∉ F2 := fun x hx hm => by have e1 := HF.out.2.2.2.1 x hm; have e2 := (H12.out.2.2.2.2.1.lt hx).1; have e3 := HLT.out; have e4 := HSZ9.out; omega
      have H15 := @hideH _ (And.intro ((H12.out.1.kept kk (by simp)).kept k15 HS2.out.1) (And.intro ((H12.out.2.1.kept kk (by simp)).kept k15 HS2.out.2) (And.intro b15 (And.intro ((H12.out.2.2.2.2.1.kept kk (by simp)).kept k15 n10f) ((H12.out.2.2.2.2.2.then kk).trans k15 (fun x hx => .inr (by have e1 := HF.out.2.1 x hx; have e2 := HF.out.2.2.2.2.1; omega)))))))
      clear b13 b14 b15 k13 k14 k15 kk n10f H12
      skip
      go_wp2
      go_loopw [16, 17] (fun vk vi wr => ∃ (t c : Nat), t ≤ 16 ∧ vk = .int .i64 c ∧ vi = .int .i64 t ∧ Hid (c = (heldN hs b t).length ∧ Blk wr gW 31 (i64s hs) ∧ Blk wr gN 31 (i64s hd) ∧ Lk wr g2 F2 (goesH hs b t) ∧ Ns wr w9.heap.size (.slice p10 nh c10) hl ∧ Kept [] w wr)) (fun _ vi _ => 16 - (intOf vi).toNat)
      case atStart => exact ⟨0, 0, Nat.zero_le _, rfl, rfl, rfl, H15.out.1, H15.out.2.1, by rw [goesH_zero HOK.out.len b, ← HDR.out]; exact H15.out.2.2.1, H15.out.2.2.2.1, H15.out.2.2.2.2⟩
      case round =>
        clear H15 ht6'
        obtain ⟨t, c, ht, rfl, rfl, hh⟩ := hrel
        obtain ⟨ec, hBa, hBn, hLk, hNs, hK⟩ := hh.out
        clear hh
        have HC := @hideH _ (show c ≤ 16 by rw [ec]; exact Nat.le_trans (heldN_length hs b t) ht)
        by_cases ht6 : t < 16
        case pos =>
          have ht6' : (t : Int) < (16 : Int) := by omega
          have ht0 : (0 : Int) ≤ (t : Int) := by omega
          have wt : IntKind.i64.wrap ((t : Int) + 1) = (t : Int) + 1 := wrap_i64_of (by omega) (by omega)
          have wc : IntKind.i64.wrap ((c : Int) + 1) = (c : Int) + 1 := wrap_i64_of (by omega) (by have := HC.out; omega)
          have ca := hBa.cell (i64s_at (l := hs) (j := t) (by rw [HOK.out.len]; exact ht6))
          have cn := hBn.cell (i64s_at (l := hd) (j := t) (by rw [HZ.out]; exact ht6))
          have hdt : hd.getD t 0 = if mine hs b t then 0 else hs.getD t 0 := by rw [HDR.out]; exact drop_get HOK.out.len b ht6
          obtain ⟨x, hx⟩ : ∃ x, x = hs.getD t 0 := ⟨_, rfl⟩
          rw [← hx] at ca hdt
          obtain ⟨y, hy⟩ : ∃ y, y = hd.getD t 0 := ⟨_, rfl⟩
          rw [← hy] at cn hdt
          have HX2 := @hideH _ (And.intro hx (And.intro hdt (And.intro ht6 (And.intro ec (And.intro hBa (And.intro hBn (And.intro hLk (And.intro hNs hK))))))))
          clear hx hy hdt ec hBa hBn hLk hNs hK ht ht6
          by_cases hm : mine hs b t
          case neg =>
            have HM := hideH hm
            clear hm
            by_cases hxb : x = b
            · have hb0 : b = 0 := by
                have e := HM.out
                unfold mine at e
                rw [← HX2.out.1] at e
                exact Decidable.not_not.1 (fun h => e ⟨hxb, h⟩)
              have hxb' : (x == b) = true := by simpa using hxb
              have hb0' : (b != 0) = false := by simp [hb0]
              clear hxb hb0
              have ey : y = x := by rw [HX2.out.2.1, if_neg HM.out]
              subst ey
              have HN := @hideH _ (And.intro (show c = (heldN hs b (t + 1)).length by rw [heldN_not HM.out]; exact HX2.out.2.2.2.1) (show Lk wr g2 F2 (goesH hs b (t + 1)) by rw [goesH_not HM.out]; exact HX2.out.2.2.2.2.2.2.1))
              go_wp2
              go_roundw
              case rel => exact ⟨t + 1, c, by have := HX2.out.2.2.1; omega, rfl, by go_num, HN.out.1, HX2.out.2.2.2.2.1, HX2.out.2.2.2.2.2.1, HN.out.2, HX2.out.2.2.2.2.2.2.2.1, HX2.out.2.2.2.2.2.2.2.2⟩
              case measure => have := HX2.out.2.2.1; simp [intOf]; omega
            · have hxb' : (x == b) = false := by simpa using hxb
              clear hxb
              have ey : y = x := by rw [HX2.out.2.1, if_neg HM.out]
              subst ey
              have HN := @hideH _ (And.intro (show c = (heldN hs b (t + 1)).length by rw [heldN_not HM.out]; exact HX2.out.2.2.2.1) (show Lk wr g2 F2 (goesH hs b (t + 1)) by rw [goesH_not HM.out]; exact HX2.out.2.2.2.2.2.2.1))
              go_wp2
              go_roundw
              case rel => exact ⟨t + 1, c, by have := HX2.out.2.2.1; omega, rfl, by go_num, HN.out.1, HX2.out.2.2.2.2.1, HX2.out.2.2.2.2.2.1, HN.out.2, HX2.out.2.2.2.2.2.2.2.1, HX2.out.2.2.2.2.2.2.2.2⟩
              case measure => have := HX2.out.2.2.1; simp [intOf]; omega
          case pos =>
            have HM := hideH hm
            have hxb' : (x == b) = true := by have e := hm.1; rw [← HX2.out.1] at e; simpa using e
            have hb0' : (b != 0) = true := by simpa using hm.2
            have ey : y = 0 := by rw [HX2.out.2.1, if_pos hm]
            clear hm
            subst ey
            obtain ⟨hl1, hl2⟩ := held_at HX2.out.2.2.1 HM.out
            rw [← HX2.out.2.2.2.1, ← HHL.out] at hl1 hl2
            have hcn : ¬ (nh : Int) ≤ (c : Int) := by have := HNH.out; omega
            have hcn2 : (c : Int) < (nh : Int) := by have := HNH.out; omega
            have hc0 : (0 : Int) ≤ (c : Int) := by omega
            obtain ⟨gd, epd, -, cd, -⟩ := HX2.out.2.2.2.2.2.2.2.1.at (j := c) hl1
            subst epd
            rw [hl2] at cd
            have HL1 := @hideH _ hl1
            clear hl1 hl2
            obtain ⟨tk1, tk2⟩ := goesH_take HX2.out.2.2.1 HM.out
            have hT := O.take (t : Int) 99 wr HX2.out.2.2.2.2.2.2.1 (i64_small (by omega) (by omega)) (i64_small (by omega) (by omega))
            rw [tk1, tk2] at hT
            clear tk1 tk2
            go_wp2_with fail
            refine hT.mono ?_
            clear hT
            rintro e w17 ⟨rfl, l17, k17⟩
            have hHo := O.holder (t : Int) w17 l17 (i64_small (by omega) (by omega))
            rw [whoL_nat _ HX2.out.2.2.1, goesH_get hs b (t + 1) HX2.out.2.2.1, if_pos HM.out, if_pos (Nat.lt_succ_self t)] at hHo
            go_wp2_with fail
            refine hHo.mono ?_
            clear hHo
            rintro e w18 ⟨rfl, k18⟩
            have nsF : ∀ x, (Value.slice (some ⟨gd, 0, none⟩) nh c10).ownBlock = some x → x ∉ F2 := fun x hx hm => by have e1 := HF.out.2.2.2.1 x hm; have e2 := (HX2.out.2.2.2.2.2.2.2.1.lt hx).1; have e3 := HLT.out; have e4 := HSZ9.out; omega
            have HN := @hideH _ (And.intro (show c + 1 = (heldN hs b (t + 1)).length by rw [heldN_mine HM.out, List.length_append, ← HX2.out.2.2.2.1]; rfl) (And.intro ((HX2.out.2.2.2.2.1.kept k17 HS2.out.1).kept k18 (by simp)) (And.intro ((HX2.out.2.2.2.2.2.1.kept k17 HS2.out.2).kept k18 (by simp)) (And.intro (O.kept l17 k18 (by simp)) (And.intro ((HX2.out.2.2.2.2.2.2.2.1.kept k17 nsF).kept k18 (by simp)) ((HX2.out.2.2.2.2.2.2.2.2.trans k17 (fun x hx => .inr (by have e1 := HF.out.2.1 x hx; have e2 := HF.out.2.2.2.2.1; omega))).then k18))))))
            clear l17 k17 k18 nsF cd ca cn
            go_wp2
            go_roundw
            case rel => exact ⟨t + 1, c + 1, by have := HX2.out.2.2.1; omega, by go_num, by go_num, HN⟩
            case measure => have := HX2.out.2.2.1; simp [intOf]; omega
        case neg =>
          have et : t = 16 := by omega
          have ht6' : ¬ (t : Int) < (16 : Int) := by omega
          have ecn : c = nh := by rw [ec, HNH.out, HHL.out, et]; rfl
          have hcc : ((c : Int) == (nh : Int)) = true := by simp [ecn]
          have HE := @hideH _ hK
          clear et ecn ec hBa hBn hLk hNs hK ht ht6
          go_wp2
          go_ret
          exact ⟨by first | rfl | simp, HE.out⟩
end Go.Proofs.Ytijmmacpmcbmkaa

