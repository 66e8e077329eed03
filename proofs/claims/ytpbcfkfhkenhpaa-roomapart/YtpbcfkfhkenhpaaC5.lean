import Derived.Test.YtpbcfkfhkenhpaaC4
/-
  OWN WORK (by mkrm8.py). The law: RoomApart.
-/
namespace Go.Proofs.Ytpbcfkfhkenhpaa
open Go.RowKit
set_option linter.unusedVariables false
set_option linter.unusedSimpArgs false

/-- both Rooms, and another one -/
structure B1 (Rm : World → Nat → List Nat → Int → List Tx → Prop) (w wr : World) (gP gR gS : Nat) (a : Int) (k j : Nat) (F G H : List Nat) (T U : List Tx) : Prop where
  a1 : A1 Rm w wr gP gR a k F G T
  s : Rm wr gS H a U
  hl : ∀ x ∈ H, w.heap.size ≤ x
  dF : ∀ x ∈ H, x ∉ F ++ G
  su : szT U ≤ j
theorem B1.then {Rm : World → Nat → List Nat → Int → List Tx → Prop} (O : RmOps Rm) {w wr w' : World} {gP gR gS : Nat} {a : Int} {k j : Nat} {F G H : List Nat} {T U : List Tx} (h : B1 Rm w wr gP gR gS a k j F G H T U) (kk : Kept [] wr w') : B1 Rm w w' gP gR gS a k j F G H T U :=
  ⟨h.a1.then O kk, O.kept h.s kk (by simp), h.hl, h.dF, h.su⟩
theorem A1.lt {Rm : World → Nat → List Nat → Int → List Tx → Prop} (O : RmOps Rm) {w wr : World} {gP gR : Nat} {a : Int} {k : Nat} {F G : List Nat} {T : List Tx} (h : A1 Rm w wr gP gR a k F G T) : ∀ x ∈ F ++ G, x < wr.heap.size := fun x hx => by
  rcases List.mem_append.1 hx with q | q
  · exact O.lt h.l x q
  · exact h.r.lt x q
theorem B1.other {Rm : World → Nat → List Nat → Int → List Tx → Prop} (O : RmOps Rm) {w wr w' : World} {gP gR gS : Nat} {a : Int} {k j : Nat} {F G H : List Nat} {T U : List Tx} {H' : List Nat} {U' : List Tx} (h : B1 Rm w wr gP gR gS a k j F G H T U) (s : Rm w' gS H' a U') (fr : Fr wr H H') (kk : Kept H wr w') (hs : szT U' ≤ szT U + 1) : B1 Rm w w' gP gR gS a k (j + 1) F G H' T U' := by
  have hd : ∀ x ∈ H', x ∉ F ++ G := dis_left h.dF fr (h.a1.lt O)
  refine ⟨⟨O.kept h.a1.l kk (fun x hx hm => h.dF x hm (List.mem_append_left _ hx)), h.a1.r.kept kk (fun x hx hm => h.dF x hm (List.mem_append_right _ hx)), h.a1.ds, h.a1.kp.trans kk (fun x hx => .inr (h.hl x hx)), h.a1.lo, h.a1.sz⟩, s, fun x hx => ?_, hd, by have := h.su; omega⟩
  rcases fr x hx with q | q
  · exact h.hl x q
  · have := h.a1.kp.size; omega
theorem B1.both {Rm : World → Nat → List Nat → Int → List Tx → Prop} (O : RmOps Rm) {w wr w' : World} {gP gR gS : Nat} {a : Int} {k j : Nat} {F G H : List Nat} {T U : List Tx} {F' G' : List Nat} {T' : List Tx} (h : B1 Rm w wr gP gR gS a k j F G H T U) (l : Rm w' gP F' a T') (r : Rr w' gR G' a T') (ds : ∀ x ∈ F', x ∉ G') (f1 : Fr wr F F') (f2 : Fr wr G G') (kk : Kept (F ++ G) wr w') (hs : szT T' ≤ szT T + 1) : B1 Rm w w' gP gR gS a (k + 1) j F' G' H T' U := by
  have fr : Fr wr (F ++ G) (F' ++ G') := fun x hx => by
    rcases List.mem_append.1 hx with q | q
    · exact (f1 x q).imp (List.mem_append_left _) id
    · exact (f2 x q).imp (List.mem_append_right _) id
  exact ⟨h.a1.step l r ds f1 f2 kk hs, O.kept h.s kk h.dF, h.hl, dis_right h.dF fr (O.lt h.s), h.su⟩
theorem B1.more {Rm : World → Nat → List Nat → Int → List Tx → Prop} {w wr : World} {gP gR gS : Nat} {a : Int} {k j : Nat} {F G H : List Nat} {T U : List Tx} {k' j' : Nat} (h : B1 Rm w wr gP gR gS a k j F G H T U) (hk : k ≤ k') (hj : j ≤ j') : B1 Rm w wr gP gR gS a k' j' F G H T U :=
  ⟨⟨h.a1.l, h.a1.r, h.a1.ds, h.a1.kp, h.a1.lo, Nat.le_trans h.a1.sz hk⟩, h.s, h.hl, h.dF, Nat.le_trans h.su hj⟩
set_option maxRecDepth 20000 in
set_option maxHeartbeats 25600000 in
theorem roomApart_walk {Rm : World → Nat → List Nat → Int → List Tx → Prop} (O : RmOps Rm) (a : Int) (v v2 : Value) (ss ms : List OpR) (w : World) (ha : I64 a) (hS : Ops w v ss) (hM : Ops w v2 ms) (hL : ss.length ≤ 4398046511104) (hL2 : ms.length ≤ 4398046511104) : Calls Try.prog 8 #[.int .i64 a, v, v2] w fun e w' => e = .returned (.bool true) ∧ Kept [] w w' := by
  obtain ⟨ps, cs, hv, hml⟩ := hS.shape
  subst hv
  obtain ⟨pm, cm, hv, hmm⟩ := hM.shape
  subst hv
  obtain ⟨n, hn⟩ : ∃ n, n = ss.length := ⟨_, rfl⟩
  obtain ⟨m, hm⟩ : ∃ m, m = ms.length := ⟨_, rfl⟩
  have HS := @hideH _ hS
  have HM := @hideH _ hM
  have HN := @hideH _ (show (n = ss.length ∧ n ≤ 4398046511104) ∧ m = ms.length ∧ m ≤ 4398046511104 from ⟨⟨hn, by omega⟩, hm, by omega⟩)
  rw [← hn, ← hm]
  have HA := @hideH _ ha
  clear hS hml hn hL ha hM hmm hm hL2
  go_enter Try.func8, Try.ntmps8
  go_wp2_with fail
  refine (head_any O w).mono ?_
  rintro e w1 ⟨rfl, k1⟩
  go_wp2_with fail
  refine (O.new a w1 HA.out).mono ?_
  rintro e w2 ⟨gP, F, rfl, l2, hF, k2⟩
  go_wp2_with fail
  refine (O.new a w2 HA.out).mono ?_
  rintro e w3 ⟨gS, H, rfl, l3, hH, k3⟩
  obtain ⟨w4, hw4⟩ : ∃ wx, wx = w3.alloc (.cells #[.int .i64 a, .slice none 0 0] 49) := ⟨_, rfl⟩
  have k4 : Kept [] w3 w4 := by rw [hw4]; exact (Kept.refl [] w3).alloc _
  have r4 : Rr w4 w3.heap.size [w3.heap.size] a [] := by rw [hw4]; exact rr_new a
  have s1 := k1.size
  have s2 := k2.size
  have s3 := k3.size
  have A0 : A1 Rm w w4 gP w3.heap.size a 0 F [w3.heap.size] [] := ⟨O.kept l2 (k3.then k4) (by simp), r4, fun x hx hm => by have := O.lt l2 x hx; simp at hm; omega, ((k1.then k2).then k3).then k4, fun x hx => by
    rcases List.mem_append.1 hx with q | q
    · have := hF x q; omega
    · simp at q; omega, by simp [szT]⟩
  have B0 : B1 Rm w w4 gP w3.heap.size gS a 0 0 F [w3.heap.size] H [] [] := ⟨A0, O.kept l3 k4 (by simp), fun x hx => by have := hH x hx; omega, fun x hx hm => by
    rcases List.mem_append.1 hm with q | q
    · have e1 := O.lt l2 x q; have e2 := hH x hx; omega
    · have e1 := O.lt l3 x hx; simp at q; omega, by simp [szT]⟩
  obtain ⟨gR, hgR⟩ : ∃ g, g = w3.heap.size := ⟨_, rfl⟩
  have HB0 := @hideH _ B0
  clear A0 B0 k1 k2 k3 k4 l2 l3 hF hH r4 s1 s2 s3
  go_upto_region 7 with fail
  rw [← hw4]
  rw [← hgR] at HB0
  rw [← hgR]
  clear hw4 hgR
  go_wp2
  go_loopw [10, 11, 12] (fun vi vo vk wr => ∃ k : Nat, (k ≤ n ∨ k ≤ m) ∧ vi = .int .i64 k ∧ Hid (∃ F G H T U, B1 Rm w wr gP gR gS a k k F G H T U)) (fun vi _ _ _ => (n + m) - (intOf vi).toNat)
  case atStart => exact ⟨0, .inl (Nat.zero_le _), rfl, _, _, _, _, _, HB0.out⟩
  case round =>
    clear HB0
    obtain ⟨k, hk, rfl, hh⟩ := hrel
    obtain ⟨F, G, H, T, U, B⟩ := hh.out
    clear hh
    have HB := @hideH _ B
    clear B
    have hk0 : (0 : Int) ≤ (k : Int) := by omega
    have wk : IntKind.i64.wrap ((k : Int) + 1) = (k : Int) + 1 := wrap_i64_of (by omega) (by have e1 := HN.out.1.2; have e2 := HN.out.2.2; omega)
    have HSZ := @hideH _ (show k ≤ 4398046511104 by have e1 := HN.out.1.2; have e2 := HN.out.2.2; omega)
    by_cases hkm : k < m
    rotate_left
    · have hkm' : ¬ (k : Int) < (m : Int) := by omega
      by_cases hkn0 : k < n
      rotate_left
      · have hkn' : ¬ (k : Int) < (n : Int) := by omega
        go_wp2
        go_ret
        exact ⟨by first | rfl | simp, HB.out.a1.kp⟩
      have HX := @hideH _ HB.out
      clear HB
      have hkn' : (k : Int) < (n : Int) := by omega
      obtain ⟨s, hs⟩ : ∃ s, ss[k]? = some s := ⟨_, List.getElem?_eq_getElem (by have := HN.out.1.1; omega)⟩
      obtain ⟨sb, so, sc, es, ⟨c0, c1, c2, c3⟩, nn⟩ := HS.out.at hs
      cases es
      have d0 := HX.out.a1.kp.cell c0 (by simp)
      have d1 := HX.out.a1.kp.cell c1 (by simp)
      have d2 := HX.out.a1.kp.cell c2 (by simp)
      have d3 := HX.out.a1.kp.cell c3 (by simp)
      have HSZP := @hideH _ (sz_play (O.ok HX.out.a1.l) s)
      have HST := @hideH _ (step_any O s _ HX.out.a1.l HX.out.a1.r HX.out.a1.ds nn HA.out (by have e1 := HX.out.a1.sz; have e2 := HN.out.1.2; omega))
      clear c0 c1 c2 c3 nn hs
      go_wp2_with fail
      refine HST.out.mono ?_
      clear HST
      rintro e y0 ⟨rfl, F4, G4, l4, r4, ds4, f4, g4, k4⟩
      have B4 := HX.out.both O l4 r4 ds4 f4 g4 k4 HSZP.out
      clear l4 r4 ds4 f4 g4 k4 HX d0 d1 d2 d3 HSZP
      obtain ⟨T4, hT4⟩ : ∃ T4, T4 = playR T s := ⟨_, rfl⟩
      rw [← hT4] at B4
      clear hT4
      have HX := @hideH _ B4
      clear B4
      obtain ⟨F, hFx⟩ : ∃ F, F = F4 := ⟨_, rfl⟩
      obtain ⟨G, hGx⟩ : ∃ G, G = G4 := ⟨_, rfl⟩
      obtain ⟨T, hTx⟩ : ∃ T, T = T4 := ⟨_, rfl⟩
      rw [← hFx, ← hGx, ← hTx] at HX
      clear hFx hGx hTx
      obtain ⟨K, hK⟩ : ∃ K, K = keptT T := ⟨_, rfl⟩
      have HQ := @hideH _ (O.all _ HX.out.a1.l)
      have HRR := @hideH _ (fun w6 (h : Rr w6 gR G a T) => rKept w6 h)
      rw [← hK] at HQ HRR
      clear hK
      go_wp2_with fail
      refine HQ.out.mono ?_
      clear HQ
      rintro e y1 ⟨rfl, k6⟩
      have HY := @hideH _ (HX.out.then O k6)
      clear k6 HX
      go_wp2_with fail
      refine (HRR.out _ HY.out.a1.r).mono ?_
      clear HRR
      rintro e y2 ⟨rfl, k6⟩
      have HX := @hideH _ (HY.out.then O k6)
      clear k6 HY
      go_wp2
      go_roundw
      case rel => exact ⟨k + 1, by omega, by go_num, _, _, _, _, _, HX.out.more (by omega) (by omega)⟩
      case measure => simp [intOf]; omega
    have hkm' : (k : Int) < (m : Int) := by omega
    obtain ⟨o, ho⟩ : ∃ o, ms[k]? = some o := ⟨_, List.getElem?_eq_getElem (by have := HN.out.2.1; omega)⟩
    obtain ⟨ob, oo, oc, es, ⟨c0, c1, c2, c3⟩, nn⟩ := HM.out.at ho
    cases es
    have g0 := HB.out.a1.kp.cell c0 (by simp)
    have g1 := HB.out.a1.kp.cell c1 (by simp)
    have g2 := HB.out.a1.kp.cell c2 (by simp)
    have g3 := HB.out.a1.kp.cell c3 (by simp)
    have HNN := @hideH _ nn
    clear c0 c1 c2 c3 nn ho
    obtain ⟨z2, hz2⟩ : ∃ wx, wx = wr.alloc (.cells #[.int .i64 o.kind, .int .i64 o.birth, .int .i64 o.n, .int .i64 o.m] 35) := ⟨_, rfl⟩
    have kz : Kept [] wr z2 := by rw [hz2]; exact (Kept.refl [] wr).alloc _
    have Z : Blk z2 wr.heap.size 35 o.cs := by rw [hz2]; exact Blk.new wr _ _
    have d0 := Z.cell (j := 0) rfl
    have d1 := Z.cell (j := 1) rfl
    have d2 := Z.cell (j := 2) rfl
    have d3 := Z.cell (j := 3) rfl
    have HBZ := @hideH _ (HB.out.then O kz)
    clear kz Z HB
    by_cases hkn : k < n
    all_goals (first | (have hkn0' : (k : Int) < (n : Int) := by omega) | (have hkn0' : ¬ (k : Int) < (n : Int) := by omega))
    all_goals (go_upto_region 12 with fail)
    all_goals (rw [← hz2])
    all_goals (clear hz2 g0 g1 g2 g3)
    · clear hkn0'
      by_cases q0 : o.kind = 0
      · rw [q0] at d0
        clear q0
        have HQ := @hideH _ (O.beg o.birth z2 HBZ.out.s HNN.out.2.1 (by have e1 := HBZ.out.su; have e2 := HN.out.2.2; omega))
        go_wp2_with fail
        refine HQ.out.mono ?_
        clear HQ
        rintro e z3 ⟨H3, rfl, s3, fr3, k3⟩
        have HX := @hideH _ (HBZ.out.other O s3 fr3 k3 (sz_beg _ _))
        clear s3 fr3 k3 HBZ d0 d1 d2 d3
        have hkn' : (k : Int) < (n : Int) := by omega
        obtain ⟨s, hs⟩ : ∃ s, ss[k]? = some s := ⟨_, List.getElem?_eq_getElem (by have := HN.out.1.1; omega)⟩
        obtain ⟨sb, so, sc, es, ⟨c0, c1, c2, c3⟩, nn⟩ := HS.out.at hs
        cases es
        have d0 := HX.out.a1.kp.cell c0 (by simp)
        have d1 := HX.out.a1.kp.cell c1 (by simp)
        have d2 := HX.out.a1.kp.cell c2 (by simp)
        have d3 := HX.out.a1.kp.cell c3 (by simp)
        have HSZP := @hideH _ (sz_play (O.ok HX.out.a1.l) s)
        have HST := @hideH _ (step_any O s _ HX.out.a1.l HX.out.a1.r HX.out.a1.ds nn HA.out (by have e1 := HX.out.a1.sz; have e2 := HN.out.1.2; omega))
        clear c0 c1 c2 c3 nn hs
        go_wp2_with fail
        refine HST.out.mono ?_
        clear HST
        rintro e y0 ⟨rfl, F4, G4, l4, r4, ds4, f4, g4, k4⟩
        have B4 := HX.out.both O l4 r4 ds4 f4 g4 k4 HSZP.out
        clear l4 r4 ds4 f4 g4 k4 HX d0 d1 d2 d3 HSZP
        obtain ⟨T4, hT4⟩ : ∃ T4, T4 = playR T s := ⟨_, rfl⟩
        rw [← hT4] at B4
        clear hT4
        have HX := @hideH _ B4
        clear B4
        obtain ⟨F, hFx⟩ : ∃ F, F = F4 := ⟨_, rfl⟩
        obtain ⟨G, hGx⟩ : ∃ G, G = G4 := ⟨_, rfl⟩
        obtain ⟨T, hTx⟩ : ∃ T, T = T4 := ⟨_, rfl⟩
        rw [← hFx, ← hGx, ← hTx] at HX
        clear hFx hGx hTx
        obtain ⟨K, hK⟩ : ∃ K, K = keptT T := ⟨_, rfl⟩
        have HQ := @hideH _ (O.all _ HX.out.a1.l)
        have HRR := @hideH _ (fun w6 (h : Rr w6 gR G a T) => rKept w6 h)
        rw [← hK] at HQ HRR
        clear hK
        go_wp2_with fail
        refine HQ.out.mono ?_
        clear HQ
        rintro e y1 ⟨rfl, k6⟩
        have HY := @hideH _ (HX.out.then O k6)
        clear k6 HX
        go_wp2_with fail
        refine (HRR.out _ HY.out.a1.r).mono ?_
        clear HRR
        rintro e y2 ⟨rfl, k6⟩
        have HX := @hideH _ (HY.out.then O k6)
        clear k6 HY
        go_wp2
        go_roundw
        case rel => exact ⟨k + 1, by omega, by go_num, _, _, _, _, _, HX.out.more (by omega) (by omega)⟩
        case measure => simp [intOf]; omega
      have q0' : (o.kind == 0) = false := by simpa using q0
      by_cases q1 : o.kind = 1
      · rw [q1] at d0
        clear q1
        have HQ := @hideH _ (O.upd o.birth o.n z2 HBZ.out.s HNN.out.2.1 HNN.out.2.2.1 (by have e1 := HBZ.out.su; have e2 := HN.out.2.2; omega))
        go_wp2_with fail
        refine HQ.out.mono ?_
        clear HQ
        rintro e z3 ⟨H3, rfl, s3, fr3, k3⟩
        have HX := @hideH _ (HBZ.out.other O s3 fr3 k3 (sz_upd (O.ok HBZ.out.s) _ _))
        clear s3 fr3 k3 HBZ d0 d1 d2 d3
        have hkn' : (k : Int) < (n : Int) := by omega
        obtain ⟨s, hs⟩ : ∃ s, ss[k]? = some s := ⟨_, List.getElem?_eq_getElem (by have := HN.out.1.1; omega)⟩
        obtain ⟨sb, so, sc, es, ⟨c0, c1, c2, c3⟩, nn⟩ := HS.out.at hs
        cases es
        have d0 := HX.out.a1.kp.cell c0 (by simp)
        have d1 := HX.out.a1.kp.cell c1 (by simp)
        have d2 := HX.out.a1.kp.cell c2 (by simp)
        have d3 := HX.out.a1.kp.cell c3 (by simp)
        have HSZP := @hideH _ (sz_play (O.ok HX.out.a1.l) s)
        have HST := @hideH _ (step_any O s _ HX.out.a1.l HX.out.a1.r HX.out.a1.ds nn HA.out (by have e1 := HX.out.a1.sz; have e2 := HN.out.1.2; omega))
        clear c0 c1 c2 c3 nn hs
        go_wp2_with fail
        refine HST.out.mono ?_
        clear HST
        rintro e y0 ⟨rfl, F4, G4, l4, r4, ds4, f4, g4, k4⟩
        have B4 := HX.out.both O l4 r4 ds4 f4 g4 k4 HSZP.out
        clear l4 r4 ds4 f4 g4 k4 HX d0 d1 d2 d3 HSZP
        obtain ⟨T4, hT4⟩ : ∃ T4, T4 = playR T s := ⟨_, rfl⟩
        rw [← hT4] at B4
        clear hT4
        have HX := @hideH _ B4
        clear B4
        obtain ⟨F, hFx⟩ : ∃ F, F = F4 := ⟨_, rfl⟩
        obtain ⟨G, hGx⟩ : ∃ G, G = G4 := ⟨_, rfl⟩
        obtain ⟨T, hTx⟩ : ∃ T, T = T4 := ⟨_, rfl⟩
        rw [← hFx, ← hGx, ← hTx] at HX
        clear hFx hGx hTx
        obtain ⟨K, hK⟩ : ∃ K, K = keptT T := ⟨_, rfl⟩
        have HQ := @hideH _ (O.all _ HX.out.a1.l)
        have HRR := @hideH _ (fun w6 (h : Rr w6 gR G a T) => rKept w6 h)
        rw [← hK] at HQ HRR
        clear hK
        go_wp2_with fail
        refine HQ.out.mono ?_
        clear HQ
        rintro e y1 ⟨rfl, k6⟩
        have HY := @hideH _ (HX.out.then O k6)
        clear k6 HX
        go_wp2_with fail
        refine (HRR.out _ HY.out.a1.r).mono ?_
        clear HRR
        rintro e y2 ⟨rfl, k6⟩
        have HX := @hideH _ (HY.out.then O k6)
        clear k6 HY
        go_wp2
        go_roundw
        case rel => exact ⟨k + 1, by omega, by go_num, _, _, _, _, _, HX.out.more (by omega) (by omega)⟩
        case measure => simp [intOf]; omega
      have q1' : (o.kind == 1) = false := by simpa using q1
      by_cases q2 : o.kind = 2
      · rw [q2] at d0
        clear q2
        have HQ := @hideH _ (O.und o.birth o.n z2 HBZ.out.s HNN.out.2.1 HNN.out.2.2.1)
        go_wp2_with fail
        refine HQ.out.mono ?_
        clear HQ
        rintro e z3 ⟨H3, rfl, s3, fr3, k3⟩
        have HX := @hideH _ (HBZ.out.other O s3 fr3 k3 (sz_und (O.ok HBZ.out.s) _ _))
        clear s3 fr3 k3 HBZ d0 d1 d2 d3
        have hkn' : (k : Int) < (n : Int) := by omega
        obtain ⟨s, hs⟩ : ∃ s, ss[k]? = some s := ⟨_, List.getElem?_eq_getElem (by have := HN.out.1.1; omega)⟩
        obtain ⟨sb, so, sc, es, ⟨c0, c1, c2, c3⟩, nn⟩ := HS.out.at hs
        cases es
        have d0 := HX.out.a1.kp.cell c0 (by simp)
        have d1 := HX.out.a1.kp.cell c1 (by simp)
        have d2 := HX.out.a1.kp.cell c2 (by simp)
        have d3 := HX.out.a1.kp.cell c3 (by simp)
        have HSZP := @hideH _ (sz_play (O.ok HX.out.a1.l) s)
        have HST := @hideH _ (step_any O s _ HX.out.a1.l HX.out.a1.r HX.out.a1.ds nn HA.out (by have e1 := HX.out.a1.sz; have e2 := HN.out.1.2; omega))
        clear c0 c1 c2 c3 nn hs
        go_wp2_with fail
        refine HST.out.mono ?_
        clear HST
        rintro e y0 ⟨rfl, F4, G4, l4, r4, ds4, f4, g4, k4⟩
        have B4 := HX.out.both O l4 r4 ds4 f4 g4 k4 HSZP.out
        clear l4 r4 ds4 f4 g4 k4 HX d0 d1 d2 d3 HSZP
        obtain ⟨T4, hT4⟩ : ∃ T4, T4 = playR T s := ⟨_, rfl⟩
        rw [← hT4] at B4
        clear hT4
        have HX := @hideH _ B4
        clear B4
        obtain ⟨F, hFx⟩ : ∃ F, F = F4 := ⟨_, rfl⟩
        obtain ⟨G, hGx⟩ : ∃ G, G = G4 := ⟨_, rfl⟩
        obtain ⟨T, hTx⟩ : ∃ T, T = T4 := ⟨_, rfl⟩
        rw [← hFx, ← hGx, ← hTx] at HX
        clear hFx hGx hTx
        obtain ⟨K, hK⟩ : ∃ K, K = keptT T := ⟨_, rfl⟩
        have HQ := @hideH _ (O.all _ HX.out.a1.l)
        have HRR := @hideH _ (fun w6 (h : Rr w6 gR G a T) => rKept w6 h)
        rw [← hK] at HQ HRR
        clear hK
        go_wp2_with fail
        refine HQ.out.mono ?_
        clear HQ
        rintro e y1 ⟨rfl, k6⟩
        have HY := @hideH _ (HX.out.then O k6)
        clear k6 HX
        go_wp2_with fail
        refine (HRR.out _ HY.out.a1.r).mono ?_
        clear HRR
        rintro e y2 ⟨rfl, k6⟩
        have HX := @hideH _ (HY.out.then O k6)
        clear k6 HY
        go_wp2
        go_roundw
        case rel => exact ⟨k + 1, by omega, by go_num, _, _, _, _, _, HX.out.more (by omega) (by omega)⟩
        case measure => simp [intOf]; omega
      have q2' : (o.kind == 2) = false := by simpa using q2
      by_cases q3 : o.kind = 3
      · rw [q3] at d0
        clear q3
        have HQ := @hideH _ (O.drp o.birth z2 HBZ.out.s HNN.out.2.1)
        go_wp2_with fail
        refine HQ.out.mono ?_
        clear HQ
        rintro e z3 ⟨H3, rfl, s3, fr3, k3⟩
        have HX := @hideH _ (HBZ.out.other O s3 fr3 k3 (sz_drp (O.ok HBZ.out.s) _))
        clear s3 fr3 k3 HBZ d0 d1 d2 d3
        have hkn' : (k : Int) < (n : Int) := by omega
        obtain ⟨s, hs⟩ : ∃ s, ss[k]? = some s := ⟨_, List.getElem?_eq_getElem (by have := HN.out.1.1; omega)⟩
        obtain ⟨sb, so, sc, es, ⟨c0, c1, c2, c3⟩, nn⟩ := HS.out.at hs
        cases es
        have d0 := HX.out.a1.kp.cell c0 (by simp)
        have d1 := HX.out.a1.kp.cell c1 (by simp)
        have d2 := HX.out.a1.kp.cell c2 (by simp)
        have d3 := HX.out.a1.kp.cell c3 (by simp)
        have HSZP := @hideH _ (sz_play (O.ok HX.out.a1.l) s)
        have HST := @hideH _ (step_any O s _ HX.out.a1.l HX.out.a1.r HX.out.a1.ds nn HA.out (by have e1 := HX.out.a1.sz; have e2 := HN.out.1.2; omega))
        clear c0 c1 c2 c3 nn hs
        go_wp2_with fail
        refine HST.out.mono ?_
        clear HST
        rintro e y0 ⟨rfl, F4, G4, l4, r4, ds4, f4, g4, k4⟩
        have B4 := HX.out.both O l4 r4 ds4 f4 g4 k4 HSZP.out
        clear l4 r4 ds4 f4 g4 k4 HX d0 d1 d2 d3 HSZP
        obtain ⟨T4, hT4⟩ : ∃ T4, T4 = playR T s := ⟨_, rfl⟩
        rw [← hT4] at B4
        clear hT4
        have HX := @hideH _ B4
        clear B4
        obtain ⟨F, hFx⟩ : ∃ F, F = F4 := ⟨_, rfl⟩
        obtain ⟨G, hGx⟩ : ∃ G, G = G4 := ⟨_, rfl⟩
        obtain ⟨T, hTx⟩ : ∃ T, T = T4 := ⟨_, rfl⟩
        rw [← hFx, ← hGx, ← hTx] at HX
        clear hFx hGx hTx
        obtain ⟨K, hK⟩ : ∃ K, K = keptT T := ⟨_, rfl⟩
        have HQ := @hideH _ (O.all _ HX.out.a1.l)
        have HRR := @hideH _ (fun w6 (h : Rr w6 gR G a T) => rKept w6 h)
        rw [← hK] at HQ HRR
        clear hK
        go_wp2_with fail
        refine HQ.out.mono ?_
        clear HQ
        rintro e y1 ⟨rfl, k6⟩
        have HY := @hideH _ (HX.out.then O k6)
        clear k6 HX
        go_wp2_with fail
        refine (HRR.out _ HY.out.a1.r).mono ?_
        clear HRR
        rintro e y2 ⟨rfl, k6⟩
        have HX := @hideH _ (HY.out.then O k6)
        clear k6 HY
        go_wp2
        go_roundw
        case rel => exact ⟨k + 1, by omega, by go_num, _, _, _, _, _, HX.out.more (by omega) (by omega)⟩
        case measure => simp [intOf]; omega
      have q3' : (o.kind == 3) = false := by simpa using q3
      clear q0 q1 q2 q3
      have HX := @hideH _ HBZ.out
      clear HBZ
      have hkn' : (k : Int) < (n : Int) := by omega
      obtain ⟨s, hs⟩ : ∃ s, ss[k]? = some s := ⟨_, List.getElem?_eq_getElem (by have := HN.out.1.1; omega)⟩
      obtain ⟨sb, so, sc, es, ⟨c0, c1, c2, c3⟩, nn⟩ := HS.out.at hs
      cases es
      have d0 := HX.out.a1.kp.cell c0 (by simp)
      have d1 := HX.out.a1.kp.cell c1 (by simp)
      have d2 := HX.out.a1.kp.cell c2 (by simp)
      have d3 := HX.out.a1.kp.cell c3 (by simp)
      have HSZP := @hideH _ (sz_play (O.ok HX.out.a1.l) s)
      have HST := @hideH _ (step_any O s _ HX.out.a1.l HX.out.a1.r HX.out.a1.ds nn HA.out (by have e1 := HX.out.a1.sz; have e2 := HN.out.1.2; omega))
      clear c0 c1 c2 c3 nn hs
      go_wp2_with fail
      refine HST.out.mono ?_
      clear HST
      rintro e y0 ⟨rfl, F4, G4, l4, r4, ds4, f4, g4, k4⟩
      have B4 := HX.out.both O l4 r4 ds4 f4 g4 k4 HSZP.out
      clear l4 r4 ds4 f4 g4 k4 HX d0 d1 d2 d3 HSZP
      obtain ⟨T4, hT4⟩ : ∃ T4, T4 = playR T s := ⟨_, rfl⟩
      rw [← hT4] at B4
      clear hT4
      have HX := @hideH _ B4
      clear B4
      obtain ⟨F, hFx⟩ : ∃ F, F = F4 := ⟨_, rfl⟩
      obtain ⟨G, hGx⟩ : ∃ G, G = G4 := ⟨_, rfl⟩
      obtain ⟨T, hTx⟩ : ∃ T, T = T4 := ⟨_, rfl⟩
      rw [← hFx, ← hGx, ← hTx] at HX
      clear hFx hGx hTx
      obtain ⟨K, hK⟩ : ∃ K, K = keptT T := ⟨_, rfl⟩
      have HQ := @hideH _ (O.all _ HX.out.a1.l)
      have HRR := @hideH _ (fun w6 (h : Rr w6 gR G a T) => rKept w6 h)
      rw [← hK] at HQ HRR
      clear hK
      go_wp2_with fail
      refine HQ.out.mono ?_
      clear HQ
      rintro e y1 ⟨rfl, k6⟩
      have HY := @hideH _ (HX.out.then O k6)
      clear k6 HX
      go_wp2_with fail
      refine (HRR.out _ HY.out.a1.r).mono ?_
      clear HRR
      rintro e y2 ⟨rfl, k6⟩
      have HX := @hideH _ (HY.out.then O k6)
      clear k6 HY
      go_wp2
      go_roundw
      case rel => exact ⟨k + 1, by omega, by go_num, _, _, _, _, _, HX.out.more (by omega) (by omega)⟩
      case measure => simp [intOf]; omega
    · skip
      by_cases q0 : o.kind = 0
      · rw [q0] at d0
        clear q0
        have HQ := @hideH _ (O.beg o.birth z2 HBZ.out.s HNN.out.2.1 (by have e1 := HBZ.out.su; have e2 := HN.out.2.2; omega))
        go_wp2_with fail
        refine HQ.out.mono ?_
        clear HQ
        rintro e z3 ⟨H3, rfl, s3, fr3, k3⟩
        have HX := @hideH _ (HBZ.out.other O s3 fr3 k3 (sz_beg _ _))
        clear s3 fr3 k3 HBZ d0 d1 d2 d3
        obtain ⟨K, hK⟩ : ∃ K, K = keptT T := ⟨_, rfl⟩
        have HQ := @hideH _ (O.all _ HX.out.a1.l)
        have HRR := @hideH _ (fun w6 (h : Rr w6 gR G a T) => rKept w6 h)
        rw [← hK] at HQ HRR
        clear hK
        go_wp2_with fail
        refine HQ.out.mono ?_
        clear HQ
        rintro e y1 ⟨rfl, k6⟩
        have HY := @hideH _ (HX.out.then O k6)
        clear k6 HX
        go_wp2_with fail
        refine (HRR.out _ HY.out.a1.r).mono ?_
        clear HRR
        rintro e y2 ⟨rfl, k6⟩
        have HX := @hideH _ (HY.out.then O k6)
        clear k6 HY
        go_wp2
        go_roundw
        case rel => exact ⟨k + 1, by omega, by go_num, _, _, _, _, _, HX.out.more (by omega) (by omega)⟩
        case measure => simp [intOf]; omega
      have q0' : (o.kind == 0) = false := by simpa using q0
      by_cases q1 : o.kind = 1
      · rw [q1] at d0
        clear q1
        have HQ := @hideH _ (O.upd o.birth o.n z2 HBZ.out.s HNN.out.2.1 HNN.out.2.2.1 (by have e1 := HBZ.out.su; have e2 := HN.out.2.2; omega))
        go_wp2_with fail
        refine HQ.out.mono ?_
        clear HQ
        rintro e z3 ⟨H3, rfl, s3, fr3, k3⟩
        have HX := @hideH _ (HBZ.out.other O s3 fr3 k3 (sz_upd (O.ok HBZ.out.s) _ _))
        clear s3 fr3 k3 HBZ d0 d1 d2 d3
        obtain ⟨K, hK⟩ : ∃ K, K = keptT T := ⟨_, rfl⟩
        have HQ := @hideH _ (O.all _ HX.out.a1.l)
        have HRR := @hideH _ (fun w6 (h : Rr w6 gR G a T) => rKept w6 h)
        rw [← hK] at HQ HRR
        clear hK
        go_wp2_with fail
        refine HQ.out.mono ?_
        clear HQ
        rintro e y1 ⟨rfl, k6⟩
        have HY := @hideH _ (HX.out.then O k6)
        clear k6 HX
        go_wp2_with fail
        refine (HRR.out _ HY.out.a1.r).mono ?_
        clear HRR
        rintro e y2 ⟨rfl, k6⟩
        have HX := @hideH _ (HY.out.then O k6)
        clear k6 HY
        go_wp2
        go_roundw
        case rel => exact ⟨k + 1, by omega, by go_num, _, _, _, _, _, HX.out.more (by omega) (by omega)⟩
        case measure => simp [intOf]; omega
      have q1' : (o.kind == 1) = false := by simpa using q1
      by_cases q2 : o.kind = 2
      · rw [q2] at d0
        clear q2
        have HQ := @hideH _ (O.und o.birth o.n z2 HBZ.out.s HNN.out.2.1 HNN.out.2.2.1)
        go_wp2_with fail
        refine HQ.out.mono ?_
        clear HQ
        rintro e z3 ⟨H3, rfl, s3, fr3, k3⟩
        have HX := @hideH _ (HBZ.out.other O s3 fr3 k3 (sz_und (O.ok HBZ.out.s) _ _))
        clear s3 fr3 k3 HBZ d0 d1 d2 d3
        obtain ⟨K, hK⟩ : ∃ K, K = keptT T := ⟨_, rfl⟩
        have HQ := @hideH _ (O.all _ HX.out.a1.l)
        have HRR := @hideH _ (fun w6 (h : Rr w6 gR G a T) => rKept w6 h)
        rw [← hK] at HQ HRR
        clear hK
        go_wp2_with fail
        refine HQ.out.mono ?_
        clear HQ
        rintro e y1 ⟨rfl, k6⟩
        have HY := @hideH _ (HX.out.then O k6)
        clear k6 HX
        go_wp2_with fail
        refine (HRR.out _ HY.out.a1.r).mono ?_
        clear HRR
        rintro e y2 ⟨rfl, k6⟩
        have HX := @hideH _ (HY.out.then O k6)
        clear k6 HY
        go_wp2
        go_roundw
        case rel => exact ⟨k + 1, by omega, by go_num, _, _, _, _, _, HX.out.more (by omega) (by omega)⟩
        case measure => simp [intOf]; omega
      have q2' : (o.kind == 2) = false := by simpa using q2
      by_cases q3 : o.kind = 3
      · rw [q3] at d0
        clear q3
        have HQ := @hideH _ (O.drp o.birth z2 HBZ.out.s HNN.out.2.1)
        go_wp2_with fail
        refine HQ.out.mono ?_
        clear HQ
        rintro e z3 ⟨H3, rfl, s3, fr3, k3⟩
        have HX := @hideH _ (HBZ.out.other O s3 fr3 k3 (sz_drp (O.ok HBZ.out.s) _))
        clear s3 fr3 k3 HBZ d0 d1 d2 d3
        obtain ⟨K, hK⟩ : ∃ K, K = keptT T := ⟨_, rfl⟩
        have HQ := @hideH _ (O.all _ HX.out.a1.l)
        have HRR := @hideH _ (fun w6 (h : Rr w6 gR G a T) => rKept w6 h)
        rw [← hK] at HQ HRR
        clear hK
        go_wp2_with fail
        refine HQ.out.mono ?_
        clear HQ
        rintro e y1 ⟨rfl, k6⟩
        have HY := @hideH _ (HX.out.then O k6)
        clear k6 HX
        go_wp2_with fail
        refine (HRR.out _ HY.out.a1.r).mono ?_
        clear HRR
        rintro e y2 ⟨rfl, k6⟩
        have HX := @hideH _ (HY.out.then O k6)
        clear k6 HY
        go_wp2
        go_roundw
        case rel => exact ⟨k + 1, by omega, by go_num, _, _, _, _, _, HX.out.more (by omega) (by omega)⟩
        case measure => simp [intOf]; omega
      have q3' : (o.kind == 3) = false := by simpa using q3
      clear q0 q1 q2 q3
      have HX := @hideH _ HBZ.out
      clear HBZ
      obtain ⟨K, hK⟩ : ∃ K, K = keptT T := ⟨_, rfl⟩
      have HQ := @hideH _ (O.all _ HX.out.a1.l)
      have HRR := @hideH _ (fun w6 (h : Rr w6 gR G a T) => rKept w6 h)
      rw [← hK] at HQ HRR
      clear hK
      go_wp2_with fail
      refine HQ.out.mono ?_
      clear HQ
      rintro e y1 ⟨rfl, k6⟩
      have HY := @hideH _ (HX.out.then O k6)
      clear k6 HX
      go_wp2_with fail
      refine (HRR.out _ HY.out.a1.r).mono ?_
      clear HRR
      rintro e y2 ⟨rfl, k6⟩
      have HX := @hideH _ (HY.out.then O k6)
      clear k6 HY
      go_wp2
      go_roundw
      case rel => exact ⟨k + 1, by omega, by go_num, _, _, _, _, _, HX.out.more (by omega) (by omega)⟩
      case measure => simp [intOf]; omega
end Go.Proofs.Ytpbcfkfhkenhpaa

