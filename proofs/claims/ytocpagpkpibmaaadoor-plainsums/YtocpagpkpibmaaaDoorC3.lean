import Derived.Test.YtocpagpkpibmaaaDoorC2
/-
  OWN WORK (by mkpnu.py). The law: PlainSums, for any State.
-/
namespace Go.Proofs.YtocpagpkpibmaaaDoor
open Go.RowKit
set_option linter.unusedVariables false
set_option linter.unusedSimpArgs false

theorem Ops.nil (w : World) : Ops w (.slice none 0 0) [] := ⟨none, 0, rfl, Nat.le_refl _, by simp [maxLen], fun _ => rfl, fun a e => (by cases e)⟩
variable {Ks : List Nat} {Vr : World → Prop} {Pn : World → Nat → List Nat → Cf → St → Prop} (O : PnOps Ks Vr Pn)
include O
set_option maxRecDepth 20000 in
set_option maxHeartbeats 12800000 in
theorem plainSums_walk (c : Cf) (v : Value) (ss : List OpR) (w : World) (hv : Vr w) (hS : Ops w v ss) (hL : ss.length ≤ 3600000000000) : Calls Tryd.prog 4 #[.agg #[.int .i64 c.pages, .int .i64 c.slots, .int .i64 c.log, .int .i64 c.frames, .int .i64 c.table, .int .i64 c.keys], v] w fun e w' => e = .returned (.bool true) ∧ Kept [] w w' := by
  obtain ⟨ps, cs, hvs, hml⟩ := hS.shape
  subst hvs
  obtain ⟨n, hn⟩ : ∃ n, n = ss.length := ⟨_, rfl⟩
  have HS := @hideH _ hS
  have HN := @hideH _ (show n = ss.length ∧ n ≤ 3600000000000 from ⟨hn, by omega⟩)
  rw [← hn]
  have HV := @hideH _ hv
  clear hS hml hn hL hv
  obtain ⟨w1, hw1⟩ : ∃ wx, wx = w.alloc (.cells #[.int .i64 c.pages, .int .i64 c.slots, .int .i64 c.log, .int .i64 c.frames, .int .i64 c.table, .int .i64 c.keys] 39) := ⟨_, rfl⟩
  have k1 : Kept [] w w1 := by rw [hw1]; exact (Kept.refl [] w).alloc _
  have B : Blk w1 w.heap.size 39 [.int .i64 c.pages, .int .i64 c.slots, .int .i64 c.log, .int .i64 c.frames, .int .i64 c.table, .int .i64 c.keys] := by rw [hw1]; exact Blk.new w _ _
  have c0 := B.cell (j := 0) rfl
  have c1 := B.cell (j := 1) rfl
  have c2 := B.cell (j := 2) rfl
  have c3 := B.cell (j := 3) rfl
  have c4 := B.cell (j := 4) rfl
  have c5 := B.cell (j := 5) rfl
  have HK1 := @hideH _ k1
  clear B k1
  go_enter Tryd.func4, Tryd.ntmps4
  go_upto_region 1 with fail
  rw [← hw1]
  clear hw1
  go_wp2_with fail
  refine (may_any c _).mono ?_
  rintro e w2 ⟨rfl, k2⟩
  clear c0 c1 c2 c3 c4 c5
  obtain ⟨d, hd⟩ : ∃ d, d = mayF c := ⟨_, rfl⟩
  rw [← hd]
  have HM := @hideH _ (show mayC d by rw [hd]; exact mayF_may c)
  clear hd
  obtain ⟨w3, hw3⟩ : ∃ wx, wx = w2.alloc (.cells #[.int .i64 d.pages, .int .i64 d.slots, .int .i64 d.log, .int .i64 d.frames, .int .i64 d.table, .int .i64 d.keys] 39) := ⟨_, rfl⟩
  have k3 : Kept [] w2 w3 := by rw [hw3]; exact (Kept.refl [] w2).alloc _
  have B3 : Blk w3 w2.heap.size 39 [.int .i64 d.pages, .int .i64 d.slots, .int .i64 d.log, .int .i64 d.frames, .int .i64 d.table, .int .i64 d.keys] := by rw [hw3]; exact Blk.new w2 _ _
  obtain ⟨gd, hgd⟩ : ∃ g, g = w2.heap.size := ⟨_, rfl⟩
  go_upto_region 2 with fail
  rw [← hw3, ← hgd]
  rw [← hgd] at B3
  have HK3 := @hideH _ ((HK1.out.then k2).then k3)
  have c0 := B3.cell (j := 0) rfl
  have c1 := B3.cell (j := 1) rfl
  have c2 := B3.cell (j := 2) rfl
  have c3 := B3.cell (j := 3) rfl
  have c4 := B3.cell (j := 4) rfl
  have c5 := B3.cell (j := 5) rfl
  have HB3 := @hideH _ B3
  clear hw3 hgd k2 k3 B3
  go_wp2_with fail
  refine (played_any O d _ [] _ (O.vkept HV.out HK3.out (by simp)) (Ops.nil _) (by simp) HM.out).mono ?_
  rintro e w4 ⟨g, rfl, F, p4⟩
  clear c0 c1 c2 c3 c4 c5
  have HD := @hideH _ (And.intro (HB3.out.kept p4.kp (by simp)) (HK3.out.then p4.kp))
  have HB4 := @hideH _ (show B18 Ks Vr Pn w w4 g d 0 F ⟨[], [], 0⟩ from ⟨p4.p, p4.v, HK3.out.then p4.kp, fun x hx => Nat.le_trans HK3.out.size (p4.lo x hx), p4.sz⟩)
  have HGF := @hideH _ (show gd ∉ F from fun hm => by have := p4.lo gd hm; have := HB3.out.lt; omega)
  clear p4
  go_wp2_with fail
  refine (alive_any O _ HB4.out.v).mono ?_
  rintro e w5 ⟨rfl, k5⟩
  have HB5 := @hideH _ (HB4.out.then O k5)
  have HD5 := @hideH _ (HD.out.1.kept k5 (by simp))
  clear HB4 HD k5
  go_wp2
  go_loopw [7] (fun vi wr => ∃ k : Nat, k ≤ n ∧ vi = .int .i64 k ∧ Hid (∃ F S, B18 Ks Vr Pn w wr g d k F S ∧ gd ∉ F ∧ Blk wr gd 39 [.int .i64 d.pages, .int .i64 d.slots, .int .i64 d.log, .int .i64 d.frames, .int .i64 d.table, .int .i64 d.keys])) (fun vi _ => n - (intOf vi).toNat)
  case atStart => exact ⟨0, Nat.zero_le _, rfl, _, _, HB5.out, HGF.out, HD5.out⟩
  case round =>
    clear HB5 HD5 HGF
    obtain ⟨k, hk, rfl, hh⟩ := hrel
    obtain ⟨F, S, A, gF, BD⟩ := hh.out
    clear hh
    have HAA := @hideH _ A
    have HBD := @hideH _ (And.intro gF BD)
    clear A gF BD
    by_cases hkl : k < n
    rotate_left
    · have hkl' : ¬ (k : Int) < (n : Int) := by omega
      go_wp2
      go_ret
      exact ⟨by first | rfl | simp, HAA.out.kp⟩
    have hkl' : (k : Int) < (n : Int) := by omega
    have hk0 : (0 : Int) ≤ (k : Int) := by omega
    have wk : IntKind.i64.wrap ((k : Int) + 1) = (k : Int) + 1 := wrap_i64_of (by omega) (by have := HN.out.2; omega)
    obtain ⟨s, hs⟩ : ∃ s, ss[k]? = some s := ⟨_, List.getElem?_eq_getElem (by have := HN.out.1; omega)⟩
    obtain ⟨sb, so, sc, es, ⟨c0, c1, c2, c3, c4⟩, nn⟩ := HS.out.at hs
    cases es
    have HCS := @hideH _ c0
    go_wp2_with fail
    refine (O.used _ HAA.out.v HAA.out.p).mono ?_
    rintro e w6 ⟨rfl, k6⟩
    have HA6 := @hideH _ (HAA.out.then O k6)
    have HBD6 := @hideH _ (And.intro HBD.out.1 (HBD.out.2.kept k6 (by simp)))
    clear HAA HBD k6
    go_wp2_with fail
    refine (O.ids _ HA6.out.v HA6.out.p).mono ?_
    rintro e w7 ⟨vi, rfl, ii, k7⟩
    obtain ⟨pi, ci, hvi, -⟩ := ii.shape
    subst hvi
    have HA7 := @hideH _ (HA6.out.then O k7)
    have HBD7 := @hideH _ (And.intro HBD6.out.1 (HBD6.out.2.kept k7 (by simp)))
    clear HA6 HBD6 k7 ii
    have d0 := HA7.out.kp.cell c0 (by simp)
    have d1 := HA7.out.kp.cell c1 (by simp)
    have d2 := HA7.out.kp.cell c2 (by simp)
    have d3 := HA7.out.kp.cell c3 (by simp)
    have d4 := HA7.out.kp.cell c4 (by simp)
    have HST := @hideH _ (does_any O s w7 HA7.out.v HA7.out.p (HA7.out.small (by have := HN.out.2; omega)) nn)
    clear c0 c1 c2 c3 c4 nn hs
    go_wp2_with fail
    refine HST.out.mono ?_
    clear HST
    rintro e w8 ⟨rfl, F8, p8, f8, k8⟩
    have HA8 := @hideH _ (HA7.out.go O (j := k + 1) p8 f8 k8 (by have := cnt_step (O.ok HA7.out.p) s; have := HA7.out.sz; omega))
    have HBD8 := @hideH _ (show gd ∉ F8 ∧ Blk w8 gd 39 [.int .i64 d.pages, .int .i64 d.slots, .int .i64 d.log, .int .i64 d.frames, .int .i64 d.table, .int .i64 d.keys] from ⟨fun hm => by
      rcases f8 gd hm with q | q
      · exact HBD7.out.1 q
      · have := HBD7.out.2.lt; omega, HBD7.out.2.kept k8 HBD7.out.1⟩)
    have HER := @hideH _ (And.intro (fun h => er_step (O.ok HA7.out.p) s h) (fun (k : Nat) (t : Tn) (hk : S.opn[k]? = some t) => er_log (O.ok HA7.out.p) hk))
    have HI7 := @hideH _ (And.intro (idsS_length (O.ok HA7.out.p)) (O.ok HA7.out.p).lenN)
    clear p8 f8 k8 HA7 HBD7 d0 d1 d2 d3 d4
    go_wp2_with fail
    refine (O.used _ HA8.out.v HA8.out.p).mono ?_
    rintro e w9 ⟨rfl, k9⟩
    have HA9 := @hideH _ (HA8.out.then O k9)
    have HBD9 := @hideH _ (And.intro HBD8.out.1 (HBD8.out.2.kept k9 (by simp)))
    clear HA8 HBD8 k9
    go_wp2_with fail
    refine (O.ids _ HA9.out.v HA9.out.p).mono ?_
    rintro e wA ⟨vj, rfl, jj, kA⟩
    obtain ⟨pj, cj, hvj, -⟩ := jj.shape
    subst hvj
    have HAA := @hideH _ (HA9.out.then O kA)
    have HBA := @hideH _ (And.intro HBD9.out.1 (HBD9.out.2.kept kA (by simp)))
    clear HA9 HBD9 kA jj
    have OK' := sums_ok (O.ok HAA.out.p)
    have hmay := HM.out
    have hlen' := (O.ok HAA.out.p).kept
    have hE8 := idsS_length (O.ok HAA.out.p)
    have hl8 := (O.ok HAA.out.p).lenN
    have HFIN := @hideH _ (show ∃ F S, B18 Ks Vr Pn w wA g d (k + 1) F S ∧ gd ∉ F ∧ Blk wA gd 39 [.int .i64 d.pages, .int .i64 d.slots, .int .i64 d.log, .int .i64 d.frames, .int .i64 d.table, .int .i64 d.keys] from ⟨_, _, HAA.out, HBA.out.1, HBA.out.2⟩)
    have b2 := HBA.out.2.cell (j := 2) rfl
    have b4 := HBA.out.2.cell (j := 4) rfl
    have f0 := HAA.out.kp.cell HCS.out (by simp)
    have HX := HER.out
    have HY := HI7.out
    clear HAA HBA HER HI7 HCS
    obtain ⟨S', hS'⟩ : ∃ x, x = stS d S s := ⟨_, rfl⟩
    rw [← hS'] at OK' hlen' hE8 hl8 HX ⊢
    obtain ⟨E, hE⟩ : ∃ x, x = erS d S s := ⟨_, rfl⟩
    rw [← hE] at HX ⊢
    clear hS' hE
    rw [hE8] at OK' ⊢
    rw [HY.1]
    obtain ⟨U, hU⟩ : ∃ x, x = S.used := ⟨_, rfl⟩
    obtain ⟨U', hU'⟩ : ∃ x, x = S'.used := ⟨_, rfl⟩
    obtain ⟨K, hK⟩ : ∃ x, x = keptO S.opn := ⟨_, rfl⟩
    obtain ⟨K', hK'⟩ : ∃ x, x = keptO S'.opn := ⟨_, rfl⟩
    obtain ⟨n0, hn0⟩ : ∃ x, x = S.opn.length := ⟨_, rfl⟩
    obtain ⟨n1, hn1⟩ : ∃ x, x = S'.opn.length := ⟨_, rfl⟩
    have HR : (E = 0) ∨ ((E ≠ 0 ∧ ¬ (E = 170 ∧ (s.kind = 3 ∨ s.kind = 4))) ∧ U' = U ∧ K' = K ∧ n1 = n0) ∨ ((E = 170 ∧ (s.kind = 3 ∨ s.kind = 4)) ∧ n1 + 1 = n0 ∧ U < U' ∧ K' < K) := by
      by_cases h0 : E = 0
      · exact .inl h0
      · rcases HX.1 h0 with ⟨q1, q2⟩ | ⟨q1, kk, t, hk, q2⟩
        · exact .inr (.inl ⟨⟨h0, q2⟩, by rw [hU, hU', q1], by rw [hK, hK', q1], by rw [hn0, hn1, q1]⟩)
        · have q3 := HX.2 kk t hk
          rw [q2] at hU' hK' hn1
          exact .inr (.inr ⟨q1, by rw [hn0, hn1]; exact q3.1, by rw [hU, hU']; exact q3.2.1, by rw [hK, hK']; exact q3.2.2⟩)
    rw [← hU', ← hK', ← hn1] at OK' ⊢
    rw [← hU, ← hK, ← hn0]
    rw [← hU', ← hK'] at hlen'
    rw [← hn1] at hl8
    have HY2 : n0 ≤ 8 := by rw [hn0]; exact HY.2
    clear HX HY hU hU' hK hK' hn0 hn1 hE8
    obtain ⟨o1, o2, o3, o4, o5⟩ := OK'
    have w1' : IntKind.i64.wrap (U' + K') = U' + K' := wrap_i64_of (by omega) (by omega)
    have w2' : IntKind.i64.wrap (99 * (n1 : Int)) = 99 * (n1 : Int) := wrap_i64_of (by omega) (by omega)
    have w3' : IntKind.i64.wrap ((n0 : Int) - 1) = (n0 : Int) - 1 := wrap_i64_of (by omega) (by omega)
    have t1 : ¬ d.log < U' + K' := by omega
    have t2 : ¬ U' < 0 := by omega
    have t3 : ¬ K' < 99 * (n1 : Int) := by omega
    have t4 : ((n1 : Int) == 0) = (K' == 0) := by
      by_cases z : n1 = 0
      · have := o4.1 z; subst this; subst z; rfl
      · have : K' ≠ 0 := fun q => z (o4.2 q)
        have z2 : (n1 : Int) ≠ 0 := by omega
        rw [show ((n1 : Int) == 0) = false by simpa using z, show (K' == 0) = false by simpa using this]
    have t5 : ¬ d.table < (n1 : Int) := by omega
    obtain ⟨zb, hzb⟩ : ∃ b : Bool, b = (K' == 0) := ⟨_, rfl⟩
    rw [← hzb] at t4
    have hzb' := hzb.symm
    have t6 : (zb != zb) = false := by simp
    clear hzb o1 o2 o3 o4 o5 hmay hlen' hl8
    rcases HR with rfl | ⟨⟨e1, e2⟩, rfl, rfl, rfl⟩ | ⟨⟨rfl, e2⟩, e3, e4, e5⟩
    · go_wp2
      go_roundw
      case rel => exact ⟨k + 1, by omega, by go_num, HFIN.out⟩
      case measure => simp [intOf]; omega
    · have u1 : (U' != U') = false := by simp
      have u2 : (K' != K') = false := by simp
      have u3 : ((n1 : Int) != (n1 : Int)) = false := by simp
      have u0 : (E != 0) = true := by simpa using e1
      by_cases e7 : E = 170
      · subst e7
        have u4 : (s.kind != 3) = true := by simp; exact fun q => e2 ⟨rfl, .inl q⟩
        have u5 : (s.kind != 4) = true := by simp; exact fun q => e2 ⟨rfl, .inr q⟩
        have u6 : (s.kind == 3) = false := by simp; exact fun q => e2 ⟨rfl, .inl q⟩
        have u7 : (s.kind == 4) = false := by simp; exact fun q => e2 ⟨rfl, .inr q⟩
        clear e1 e2
        go_wp2
        go_roundw
        case rel => exact ⟨k + 1, by omega, by go_num, HFIN.out⟩
        case measure => simp [intOf]; omega
      · have u4 : (E != 170) = true := by simpa using e7
        have u5 : (E == 170) = false := by simpa using e7
        clear e1 e2 e7
        go_wp2
        go_roundw
        case rel => exact ⟨k + 1, by omega, by go_num, HFIN.out⟩
        case measure => simp [intOf]; omega
    · have v1 : ((n1 : Int) != (n0 : Int) - 1) = false := by simp; omega
      have v2 : ¬ U' ≤ U := by omega
      have v3 : ¬ K ≤ K' := by omega
      by_cases e6 : s.kind = 3
      · have u4 : (s.kind != 3) = false := by simpa using e6
        have u6 : (s.kind == 3) = true := by simpa using e6
        clear e2 e3 e4 e5 e6
        go_wp2
        go_roundw
        case rel => exact ⟨k + 1, by omega, by go_num, HFIN.out⟩
        case measure => simp [intOf]; omega
      · have e7 : s.kind = 4 := by omega
        have u4 : (s.kind != 3) = true := by simpa using e6
        have u6 : (s.kind == 3) = false := by simpa using e6
        have u5 : (s.kind != 4) = false := by simpa using e7
        have u7 : (s.kind == 4) = true := by simpa using e7
        clear e2 e3 e4 e5 e6 e7
        go_wp2
        go_roundw
        case rel => exact ⟨k + 1, by omega, by go_num, HFIN.out⟩
        case measure => simp [intOf]; omega
end Go.Proofs.YtocpagpkpibmaaaDoor

