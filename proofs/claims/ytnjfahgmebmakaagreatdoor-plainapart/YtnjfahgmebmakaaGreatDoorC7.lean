import Derived.Test.YtnjfahgmebmakaaGreatDoorC6
/-
  OWN WORK (by mkpq2.py). The law: PlainApart, for any State.
-/
namespace Go.Proofs.YtnjfahgmebmakaaGreatDoor
open Go.RowKit
set_option linter.unusedVariables false
set_option linter.unusedSimpArgs false

def cfV (c : Cf) : List Value := [.int .i64 c.pages, .int .i64 c.slots, .int .i64 c.log, .int .i64 c.frames, .int .i64 c.table, .int .i64 c.keys]
def setCf (w : World) (g : Nat) (c : Cf) : World := (((((w.setCell ⟨g, 0, none⟩ (.int .i64 c.pages)).setCell ⟨g, 1, none⟩ (.int .i64 c.slots)).setCell ⟨g, 2, none⟩ (.int .i64 c.log)).setCell ⟨g, 3, none⟩ (.int .i64 c.frames)).setCell ⟨g, 4, none⟩ (.int .i64 c.table)).setCell ⟨g, 5, none⟩ (.int .i64 c.keys)
theorem Blk.setCf {w : World} {g : Nat} {t : TypeId} {v0 v1 v2 v3 v4 v5 : Value} (h : Blk w g t [v0, v1, v2, v3, v4, v5]) (c : Cf) : Blk (setCf w g c) g t (cfV c) ∧ Kept [g] w (setCf w g c) := by
  obtain ⟨r0, k0⟩ := h.set 0 (.int .i64 c.pages)
  obtain ⟨r1, k1⟩ := r0.set 1 (.int .i64 c.slots)
  obtain ⟨r2, k2⟩ := r1.set 2 (.int .i64 c.log)
  obtain ⟨r3, k3⟩ := r2.set 3 (.int .i64 c.frames)
  obtain ⟨r4, k4⟩ := r3.set 4 (.int .i64 c.table)
  obtain ⟨r5, k5⟩ := r4.set 5 (.int .i64 c.keys)
  have tr : ∀ {a b d : World}, Kept [g] a b → Kept [g] b d → Kept [g] a d := fun p q => p.trans q (fun x hx => .inl hx)
  exact ⟨r5, tr (tr (tr (tr (tr k0 k1) k2) k3) k4) k5⟩
/-- the law's Config: eight may be open, the log is as great as one may be -/
def apC (c : Cf) : Cf := ⟨c.pages, c.slots, 65536, c.frames, 8, c.keys⟩
theorem apC_may {c : Cf} (h : mayC c) : mayC (apC c) := ⟨h.1, h.2.1, ⟨by show (1024 : Int) ≤ 65536; omega, by show (65536 : Int) ≤ 65536; omega⟩, h.2.2.2.1, ⟨by show (1 : Int) ≤ 8; omega, by show (8 : Int) ≤ 8; omega⟩, h.2.2.2.2.2⟩
theorem bx_in {Ks : List Nat} {Vr : World → Prop} {Pn : World → Nat → List Nat → Cf → St → Prop} {w wr : World} {g gd : Nat} {c d : Cf} {k : Nat} {S : St} {T : List (Value × (World → Prop))} {F : List Nat} (h : M18 Ks Vr Pn w wr g c k S T F) (hm : boxT gd 25 (cfV d) ∈ T) : wr.cell? ⟨gd, 5, none⟩ = some (.int .i64 d.keys) := Blk.cell (h.h _ hm) rfl
/-- the two are in the law's own words -/
theorem u64_up {v a v1 : Int} {k : Nat} (hv : u64 v) (hk : k < 40) (ha : IntKind.u64.wrap (v + (k : Int)) = a) (h1 : IntKind.u64.wrap (a + 1) = v1) : u64 v1 ∧ v1 ≠ v := by
  have e : ∀ x : Int, IntKind.u64.wrap x = x % 18446744073709551616 := fun x => by simp [IntKind.wrap, IntKind.bits, IntKind.signed]
  rw [e] at ha h1
  unfold u64 at *
  omega
theorem okC.in64' {c : Cf} {x : Chg} (hm : mayC c) (h : okC c x) : I64 x.key ∧ u64 x.val := by
  have := hm.2.2.2.2.2.2
  obtain ⟨⟨h1, h2⟩, h3⟩ := h
  exact ⟨by unfold I64; omega, h3⟩
variable {Ks : List Nat} {Vr : World → Prop} {Pn : World → Nat → List Nat → Cf → St → Prop} (O : PnOps Ks Vr Pn) (E : PnTel Vr Pn) (FO : PnFold)
include O E FO
set_option maxRecDepth 20000 in
set_option maxHeartbeats 12800000 in
theorem plainApart_walk (c : Cf) (v : Value) (ss : List OpR) (vk : Value) (ks : List Int) (bc : Bool) (w : World) (hv : Vr w) (hS : Ops w v ss) (hL : ss.length ≤ 3550000000000) (hI : Inn w vk ks) : Calls Tryz.prog 5 #[.agg #[.int .i64 c.pages, .int .i64 c.slots, .int .i64 c.log, .int .i64 c.frames, .int .i64 c.table, .int .i64 c.keys], v, vk, .bool bc] w fun e w' => e = .returned (.bool true) ∧ Kept [] w w' := by
  obtain ⟨ps, cs, hvs, hml⟩ := hS.shape
  subst hvs
  obtain ⟨pk, ck, hvk, hmk⟩ := hI.shape
  subst hvk
  obtain ⟨n, hn⟩ : ∃ n, n = ss.length := ⟨_, rfl⟩
  obtain ⟨nk, hnk⟩ : ∃ nk, nk = ks.length := ⟨_, rfl⟩
  have HS := @hideH _ hS
  have HI := @hideH _ hI
  have HN := @hideH _ (show n = ss.length ∧ n ≤ 3550000000000 from ⟨hn, by omega⟩)
  have HNK := @hideH _ (show nk = ks.length ∧ nk ≤ maxLen from ⟨hnk, by omega⟩)
  have HVL := @hideH _ (O.vlt hv)
  rw [← hn] at HS ⊢
  rw [← hnk] at HI ⊢
  have HV := @hideH _ hv
  clear hS hml hn hL hv hI hmk hnk
  obtain ⟨w1, hw1⟩ : ∃ wx, wx = w.alloc (.cells #[.int .i64 c.pages, .int .i64 c.slots, .int .i64 c.log, .int .i64 c.frames, .int .i64 c.table, .int .i64 c.keys] 25) := ⟨_, rfl⟩
  have k1 : Kept [] w w1 := by rw [hw1]; exact (Kept.refl [] w).alloc _
  have B : Blk w1 w.heap.size 25 [.int .i64 c.pages, .int .i64 c.slots, .int .i64 c.log, .int .i64 c.frames, .int .i64 c.table, .int .i64 c.keys] := by rw [hw1]; exact Blk.new w _ _
  have c0 := B.cell (j := 0) rfl
  have c1 := B.cell (j := 1) rfl
  have c2 := B.cell (j := 2) rfl
  have c3 := B.cell (j := 3) rfl
  have c4 := B.cell (j := 4) rfl
  have c5 := B.cell (j := 5) rfl
  have HK1 := @hideH _ k1
  clear B k1
  go_enter Tryz.func5, Tryz.ntmps5
  go_upto_region 1 with fail
  rw [← hw1]
  clear hw1
  go_wp2_with fail
  refine (may_any c _).mono ?_
  rintro e w2 ⟨rfl, k2⟩
  clear c0 c1 c2 c3 c4 c5
  obtain ⟨d0, hd0⟩ : ∃ d, d = mayF c := ⟨_, rfl⟩
  rw [← hd0]
  have HM := @hideH _ (show mayC (apC d0) by rw [hd0]; exact apC_may (mayF_may c))
  clear hd0
  have HK2 := @hideH _ (HK1.out.then k2)
  clear k2 HK1
  obtain ⟨w3, hw3⟩ : ∃ wx, wx = w2.alloc (.cells #[.int .i64 0, .int .i64 0, .int .i64 0, .int .i64 0, .int .i64 0, .int .i64 0] 25) := ⟨_, rfl⟩
  have k3 : Kept [] w2 w3 := by rw [hw3]; exact (Kept.refl [] w2).alloc _
  have B3 : Blk w3 w2.heap.size 25 [.int .i64 0, .int .i64 0, .int .i64 0, .int .i64 0, .int .i64 0, .int .i64 0] := by rw [hw3]; exact Blk.new w2 _ _
  obtain ⟨w4, hw4⟩ : ∃ wx, wx = w2.alloc (.cells #[.int .i64 d0.pages, .int .i64 d0.slots, .int .i64 d0.log, .int .i64 d0.frames, .int .i64 d0.table, .int .i64 d0.keys] 25) := ⟨_, rfl⟩
  have k4 : Kept [] w2 w4 := by rw [hw4]; exact (Kept.refl [] w2).alloc _
  have B4 : Blk w4 w2.heap.size 25 [.int .i64 d0.pages, .int .i64 d0.slots, .int .i64 d0.log, .int .i64 d0.frames, .int .i64 d0.table, .int .i64 d0.keys] := by rw [hw4]; exact Blk.new w2 _ _
  clear k3 B3 hw3
  go_upto_region 2 with fail
  rw [← hw4]
  clear hw4
  obtain ⟨gd, hgd⟩ : ∃ gd, gd = w2.heap.size := ⟨_, rfl⟩
  rw [← hgd] at B4 ⊢
  have HGD := @hideH _ (show w.heap.size ≤ gd by rw [hgd]; exact HK2.out.size)
  clear hgd
  have z4 := B4.cell (j := 4) rfl
  have f4 := B4.free 4
  obtain ⟨w5, hw5⟩ : ∃ wx, wx = w4.setCell ⟨gd, 4, none⟩ (.int .i64 8) := ⟨_, rfl⟩
  obtain ⟨B5, k5⟩ := B4.set 4 (.int .i64 8)
  rw [← hw5] at B5 k5
  go_upto_region 3 with fail
  rw [← hw5]
  clear hw5 z4 f4
  have z2 := B5.cell (j := 2) rfl
  have f2 := B5.free 2
  obtain ⟨w6, hw6⟩ : ∃ wx, wx = w5.setCell ⟨gd, 2, none⟩ (.int .i64 65536) := ⟨_, rfl⟩
  obtain ⟨B6, k6⟩ := B5.set 2 (.int .i64 65536)
  rw [← hw6] at B6 k6
  go_upto_region 4 with fail
  rw [← hw6]
  clear hw6 z2 f2
  obtain ⟨d, hd⟩ : ∃ d, d = apC d0 := ⟨_, rfl⟩
  have HD := @hideH _ (show d.table = 8 ∧ d.log = 65536 by rw [hd]; exact ⟨rfl, rfl⟩)
  have HB6 := @hideH _ (show Blk w6 gd 25 (cfV d) ∧ Kept [] w w6 from ⟨by rw [hd]; exact B6, (HK2.out.then k4).trans (k5.trans k6 (fun x hx => .inl hx)) (fun x hx => by simp at hx; subst hx; exact .inr HGD.out)⟩)
  rw [← hd] at HM
  clear B4 B5 B6 k4 k5 k6 hd HK2
  have y0 := HB6.out.1.cell (j := 0) rfl
  have y1 := HB6.out.1.cell (j := 1) rfl
  have y2 := HB6.out.1.cell (j := 2) rfl
  have y3 := HB6.out.1.cell (j := 3) rfl
  have y4 := HB6.out.1.cell (j := 4) rfl
  have y5 := HB6.out.1.cell (j := 5) rfl
  have HQ := @hideH _ (played_any O d _ ss _ (O.vkept HV.out HB6.out.2 (by simp)) (HS.out.kept HB6.out.2) (by have := HN.out; omega) HM.out)
  rw [← HN.out.1] at HQ
  go_wp2_with fail
  refine HQ.out.mono ?_
  clear HQ y0 y1 y2 y3 y4 y5
  rintro e w7 ⟨g, rfl, F, p7⟩
  obtain ⟨S, hS⟩ : ∃ S, S = playS d ⟨[], [], 0⟩ ss := ⟨_, rfl⟩
  rw [← hS] at p7
  clear hS
  have HM7 := @hideH _ (M18.start HB6.out.2 HB6.out.1 HGD.out p7)
  clear p7 HS HB6 HV
  go_wp2_with fail
  refine (alive_any O _ HM7.out.b.v).mono ?_
  rintro e w8 ⟨rfl, k8⟩
  have HM8 := @hideH _ (HM7.out.then O k8)
  clear HM7 k8
  go_wp2_with fail
  refine (O.ids _ HM8.out.b.v HM8.out.b.p).mono ?_
  rintro e w9 ⟨vi, rfl, ii, k9⟩
  obtain ⟨l, hl⟩ : ∃ l, l = idsS S := ⟨_, rfl⟩
  rw [← hl] at ii
  obtain ⟨pi, ci, hvi, -⟩ := ii.shape
  subst hvi
  obtain ⟨m, hm⟩ : ∃ m, m = l.length := ⟨_, rfl⟩
  rw [← hm] at ii ⊢
  have HM9 := @hideH _ (HM8.out.new O (v := .slice pi m ci) (p := fun a => Ns a 0 (.slice pi m ci) l) k9 (ii.mono (Nat.zero_le _)) (Row.stays _ _ _ _ _) (fun y hy => ii.lt hy))
  have HM1 := @hideH _ (show m = l.length ∧ l = idsS S ∧ m ≤ 8 ∧ OkS d S from ⟨hm, hl, by rw [hm, hl, idsS_length (O.ok HM8.out.b.p)]; exact (O.ok HM8.out.b.p).lenN, O.ok HM8.out.b.p⟩)
  clear hm hl k9 ii HM8
  go_wp2
  go_loopw [12] (fun vi wr => ∃ k : Nat, k ≤ m ∧ vi = .int .i64 k ∧ Hid (∃ F, M18 Ks Vr Pn w wr g d n (abosS S (l.take k)) [(.slice pi m ci, fun a => Ns a 0 (.slice pi m ci) l), boxT gd 25 (cfV d)] F)) (fun vi _ => m - (intOf vi).toNat)
  case atStart => exact ⟨0, Nat.zero_le _, rfl, F, HM9.out⟩
  case round =>
    clear HM9
    obtain ⟨k, hk, rfl, hh⟩ := hrel
    obtain ⟨F, A⟩ := hh.out
    clear hh
    have HAA := @hideH _ A
    clear A
    by_cases hkl : k < m
    · have hkl' : (k : Int) < (m : Int) := by omega
      have hk0 : (0 : Int) ≤ (k : Int) := by omega
      have wk : IntKind.i64.wrap ((k : Int) + 1) = (k : Int) + 1 := wrap_i64_of (by omega) (by have := HM1.out.2.2.1; omega)
      obtain ⟨x, hx⟩ : ∃ x, l[k]? = some x := ⟨_, List.getElem?_eq_getElem (by have := HM1.out.1; omega)⟩
      obtain ⟨gi, hpi, -, -, yy, -⟩ := Ns.at (HAA.out.h (.slice pi m ci, fun a => Ns a 0 (.slice pi m ci) l) (List.mem_cons_self ..)) hx
      subst hpi
      have HXR := @hideH _ (ids_range (S := S) (i := k) (x := x) (by rw [← HM1.out.2.1]; exact hx))
      have HNX := @hideH _ (abos_take S hx)
      have HQ := @hideH _ (O.abort x wr HAA.out.b.v HAA.out.b.p (HAA.out.b.small (by have := HN.out.2; omega)) (by have := HXR.out; unfold I64; omega))
      rw [← HNX.out] at HQ
      have HSZ := @hideH _ (show cnt (abosS S (l.take (k + 1))) ≤ n from Nat.le_trans (by rw [HNX.out]; exact abo_cnt _ _) HAA.out.b.sz)
      clear hx HNX
      go_wp2_with fail
      refine HQ.out.mono ?_
      clear HQ
      rintro e wa ⟨F6, rfl, p6, f6, k6⟩
      have HAY := @hideH _ (HAA.out.go O p6 f6 k6 HSZ.out)
      clear p6 f6 k6 HAA yy
      go_wp2
      go_roundw
      case rel => exact ⟨k + 1, by omega, by go_num, _, HAY.out⟩
      case measure => simp [intOf]; omega
    have hkl' : ¬ (k : Int) < (m : Int) := by omega
    have HTK := @hideH _ (show l.take k = l from List.take_of_length_le (by have := HM1.out.1; omega))
    have hA := HAA.out.tail
    rw [HTK.out] at hA
    have HA1 := @hideH _ hA
    clear hA HAA HTK hkl hk
    have hQ := O.renew wr HA1.out.b.v HA1.out.b.p (HA1.out.b.small (by have := HN.out.2; omega))
    obtain ⟨D, hD⟩ : ∃ D, D = S.done := ⟨_, rfl⟩
    have hRN : renS (abosS S l) = ⟨D, [], 0⟩ := by rw [hD, HM1.out.2.1]; exact ren_abos HM1.out.2.2.2
    rw [hRN] at hQ
    have HQ := @hideH _ hQ
    have HCN := @hideH _ (show D.length + D.flatten.length ≤ n by
      have q := HA1.out.b.sz
      have e1 : (abosS S l).done = D := by rw [hD]; exact abos_done S l
      unfold cnt at q
      rw [e1] at q
      omega)
    clear hQ hRN hD
    go_wp2_with fail
    refine HQ.out.mono ?_
    clear HQ
    rintro e wa ⟨F1, rfl, p1, f1, k1⟩
    have HA2 := @hideH _ (HA1.out.go O (j := n) p1 f1 k1 (by rw [none_cnt]; exact HCN.out))
    clear p1 f1 k1 HA1 HM1
    have hQ := E.entries wa HA2.out.b.v HA2.out.b.p (HA2.out.b.small (by have := HN.out.2; omega))
    rw [show entE ⟨D, [], 0⟩ = 0 from rfl, show entL ⟨D, [], 0⟩ = foldL D from rfl] at hQ
    obtain ⟨le, hle⟩ : ∃ le, le = foldL D := ⟨_, rfl⟩
    rw [← hle] at hQ
    have HQ := @hideH _ hQ
    have HLE := @hideH _ hle
    clear hQ hle
    go_wp2_with fail
    refine HQ.out.mono ?_
    clear HQ
    rintro e wb ⟨ve, rfl, he, kb⟩
    obtain ⟨pe, ce, hve, -⟩ := he.shape
    subst hve
    obtain ⟨ne, hne⟩ : ∃ ne, ne = le.length := ⟨_, rfl⟩
    rw [← hne] at he ⊢
    have HNE := @hideH _ hne
    have HA3 := @hideH _ (HA2.out.new O (v := .slice pe ne ce) (p := fun a => Es a 0 (.slice pe ne ce) le) kb (he.mono (Nat.zero_le _)) (Row.stays _ _ _ _ _) (fun y hy => Row.lt he y hy))
    clear HA2 he kb hne
    go_wp2_with fail
    refine (E.done _ HA3.out.b.v HA3.out.b.p (HA3.out.b.small (by have := HN.out.2; omega))).mono ?_
    rintro e wd ⟨vd, DD, rfl, hdd, hDD, kd⟩
    obtain ⟨pd, cd, hvd, -⟩ := hdd.row.shape
    subst hvd
    have hDl : DD.length = D.length := by have q := congrArg List.length hDD; rw [List.length_map] at q; exact q
    rw [hDl]
    obtain ⟨nD, hnD⟩ : ∃ nD, nD = D.length := ⟨_, rfl⟩
    rw [← hnD]
    have HND := @hideH _ hnD
    have HA4 := @hideH _ (HA3.out.then O kd)
    have HDK := @hideH _ (O.ok HA4.out.b.p).keyD
    have HAB := @hideH _ (av_begin (O.ok HA4.out.b.p) HD.out.1 HD.out.2)
    clear HA3 hdd hDD hDl hnD kd
    go_wp2_with fail
    refine (num_any _ _).mono ?_
    rintro e wq ⟨rfl, hwq⟩
    rw [hwq]
    clear hwq wq
    have hQ := O.begin_ 1 wd HA4.out.b.v HA4.out.b.p (HA4.out.b.small (by have := HN.out.2; omega)) (by unfold I64; omega)
    rw [HAB.out.1, HAB.out.2.1] at hQ
    have HQ := @hideH _ hQ
    clear hQ
    go_wp2_with fail
    refine HQ.out.mono ?_
    clear HQ
    rintro e we ⟨F2, rfl, p2, f2, k2⟩
    have HA5 := @hideH _ (HA4.out.go O (j := n) p2 f2 k2 (by have := HCN.out; unfold cnt; show D.length + D.flatten.length + 0 ≤ n; omega))
    clear p2 f2 k2 HA4
    go_wp2_with fail
    refine (num_any _ _).mono ?_
    rintro e wq ⟨rfl, hwq⟩
    rw [hwq]
    clear hwq wq
    have hQ := O.begin_ 2 we HA5.out.b.v HA5.out.b.p (HA5.out.b.small (by have := HN.out.2; omega)) (by unfold I64; omega)
    rw [HAB.out.2.2.1, HAB.out.2.2.2.1] at hQ
    have HQ := @hideH _ hQ
    clear hQ
    go_wp2_with fail
    refine HQ.out.mono ?_
    clear HQ
    rintro e wf ⟨F3, rfl, p3, f3, k3⟩
    have HA6 := @hideH _ ((HA5.out.go O (j := n + 40) p3 f3 k3 (by rw [two_cnt]; have := HCN.out; show D.length + D.flatten.length + 0 ≤ n + 40; omega)).new O (v := .slice none 0 0) (p := fun a => Cs a w.heap.size (.slice none 0 0) []) (Kept.refl [] wf) (Cs.nil _ _) (Row.stays _ _ _ _ _) (fun y hy => by cases hy))
    have HAV := @hideH _ HAB.out.2.2.2.2
    clear p3 f3 k3 HA5 HAB
    go_wp2_with fail
    refine (num_any _ _).mono ?_
    rintro e wq ⟨rfl, hwq⟩
    rw [hwq]
    clear hwq wq
    go_wp2
    go_loopw [16, 17] (fun vd vi wr => ∃ (k nd : Nat) (pd : Option Addr) (cd : Nat), (k ≤ 40 ∧ k ≤ nk) ∧ vi = .int .i64 k ∧ vd = .slice pd nd cd ∧ Hid (∃ F did ps lens u, nd = did.length ∧ Av d D k did ps lens u ∧ M18 Ks Vr Pn w wr g d (n + 40) (twoS D ps did lens u) [(.slice pd nd cd, fun a => Cs a w.heap.size (.slice pd nd cd) did), (.slice pe ne ce, fun a => Es a 0 (.slice pe ne ce) le), boxT gd 25 (cfV d)] F)) (fun _ vi _ => 40 - (intOf vi).toNat)
    case atStart => exact ⟨0, 0, none, 0, ⟨Nat.zero_le _, Nat.zero_le _⟩, rfl, rfl, F3, [], [], [], 68, rfl, HAV.out, HA6.out⟩
    case round =>
      clear HA6 HAV
      obtain ⟨k, nd, pd, cd, hk, rfl, rfl, hh⟩ := hrel
      obtain ⟨F, did, ps, lens, u, hnd, hav, A⟩ := hh.out
      clear hh
      have HAA := @hideH _ A
      have HAV := @hideH _ (And.intro hnd hav)
      have HKK := @hideH _ hk
      clear A hnd hav hk
      go_upto_region 19 with fail
      go_cut [96] (fun s wx => s = .bool (decide (k < nk ∧ k < 40)) ∧ wx = wr)
      case first =>
        by_cases h1 : k < nk
        · have h1' : (k : Int) < (nk : Int) := by omega
          by_cases h2 : k < 40
          · have h2' : (k : Int) < 40 := by omega
            have h3 : decide (k < nk ∧ k < 40) = true := decide_eq_true ⟨h1, h2⟩
            go_wp2
            go_meet
            case rel => exact ⟨by rw [h3], rfl⟩
          · have h2' : ¬ (k : Int) < 40 := by omega
            have h3 : decide (k < nk ∧ k < 40) = false := decide_eq_false (fun q => h2 q.2)
            go_wp2
            go_meet
            case rel => exact ⟨by rw [h3], rfl⟩
        · have h1' : ¬ (k : Int) < (nk : Int) := by omega
          have h3 : decide (k < nk ∧ k < 40) = false := decide_eq_false (fun q => h1 q.1)
          go_wp2
          go_meet
          case rel => exact ⟨by rw [h3], rfl⟩
      case rest =>
      obtain ⟨rfl, hwc⟩ := hcut
      subst hwc
      by_cases hq : k < nk ∧ k < 40
      · rw [decide_eq_true hq]
        have hk0 : (0 : Int) ≤ (k : Int) := by omega
        have hkn : (k : Int) < (nk : Int) := by omega
        have wk : IntKind.i64.wrap ((k : Int) + 1) = (k : Int) + 1 := wrap_i64_of (by omega) (by omega)
        have HKL := @hideH _ hq
        obtain ⟨x, hx⟩ : ∃ x, ks[k]? = some x := ⟨_, List.getElem?_eq_getElem (by have := HNK.out.1; omega)⟩
        obtain ⟨bk, ok, ck', ek, yk, -⟩ := HI.out.at hx
        have ek' := (Value.slice.inj ek).1
        subst ek'
        clear ek
        replace yk := HAA.out.b.kp.cell yk (by simp)
        have yd := bx_in (gd := gd) (d := d) HAA.out (by simp)
        have HR0 := @hideH _ (show 0 < d.keys ∧ d.keys ≤ 1048576 from HM.out.2.2.2.2.2)
        obtain ⟨kk, hkk⟩ : ∃ kk, kk = x % d.keys := ⟨_, rfl⟩
        have HKR := @hideH _ (show (0 ≤ kk ∧ kk < d.keys) ∧ I64 kk by
          have h1 := HR0.out
          have h2 := Int.emod_nonneg x (show d.keys ≠ 0 by omega)
          have h3 := Int.emod_lt_of_pos x (show 0 < d.keys by omega)
          rw [hkk]
          exact ⟨⟨h2, h3⟩, by unfold I64; omega⟩)
        have HQH := @hideH _ (fun q => Calls.quiet_of_same (w := wc) (n := q) (show Calls Tryz.prog 20 #[.int .i64 x, .int .i64 d.keys] (wc.drewN q) fun e w' => e = .returned (.int .i64 kk) ∧ w' = wc.drewN q by rw [hkk]; exact rest_any x d.keys (wc.drewN q) HR0.out.1 (by have := HR0.out.2; omega)))
        clear hx hq hkk
        go_upto_region 21 with fail
        go_quiet ((go_at_call 20; exact HQH.out _))
        clear HQH yk yd
        obtain ⟨⟨v0, th⟩, hvt⟩ : ∃ p, p = seeA D did kk := ⟨_, rfl⟩
        obtain ⟨ps1, hga, hgs, hav1, hpc⟩ := HAV.out.2.get1' HKR.out.1 hvt
        have HAq := @hideH _ (fun q => HAA.out.then O ((Kept.refl [] wc).drewN' q))
        have hQ := fun q => O.get 1 kk (wc.drewN q) (HAq.out q).b.v (HAq.out q).b.p ((HAq.out q).b.small (by have := HN.out.2; omega)) (by unfold I64; omega) HKR.out.2
        simp only [hga, hgs] at hQ
        have HQ := @hideH _ hQ
        have HA1 := @hideH _ (And.intro hav1 hpc)
        have HVT := @hideH _ hvt
        clear hQ hga hgs hav1 hpc hvt
        go_wp2_with fail
        refine (HQ.out _).mono ?_
        clear HQ
        rintro e wg ⟨Fg, rfl, pg, fg, kg⟩
        have HAg := @hideH _ ((HAq.out _).go O (j := n + 40) pg fg kg (by rw [two_cnt]; have := HA1.out.1.few; have := HCN.out; have := HKL.out; omega))
        clear pg fg kg HAq HAA
        go_wp2_with fail
        refine (num_any _ _).mono ?_
        rintro e wq ⟨rfl, hwq⟩
        rw [hwq]
        clear hwq wq
        have hQ := O.get 2 kk wg HAg.out.b.v HAg.out.b.p (HAg.out.b.small (by have := HN.out.2; omega)) (by unfold I64; omega) HKR.out.2
        rw [(HA1.out.1.get2 HKR.out.1 HA1.out.2).1, (HA1.out.1.get2 HKR.out.1 HA1.out.2).2] at hQ
        have HQ := @hideH _ hQ
        clear hQ
        go_wp2_with fail
        refine HQ.out.mono ?_
        clear HQ
        rintro e wh ⟨Fwh, rfl, pwh, fwh, kwh⟩
        have HAh := @hideH _ (HAg.out.go O (j := n + 40) pwh fwh kwh (by rw [two_cnt]; have := HA1.out.1.few; have := HCN.out; have := HKL.out; omega))
        clear pwh fwh kwh HAg
        go_wp2_with fail
        refine (num_any _ _).mono ?_
        rintro e wq ⟨rfl, hwq⟩
        rw [hwq]
        clear hwq wq
        have wu : IntKind.u64.wrap (k : Int) = (k : Int) := by rw [IntKind.wrap_u64]; have := HKL.out; omega
        obtain ⟨a, ha⟩ : ∃ a, IntKind.u64.wrap (v0 + (k : Int)) = a := ⟨_, rfl⟩
        obtain ⟨v1, hv1⟩ : ∃ v1, IntKind.u64.wrap (a + 1) = v1 := ⟨_, rfl⟩
        have HUP := @hideH _ (show u64 v1 ∧ v1 ≠ (seeA D did kk).1 by
          have q := HAV.out.2.uv kk
          rw [← HVT.out] at q ⊢
          exact u64_up q HKL.out.2 ha hv1)
        have hvv : (v1 != v1) = false := by simp
        have hQ := O.put 1 kk v1 wh HAh.out.b.v HAh.out.b.p (HAh.out.b.small (by have := HN.out.2; omega)) (by unfold I64; omega) HKR.out.2 HUP.out.1
        have HQ0 := @hideH _ hQ
        clear hQ
        rcases HA1.out.1.put HKL.out.2 HKR.out.1 HA1.out.2 HUP.out.1 HUP.out.2 with ⟨e1, e2, e3⟩ | ⟨e1, lens', u', e3, hav2⟩
        · have hth : th = false := by rw [← HVT.out] at e2; exact e2
          subst hth
          have hQ := HQ0.out
          rw [e1, e3] at hQ
          have HQ := @hideH _ hQ
          clear hQ HQ0 e1 e2 e3
          go_wp2_with fail
          refine HQ.out.mono ?_
          clear HQ
          rintro e wp ⟨Fp, rfl, pp, fp, kp⟩
          have HAp := @hideH _ (HAh.out.go O (j := n + 40) pp fp kp (by rw [two_cnt]; have := HA1.out.1.few; have := HCN.out; have := HKL.out; omega))
          clear pp fp kp HAh
          go_wp2_with fail
          refine (num_any _ _).mono ?_
          rintro e wq ⟨rfl, hwq⟩
          rw [hwq]
          clear hwq wq
          go_wp2
          go_roundw
          case rel => exact ⟨k + 1, nd, pd, cd, ⟨by have := HKL.out; omega, by have := HKL.out; omega⟩, by go_num, rfl, _, did, ps1, lens, u, HAV.out.1, HA1.out.1.mono, HAp.out⟩
          case measure => simp [intOf]; have := HKL.out; omega
        · have hQ := HQ0.out
          rw [e1, e3] at hQ
          have HQ := @hideH _ hQ
          have HA2 := @hideH _ hav2
          clear hQ HQ0 e1 e3 hav2
          go_wp2_with fail
          refine HQ.out.mono ?_
          clear HQ
          rintro e wp ⟨Fp, rfl, pp, fp, kp⟩
          have HAp := @hideH _ (HAh.out.go O (j := n + 40) pp fp kp (by rw [two_cnt]; have := HA2.out.few; have := HCN.out; have := HKL.out; omega))
          clear pp fp kp HAh
          go_wp2_with fail
          refine (num_any _ _).mono ?_
          rintro e wq ⟨rfl, hwq⟩
          rw [hwq]
          clear hwq wq
          have hQ := O.get 1 kk wp HAp.out.b.v HAp.out.b.p (HAp.out.b.small (by have := HN.out.2; omega)) (by unfold I64; omega) HKR.out.2
          rw [(HA2.out.get3 HKR.out.1 HA1.out.2).1, (HA2.out.get3 HKR.out.1 HA1.out.2).2] at hQ
          have HQ := @hideH _ hQ
          clear hQ
          go_wp2_with fail
          refine HQ.out.mono ?_
          clear HQ
          rintro e wz ⟨Fwz, rfl, pwz, fwz, kwz⟩
          have HAz := @hideH _ (HAp.out.go O (j := n + 40) pwz fwz kwz (by rw [two_cnt]; have := HA2.out.few; have := HCN.out; have := HKL.out; omega))
          clear pwz fwz kwz HAp
          go_wp2_with fail
          refine (num_any _ _).mono ?_
          rintro e wq ⟨rfl, hwq⟩
          rw [hwq]
          clear hwq wq
          go_wp2_with fail
          refine (num_any _ _).mono ?_
          rintro e wq ⟨rfl, hwq⟩
          rw [hwq]
          clear hwq wq
          have HNN := @hideH _ (show nd ≤ 40 by have h1 := HAV.out.1; have h2 := HAV.out.2.few; have := HKL.out; omega)
          obtain ⟨infC, hin1, hin2, hin3, hin4⟩ := info_parts3 (show (Tryz.prog.info? 50).map (fun i => (i.zero, i.size, i.bytes)) = some (some (.agg #[.int .i64 0, .int .u64 0, .bool false]), 3, 24) by kernel_rfl)
          have HIC := @hideH _ (And.intro hin1 (And.intro hin2 (And.intro hin3 hin4)))
          clear hin1 hin2 hin3 hin4
          have hsrc := src_asC (P := Tryz.prog) wz 48 50 Tryz.underlying48 kk v1 false
          have hrow : Row (wz.alloc (.cells #[.int .i64 kk, .int .u64 v1, .bool false] 50)) w.heap.size 3 (.slice pd nd cd) nd (ccells did) := by have q := Cs.kept (HAz.out.h (.slice pd nd cd, fun a => Cs a w.heap.size (.slice pd nd cd) did) (List.mem_cons_self ..)) ((Kept.refl [] wz).alloc (.cells #[.int .i64 kk, .int .u64 v1, .bool false] 50)) (by simp); unfold Cs at q; rw [← HAV.out.1] at q; exact q
          have hba : w.heap.size ≤ (wz.alloc (.cells #[.int .i64 kk, .int .u64 v1, .bool false] 50)).heap.size := (HAz.out.b.kp.alloc _).size
          go_wp2_with (at_builtin; refine wpList_append_row2 rfl (.tmp 166) (.tmp 170) 48 rfl w.heap.size 50 infC (.agg #[.int .i64 0, .int .u64 0, .bool false]) 3 24 Tryz.underlying48 HIC.out.1 HIC.out.2.1 HIC.out.2.2.1 HIC.out.2.2.2 rfl _ _ _ (by rfl) hrow _ 1 _ (by rfl) hsrc (by have e1 := HNN.out; omega) (by have e1 := HNN.out; unfold maxLen; omega) (by have e1 := HNN.out; omega) hba ?_; intro v' w8' r8 k8 o8; obtain ⟨p8, c8, hv', -⟩ := Row.shape r8; subst hv'; have HA8 := @hideH _ (HAz.out.app O (x := ⟨kk, v1, false⟩) HVL.out ((Kept.refl [] wz).alloc _) (by rw [← HAV.out.1]; exact r8) k8 o8); clear r8 k8 o8 hrow hsrc hba HAz)
          go_roundw
          case rel => exact ⟨k + 1, nd + 1, p8, c8, ⟨by have := HKL.out; omega, by have := HKL.out; omega⟩, by go_num, rfl, _, did ++ [⟨kk, v1, false⟩], ps1, lens', u', by rw [List.length_append, ← HAV.out.1]; rfl, HA2.out, HA8.out⟩
          case measure => simp [intOf]; have := HKL.out; omega
      rw [decide_eq_false hq]
      clear hq
      go_upto_if 173 with fail
      go_cut [16] (fun sd wx => ∃ (nd' : Nat) (pd' : Option Addr) (cd' : Nat), sd = .slice pd' nd' cd' ∧ Hid (∃ F did' D' u', (did'.length = nd' ∧ nd' ≤ 40 ∧ (∀ x ∈ did', okC d x) ∧ OkS d (oneS D' [] u') ∧ foldL (D ++ [did']) = foldL D' ∧ D'.length = D.length + (if bc = true then 1 else 0)) ∧ M18 Ks Vr Pn w wx g d (n + 41) (oneS D' [] u') [(.slice pd' nd' cd', fun a => Cs a w.heap.size (.slice pd' nd' cd') did'), (.slice pe ne ce, fun a => Es a 0 (.slice pe ne ce) le), boxT gd 25 (cfV d)] F))
      case first =>
        cases bc with
        | false =>
          obtain ⟨e1, u', e2, ok2⟩ := HAV.out.2.abort
          have hQ := O.abort 1 wc HAA.out.b.v HAA.out.b.p (HAA.out.b.small (by have := HN.out.2; omega)) (by unfold I64; omega)
          rw [e1, e2] at hQ
          have HQ := @hideH _ hQ
          have HOK := @hideH _ ok2
          clear hQ e1 e2 ok2
          go_wp2_with fail
          refine HQ.out.mono ?_
          clear HQ
          rintro e wp ⟨Fp, rfl, pp, fp, kp⟩
          have HAp := @hideH _ ((HAA.out.go O (j := n + 41) pp fp kp (by rw [one_cnt]; have := HCN.out; omega)).tail.new O (v := .slice none 0 0) (p := fun a => Cs a w.heap.size (.slice none 0 0) []) (Kept.refl [] wp) (Cs.nil _ _) (Row.stays _ _ _ _ _) (fun y hy => by cases hy))
          clear pp fp kp HAA
          go_wp2_with fail
          refine (num_any _ _).mono ?_
          rintro e wq ⟨rfl, hwq⟩
          rw [hwq]
          clear hwq wq
          go_wp2
          go_meet
          case rel => exact ⟨0, none, 0, rfl, Fp, [], D, u', ⟨rfl, Nat.zero_le _, by simp, HOK.out, fold_none D, rfl⟩, HAp.out⟩
        | true =>
          obtain ⟨e1, u', e2, ok2⟩ := HAV.out.2.commit
          have hQ := O.commit 1 wc HAA.out.b.v HAA.out.b.p (HAA.out.b.small (by have := HN.out.2; omega)) (by unfold I64; omega)
          rw [e1, e2] at hQ
          have HQ := @hideH _ hQ
          have HOK := @hideH _ ok2
          clear hQ e1 e2 ok2
          go_wp2_with fail
          refine HQ.out.mono ?_
          clear HQ
          rintro e wp ⟨Fp, rfl, pp, fp, kp⟩
          have HAp := @hideH _ (HAA.out.go O (j := n + 41) pp fp kp (by rw [one_cnt, List.flatten_append, List.length_append, List.length_append]; have h1 := HCN.out; have h2 := HAV.out.2.few; have h3 := HKK.out.1; rw [show ([did] : List (List Chg)).flatten = did by simp, show ([did] : List (List Chg)).length = 1 from rfl]; omega))
          clear pp fp kp HAA
          dsimp only
          go_wp2_with fail
          refine (num_any _ _).mono ?_
          rintro e wq ⟨rfl, hwq⟩
          rw [hwq]
          clear hwq wq
          dsimp only
          go_wp2
          go_meet
          case rel => exact ⟨nd, pd, cd, rfl, Fp, did, D ++ [did], u', ⟨HAV.out.1.symm, by have h1 := HAV.out.1; have h2 := HAV.out.2.few; have h3 := HKK.out.1; omega, HAV.out.2.okD, HOK.out, rfl, by simp⟩, HAp.out⟩
      case rest =>
      obtain ⟨nd', pd', cd', rfl, hh⟩ := hcut
      obtain ⟨F', did', D', u', hX, A⟩ := hh.out
      have HX := @hideH _ hX
      have HB1 := @hideH _ A
      clear hh hX A HAA HAV HKK
      have hCD : D'.length + D'.flatten.length ≤ n + 41 := by have q := HB1.out.b.sz; rw [one_cnt] at q; exact q
      have HCD := @hideH _ hCD
      clear hCD
      have HLL := @hideH _ (show le.length ≤ n by rw [HLE.out]; have h1 := foldL_flat D; have h2 := HCN.out; omega)
      have HQ := @hideH _ (listed_any (.slice pe ne ce) le 0 wc (HB1.out.h (.slice pe ne ce, fun a => Es a 0 (.slice pe ne ce) le) (by simp)) (by have := HLL.out; have := HN.out.2; omega))
      go_wp2_with fail
      refine HQ.out.mono ?_
      clear HQ
      rintro e wl ⟨vl, rfl, hl, kl⟩
      obtain ⟨pl, cl, hvl, -⟩ := hl.shape
      subst hvl
      obtain ⟨nl, hnl⟩ : ∃ nl, nl = (le.map asC).length := ⟨_, rfl⟩
      rw [← hnl] at hl ⊢
      have HB2 := @hideH _ (HB1.out.then O kl)
      obtain ⟨wm, hwm⟩ : ∃ wx, wx = wl.alloc (.cells #[.slice pl nl cl, .slice pd' nd' cd'] 48) := ⟨_, rfl⟩
      have HL2 := @hideH _ (ll_two (w' := wm) (t := 48) (Row.mono hl (Nat.zero_le _)) (Row.mono (HB2.out.h (.slice pd' nd' cd', fun a => Cs a w.heap.size (.slice pd' nd' cd') did') (List.mem_cons_self ..)) (Nat.zero_le _)) rfl rfl hwm)
      have hQ := FO.fold (.slice (some ⟨wl.heap.size, 0, none⟩) 2 2) [(le.map asC, .slice pl nl cl), (did', .slice pd' nd' cd')] wm HL2.out.1 (by
        show ([le.map asC, did'] : List (List Chg)).flatten.length ≤ 3600000000000
        have h1 := HX.out.1; have h2 := HX.out.2.1; have h3 := HLL.out; have h4 := HN.out.2
        simp only [List.flatten_cons, List.flatten_nil, List.append_nil, List.length_append, List.length_map]
        omega) (fun q hq x hx => okC.in64' HM.out (by
        simp at hq
        rcases hq with rfl | rfl
        · rw [HLE.out] at hx; exact foldL_ok HDK.out x hx
        · exact HX.out.2.2.1 x hx))
      have hF : foldL ([(le.map asC, Value.slice pl nl cl), (did', Value.slice pd' nd' cd')].map Prod.fst) = foldL D' := by
        show foldL [le.map asC, did'] = foldL D'
        rw [HLE.out, fold_after]; exact HX.out.2.2.2.2.1
      rw [hF] at hQ
      obtain ⟨la, hla⟩ : ∃ la, la = foldL D' := ⟨_, rfl⟩
      rw [← hla] at hQ
      have HLA := @hideH _ hla
      have HQ := @hideH _ hQ
      clear hQ hF hla hl kl hnl HB1
      go_wp2_with fail
      rw [← hwm]
      clear hwm
      refine HQ.out.mono ?_
      clear HQ
      rintro e wn ⟨va, rfl, hva, kn⟩
      obtain ⟨pa, ca, hvv, -⟩ := hva.shape
      subst hvv
      obtain ⟨na, hna⟩ : ∃ na, na = la.length := ⟨_, rfl⟩
      rw [← hna] at hva ⊢
      have HB3 := @hideH _ ((HB2.out.tail.tail.then O HL2.out.2).new O (v := .slice pa na ca) (p := fun a => Es a 0 (.slice pa na ca) la) kn (hva.mono (Nat.zero_le _)) (Row.stays _ _ _ _ _) (fun y hy => Row.lt hva y hy))
      clear hva kn hna HL2 HB2
      go_wp2
      go_loopw [29] (fun vi wr => ∃ k : Nat, (k ≤ 40 ∧ k ≤ nk) ∧ vi = .int .i64 k ∧ Hid (∃ F ps u, OkS d (oneS D' ps u) ∧ M18 Ks Vr Pn w wr g d (n + 41) (oneS D' ps u) [(.slice pa na ca, fun a => Es a 0 (.slice pa na ca) la), boxT gd 25 (cfV d)] F)) (fun vi _ => 40 - (intOf vi).toNat)
      case atStart => exact ⟨0, ⟨Nat.zero_le _, Nat.zero_le _⟩, rfl, F', [], u', HX.out.2.2.2.1, HB3.out⟩
      case round =>
        clear HB3
        obtain ⟨j, hj, rfl, hh⟩ := hrel
        obtain ⟨F, ps, u, ok, A⟩ := hh.out
        have HOK := @hideH _ ok
        have HB4 := @hideH _ A
        have HJJ := @hideH _ hj
        clear hh ok A hj
        go_upto_region 44 with fail
        obtain ⟨wo, hwo⟩ : ∃ wo, wo = wr := ⟨_, rfl⟩
        rw [← hwo] at HB4 ⊢
        clear hwo
        go_cut [194] (fun s wx => s = .bool (decide (j < nk ∧ j < 40)) ∧ wx = wo)
        case first =>
          by_cases h1 : j < nk
          · have h1' : (j : Int) < (nk : Int) := by omega
            by_cases h2 : j < 40
            · have h2' : (j : Int) < 40 := by omega
              have h3 : decide (j < nk ∧ j < 40) = true := decide_eq_true ⟨h1, h2⟩
              go_wp2
              go_meet
              case rel => exact ⟨by rw [h3], rfl⟩
            · have h2' : ¬ (j : Int) < 40 := by omega
              have h3 : decide (j < nk ∧ j < 40) = false := decide_eq_false (fun q => h2 q.2)
              go_wp2
              go_meet
              case rel => exact ⟨by rw [h3], rfl⟩
          · have h1' : ¬ (j : Int) < (nk : Int) := by omega
            have h3 : decide (j < nk ∧ j < 40) = false := decide_eq_false (fun q => h1 q.1)
            go_wp2
            go_meet
            case rel => exact ⟨by rw [h3], rfl⟩
        case rest =>
        obtain ⟨rfl, hwc⟩ := hcut
        subst hwc
        by_cases hq : j < nk ∧ j < 40
        · rw [decide_eq_true hq]
          have hj0 : (0 : Int) ≤ (j : Int) := by omega
          have hjn : (j : Int) < (nk : Int) := by omega
          have wj : IntKind.i64.wrap ((j : Int) + 1) = (j : Int) + 1 := wrap_i64_of (by omega) (by omega)
          have HJL := @hideH _ hq
          obtain ⟨x, hx⟩ : ∃ x, ks[j]? = some x := ⟨_, List.getElem?_eq_getElem (by have := HNK.out.1; omega)⟩
          obtain ⟨bk, ok, ck', ek, yk, -⟩ := HI.out.at hx
          have ek' := (Value.slice.inj ek).1
          subst ek'
          clear ek
          replace yk := HB4.out.b.kp.cell yk (by simp)
          have yd := bx_in (gd := gd) (d := d) HB4.out (by simp)
          have HR0 := @hideH _ (show 0 < d.keys ∧ d.keys ≤ 1048576 from HM.out.2.2.2.2.2)
          obtain ⟨kk, hkk⟩ : ∃ kk, kk = x % d.keys := ⟨_, rfl⟩
          have HKR := @hideH _ (show (0 ≤ kk ∧ kk < d.keys) ∧ I64 kk by
            have h1 := HR0.out
            have h2 := Int.emod_nonneg x (show d.keys ≠ 0 by omega)
            have h3 := Int.emod_lt_of_pos x (show 0 < d.keys by omega)
            rw [hkk]
            exact ⟨⟨h2, h3⟩, by unfold I64; omega⟩)
          have HQH := @hideH _ (fun q => Calls.quiet_of_same (w := wc) (n := q) (show Calls Tryz.prog 20 #[.int .i64 x, .int .i64 d.keys] (wc.drewN q) fun e w' => e = .returned (.int .i64 kk) ∧ w' = wc.drewN q by rw [hkk]; exact rest_any x d.keys (wc.drewN q) HR0.out.1 (by have := HR0.out.2; omega)))
          clear hx hq hkk
          go_upto_region 46 with fail
          go_quiet ((go_at_call 20; exact HQH.out _))
          clear HQH yk yd
          obtain ⟨hga, ps1, hgs, ok1⟩ := one_get HOK.out HKR.out.1
          have HAq := @hideH _ (fun q => HB4.out.then O ((Kept.refl [] wc).drewN' q))
          have hQ := fun q => O.get 2 kk (wc.drewN q) (HAq.out q).b.v (HAq.out q).b.p ((HAq.out q).b.small (by have := HN.out.2; omega)) (by unfold I64; omega) HKR.out.2
          obtain ⟨v0, hv0⟩ : ∃ v0, v0 = (seesD D' kk).1 := ⟨_, rfl⟩
          obtain ⟨th, hth⟩ : ∃ th, th = (seesD D' kk).2 := ⟨_, rfl⟩
          simp only [hga, hgs, ← hv0, ← hth] at hQ
          have HHAS := @hideH _ (show hasE la kk v0 = th by rw [HLA.out, hv0, hth]; exact (has_sees D' kk).symm)
          have htt : (th != th) = false := by simp
          have HQ := @hideH _ hQ
          have HO1 := @hideH _ ok1
          clear hQ hga hgs ok1 hv0 hth
          go_wp2_with fail
          refine (HQ.out _).mono ?_
          clear HQ
          rintro e wg ⟨Fg, rfl, pg, fg, kg⟩
          have HBg := @hideH _ ((HAq.out _).go O (j := n + 41) pg fg kg (by rw [one_cnt]; exact HCD.out))
          clear pg fg kg HAq HB4
          go_wp2_with fail
          refine (num_any _ _).mono ?_
          rintro e wq ⟨rfl, hwq⟩
          rw [hwq]
          clear hwq wq
          have hQ := has_any (.slice pa na ca) la kk v0 0 wg (HBg.out.h (.slice pa na ca, fun a => Es a 0 (.slice pa na ca) la) (List.mem_cons_self ..))
          rw [HHAS.out] at hQ
          have HQ := @hideH _ hQ
          clear hQ
          go_wp2_with fail
          refine HQ.out.mono ?_
          clear HQ
          rintro e wh ⟨rfl, kh⟩
          have HBh := @hideH _ (HBg.out.then O kh)
          clear kh HBg
          go_wp2
          go_roundw
          case rel => exact ⟨j + 1, ⟨by have := HJL.out; omega, by have := HJL.out; omega⟩, by go_num, _, ps1, u, HO1.out, HBh.out⟩
          case measure => simp [intOf]; have := HJL.out; omega
        rw [decide_eq_false hq]
        clear hq
        obtain ⟨e1, u2, e2⟩ := one_commit HOK.out
        have hQ := O.commit 2 wc HB4.out.b.v HB4.out.b.p (HB4.out.b.small (by have := HN.out.2; omega)) (by unfold I64; omega)
        rw [e1, e2] at hQ
        have HQ := @hideH _ hQ
        clear hQ e1 e2
        go_wp2_with fail
        refine HQ.out.mono ?_
        clear HQ
        rintro e wp ⟨Fp, rfl, pp, fp, kp⟩
        have HB5 := @hideH _ (HB4.out.go O (j := n + 42) pp fp kp (by rw [none_cnt, List.flatten_append, List.length_append, List.length_append]; have := HCD.out; show D'.length + 1 + (D'.flatten.length + 0) ≤ n + 42; omega))
        clear pp fp kp HB4
        go_wp2_with fail
        refine (num_any _ _).mono ?_
        rintro e wq ⟨rfl, hwq⟩
        rw [hwq]
        clear hwq wq
        have hQ := E.entries wp HB5.out.b.v HB5.out.b.p (HB5.out.b.small (by have := HN.out.2; omega))
        rw [show entE ⟨D' ++ [[]], [], u2⟩ = 0 from rfl, show entL ⟨D' ++ [[]], [], u2⟩ = la by rw [HLA.out]; exact fold_none D'] at hQ
        have HQ := @hideH _ hQ
        clear hQ
        go_wp2_with fail
        refine HQ.out.mono ?_
        clear HQ
        rintro e wq' ⟨ve, rfl, he, kq⟩
        have HE := @hideH _ he
        have HB6 := @hideH _ (HB5.out.then O kq)
        clear he kq HB5
        obtain ⟨pz, cz, hvz, -⟩ := HE.out.shape
        subst hvz
        have w1' : IntKind.i64.wrap ((nD : Int) + 1) = (nD : Int) + 1 := wrap_i64_of (by omega) (by have h1 := HND.out; have h2 := HCN.out; have h3 := HN.out.2; omega)
        have w2' : IntKind.i64.wrap ((nD : Int) + 1 + 1) = (nD : Int) + 1 + 1 := wrap_i64_of (by omega) (by have h1 := HND.out; have h2 := HCN.out; have h3 := HN.out.2; omega)
        cases bc with
        | false =>
          go_wp2_with fail
          refine (num_any _ _).mono ?_
          rintro e wq ⟨rfl, hwq⟩
          rw [hwq]
          clear hwq wq
          go_wp2_with fail
          refine (entries_eq _ _ la _ _ _ HE.out (HB6.out.h (.slice pa na ca, fun a => Es a 0 (.slice pa na ca) la) (List.mem_cons_self ..))).mono ?_
          rintro e wt ⟨rfl, kt⟩
          have HB7 := @hideH _ (HB6.out.then O kt)
          clear kt HB6
          go_wp2_with fail
          refine (E.done _ HB7.out.b.v HB7.out.b.p (HB7.out.b.small (by have := HN.out.2; omega))).mono ?_
          rintro e wu' ⟨vd, DD, rfl, hdd, hDD, kd⟩
          obtain ⟨pd2, cd2, hvd, -⟩ := hdd.row.shape
          subst hvd
          have hDl : DD.length = nD + 1 := by have q := congrArg List.length hDD; rw [List.length_map, List.length_append] at q; have h1 := HX.out.2.2.2.2.2; have h2 := HND.out; simp at q h1; omega
          rw [hDl]
          have HKF := @hideH _ ((HB7.out.then O kd).b.kp)
          clear hdd hDD hDl kd HB7
          go_wp2
          go_ret
          exact ⟨by first | (simp; done) | (simp; omega), HKF.out⟩
        | true =>
          go_wp2_with fail
          refine (num_any _ _).mono ?_
          rintro e wq ⟨rfl, hwq⟩
          rw [hwq]
          clear hwq wq
          go_wp2_with fail
          refine (entries_eq _ _ la _ _ _ HE.out (HB6.out.h (.slice pa na ca, fun a => Es a 0 (.slice pa na ca) la) (List.mem_cons_self ..))).mono ?_
          rintro e wt ⟨rfl, kt⟩
          have HB7 := @hideH _ (HB6.out.then O kt)
          clear kt HB6
          go_wp2_with fail
          refine (E.done _ HB7.out.b.v HB7.out.b.p (HB7.out.b.small (by have := HN.out.2; omega))).mono ?_
          rintro e wu' ⟨vd, DD, rfl, hdd, hDD, kd⟩
          obtain ⟨pd2, cd2, hvd, -⟩ := hdd.row.shape
          subst hvd
          have hDl : DD.length = nD + 2 := by have q := congrArg List.length hDD; rw [List.length_map, List.length_append] at q; have h1 := HX.out.2.2.2.2.2; have h2 := HND.out; simp at q h1; omega
          rw [hDl]
          have HKF := @hideH _ ((HB7.out.then O kd).b.kp)
          clear hdd hDD hDl kd HB7
          go_wp2
          go_ret
          exact ⟨by first | (simp; done) | (simp; omega), HKF.out⟩
end Go.Proofs.YtnjfahgmebmakaaGreatDoor

