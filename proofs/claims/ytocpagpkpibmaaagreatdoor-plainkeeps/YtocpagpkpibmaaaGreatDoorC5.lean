import Derived.Test.YtocpagpkpibmaaaGreatDoorC4
/-
  OWN WORK (by mkpnv.py). The law: PlainSerial, for any State.
-/
namespace Go.Proofs.YtocpagpkpibmaaaGreatDoor
open Go.RowKit
set_option linter.unusedVariables false
set_option linter.unusedSimpArgs false

section
variable {P : Program} {ops : Array Oper} {Q : Exit → Act → World → Prop} {md : Region.Mode} {S : World → Prop} {z : Nat}
theorem unwanted {o : Oper} {ops : Array Oper} {tmps : Array Value} {j dj : Nat} {oj : Oper} (hg : o.guard = some (j, true)) (hj : ops[j]? = some oj) (hd : oj.dst = some dj) (ht : tmps[dj]? = some (.bool false)) : Region.wanted o (yielded ops tmps) = false := by
  unfold Region.wanted yielded
  rw [hg]
  simp only [hj, Option.bind_some, hd, ht]
  rfl
/-- number i is not wanted -/
theorem wpAnyZ_skipD (i : Nat) {oi : Oper} {n : Nat} {listed : Array Bool} {a : Act} {w : World} (hi : ops[i]? = some oi)
    (hs : Region.noSelect ops = true) (hz : listed.getD z true = true) (hf : Region.free md ops listed i = true) (hr : (Region.ready md ops listed).contains i = true)
    (hQ : ∀ c a w, Q (.panic c) (a.put oi.dst undef) w → Q (.panic c) a w) (hw : Region.wanted oi (yielded ops a.tmps) = false) (hS : S w)
    (h : wpAnyZ P md ops Q S z n (listed.setIfInBounds i true) (a.put oi.dst undef) w) : wpAnyZ P md ops Q S z (n + 1) listed a w :=
  wpAnyZ_firstD hi (Region.noSelect_spec hs) hQ n listed a w hz (Region.free_spec hi hf) (by simpa using hr) (.inr ⟨hw, rfl⟩) hS h
end
theorem okC.in64 {c : Cf} {x : Chg} (hm : mayC c) (h : okC c x) : I64 x.key ∧ u64 x.val := by
  have := hm.2.2.2.2.2.2
  obtain ⟨⟨h1, h2⟩, h3⟩ := h
  exact ⟨by unfold I64; omega, h3⟩
theorem cnt_flat {S : St} (h : small S) : S.done.flatten.length ≤ 3600000000000 := by unfold small cnt at h; omega
/-- the State is there, and a list of numbers that is none of its blocks -/
structure H18 (Ks : List Nat) (Vr : World → Prop) (Pn : World → Nat → List Nat → Cf → St → Prop) (w wr : World) (g : Nat) (c : Cf) (k : Nat) (S : St) (v : Value) (l : List Int) (F : List Nat) : Prop where
  b : B18 Ks Vr Pn w wr g c k F S
  n : Ns wr w.heap.size v l
  ap : ∀ x, v.ownBlock = some x → x ∉ F
theorem H18.then {Ks : List Nat} {Vr : World → Prop} {Pn : World → Nat → List Nat → Cf → St → Prop} (O : PnOps Ks Vr Pn) {w wr w' : World} {g : Nat} {c : Cf} {k : Nat} {S : St} {v : Value} {l : List Int} {F : List Nat} (h : H18 Ks Vr Pn w wr g c k S v l F) (kk : Kept [] wr w') : H18 Ks Vr Pn w w' g c k S v l F :=
  ⟨h.b.then O kk, h.n.kept kk (by simp), h.ap⟩
theorem H18.go {Ks : List Nat} {Vr : World → Prop} {Pn : World → Nat → List Nat → Cf → St → Prop} (O : PnOps Ks Vr Pn) {w wr w' : World} {g : Nat} {c : Cf} {k j : Nat} {S S' : St} {v : Value} {l : List Int} {F F' : List Nat} (h : H18 Ks Vr Pn w wr g c k S v l F) (p : Pn w' g F' c S') (f : Fr wr F F') (kk : Kept F wr w') (hj : cnt S' ≤ j) : H18 Ks Vr Pn w w' g c j S' v l F' :=
  ⟨h.b.go O p f kk hj, h.n.kept kk h.ap, fun x hx hm => by
    rcases f x hm with q | q
    · exact h.ap x hx q
    · have := (h.n.lt hx).2; omega⟩
variable {Ks : List Nat} {Vr : World → Prop} {Pn : World → Nat → List Nat → Cf → St → Prop} (O : PnOps Ks Vr Pn) (E : PnTel Vr Pn) (FO : PnFold)
include O E FO
set_option maxRecDepth 20000 in
set_option maxHeartbeats 12800000 in
theorem plainSerial_walk (c : Cf) (v : Value) (ss : List OpR) (w : World) (hv : Vr w) (hS : Ops w v ss) (hL : ss.length ≤ 3600000000000) : Calls Tryz.prog 3 #[.agg #[.int .i64 c.pages, .int .i64 c.slots, .int .i64 c.log, .int .i64 c.frames, .int .i64 c.table, .int .i64 c.keys], v] w fun e w' => e = .returned (.bool true) ∧ Kept [] w w' := by
  obtain ⟨ps, cs, hvs, hml⟩ := hS.shape
  subst hvs
  obtain ⟨n, hn⟩ : ∃ n, n = ss.length := ⟨_, rfl⟩
  have HS := @hideH _ hS
  have HN := @hideH _ (show n = ss.length ∧ n ≤ 3600000000000 from ⟨hn, by omega⟩)
  rw [← hn]
  have HV := @hideH _ hv
  clear hS hml hn hL hv
  obtain ⟨w1, hw1⟩ : ∃ wx, wx = w.alloc (.cells #[.int .i64 c.pages, .int .i64 c.slots, .int .i64 c.log, .int .i64 c.frames, .int .i64 c.table, .int .i64 c.keys] 25) := ⟨_, rfl⟩
  have k1 : Kept [] w w1 := by rw [hw1]; exact (Kept.refl [] w).alloc _
  have B : Blk w1 w.heap.size 25 [.int .i64 c.pages, .int .i64 c.slots, .int .i64 c.log, .int .i64 c.frames, .int .i64 c.table, .int .i64 c.keys] := by rw [hw1]; exact Blk.new w _ _
  have c0 := B.cell (j := 0) rfl
  have c1 := B.cell (j := 1) rfl
  have c2 := B.cell (j := 2) rfl
  have c3 := B.cell (j := 3) rfl
  have c4 := B.cell (j := 4) rfl
  have c5 := B.cell (j := 5) rfl
  have HK1 := @hideH _ k1
  clear B k1
  go_enter Tryz.func3, Tryz.ntmps3
  go_upto_region 1 with fail
  rw [← hw1]
  clear hw1
  go_wp2_with fail
  refine (may_any c _).mono ?_
  rintro e w2 ⟨rfl, k2⟩
  clear c0 c1 c2 c3 c4 c5
  obtain ⟨d, hd⟩ : ∃ d, d = mayF c := ⟨_, rfl⟩
  rw [← hd]
  have HM := @hideH _ (show mayC d by rw [hd]; exact mayF_may c)
  clear hd
  have HK2 := @hideH _ (HK1.out.then k2)
  clear k2
  have HQ := @hideH _ (played_any O d _ ss _ (O.vkept HV.out HK2.out (by simp)) (HS.out.kept HK2.out) (by have := HN.out; omega) HM.out)
  rw [← HN.out.1] at HQ
  go_wp2_with fail
  refine HQ.out.mono ?_
  clear HQ
  rintro e w4 ⟨g, rfl, F, p4⟩
  obtain ⟨S, hS⟩ : ∃ S, S = playS d ⟨[], [], 0⟩ ss := ⟨_, rfl⟩
  rw [← hS] at p4
  clear hS
  have HB4 := @hideH _ (show B18 Ks Vr Pn w w4 g d n F S from ⟨p4.p, p4.v, HK2.out.then p4.kp, fun x hx => Nat.le_trans HK2.out.size (p4.lo x hx), p4.sz⟩)
  clear p4 HS HK1 HK2 HV
  go_wp2_with fail
  refine (alive_any O _ HB4.out.v).mono ?_
  rintro e w5 ⟨rfl, k5⟩
  have HB5 := @hideH _ (HB4.out.then O k5)
  clear HB4 k5
  go_wp2_with fail
  refine (O.ids _ HB5.out.v HB5.out.p).mono ?_
  rintro e w6 ⟨vi, rfl, ii, k6⟩
  obtain ⟨l, hl⟩ : ∃ l, l = idsS S := ⟨_, rfl⟩
  rw [← hl] at ii
  obtain ⟨pi, ci, hvi, -⟩ := ii.shape
  subst hvi
  obtain ⟨m, hm⟩ : ∃ m, m = l.length := ⟨_, rfl⟩
  rw [← hm] at ii ⊢
  have HA6 := @hideH _ (show H18 Ks Vr Pn w w6 g d n S (.slice pi m ci) l F from ⟨HB5.out.then O k6, ii.mono HB5.out.kp.size, fun x hx hF => by
    have := O.lt HB5.out.p x hF
    have := (ii.lt hx).1
    omega⟩)
  have HM1 := @hideH _ (show m = l.length ∧ l = idsS S ∧ m ≤ 8 ∧ OkS d S from ⟨hm, hl, by rw [hm, hl, idsS_length (O.ok HB5.out.p)]; exact (O.ok HB5.out.p).lenN, O.ok HB5.out.p⟩)
  clear hm hl HB5 k6 ii
  go_wp2
  go_loopw [7] (fun vi wr => ∃ k : Nat, k ≤ m ∧ vi = .int .i64 k ∧ Hid (∃ F, H18 Ks Vr Pn w wr g d n (abosS S (l.take k)) (.slice pi m ci) l F)) (fun vi _ => m - (intOf vi).toNat)
  case atStart => exact ⟨0, Nat.zero_le _, rfl, F, HA6.out⟩
  case round =>
    clear HA6
    obtain ⟨k, hk, rfl, hh⟩ := hrel
    obtain ⟨F, A⟩ := hh.out
    clear hh
    have HAA := @hideH _ A
    clear A
    by_cases hkl : k < m
    rotate_left
    · have hkl' : ¬ (k : Int) < (m : Int) := by omega
      have HTK := @hideH _ (show l.take k = l from List.take_of_length_le (by have := HM1.out.1; omega))
      obtain ⟨S', hS'⟩ : ∃ S', S' = abosS S l := ⟨_, rfl⟩
      have HB7 := @hideH _ (show B18 Ks Vr Pn w wr g d n F S' by have q := HAA.out.b; rw [HTK.out, ← hS'] at q; exact q)
      have HO := @hideH _ (show S'.opn = [] by rw [hS', HM1.out.2.1]; exact abos_all HM1.out.2.2.2)
      have HSM := @hideH _ (HB7.out.small HN.out.2)
      have HKC := @hideH _ (O.ok HB7.out.p)
      clear hS' HAA HTK
      have HQ := @hideH _ (E.entries _ HB7.out.v HB7.out.p HSM.out)
      rw [show entE S' = 0 by unfold entE; rw [if_pos HO.out], show entL S' = foldL S'.done by unfold entL; rw [if_pos HO.out]] at HQ
      go_wp2_with fail
      refine HQ.out.mono ?_
      clear HQ
      rintro e w8 ⟨ve, rfl, he, k8⟩
      have HE8 := @hideH _ he
      have HB8 := @hideH _ (HB7.out.then O k8)
      clear HB7 k8 he
      go_wp2_with fail
      refine (num_any _ _).mono ?_
      rintro e wb ⟨rfl, hwb⟩
      rw [hwb]
      clear hwb
      go_wp2_with fail
      refine (E.done _ HB8.out.v HB8.out.p HSM.out).mono ?_
      rintro e w9 ⟨vd, D, rfl, hd, hD, k9⟩
      have HD9 := @hideH _ hd.ll
      have HD := @hideH _ hD
      have HE9 := @hideH _ (HE8.out.kept k9 (by simp))
      have HB9 := @hideH _ (HB8.out.then O k9)
      clear HB8 k9 HE8 hd hD
      have HQ := @hideH _ (FO.fold vd D _ HD9.out (by rw [HD.out]; exact cnt_flat HSM.out) (fun q hq x hx => okC.in64 HM.out (HKC.out.keyD q.1 (by rw [← HD.out]; exact List.mem_map_of_mem hq) x hx)))
      rw [HD.out] at HQ
      go_wp2_with fail
      refine HQ.out.mono ?_
      clear HQ
      rintro e wA ⟨vf, rfl, hf, kA⟩
      have HFA := @hideH _ hf
      have HEA := @hideH _ (HE9.out.kept kA (by simp))
      have HBA := @hideH _ (HB9.out.then O kA)
      clear HB9 HE9 HD9 HD hf kA
      go_wp2_with fail
      refine (entries_eq _ _ _ _ _ _ HEA.out HFA.out).mono ?_
      rintro e wB ⟨rfl, kB⟩
      have HBB := @hideH _ (HBA.out.then O kB)
      clear HBA HEA HFA kB
      go_wp2_with fail
      refine (O.ids _ HBB.out.v HBB.out.p).mono ?_
      rintro e wC ⟨vj, rfl, jj, kC⟩
      rw [idsS_none HO.out] at jj
      obtain ⟨pj, cj, hvj, -⟩ := jj.shape
      subst hvj
      have HKC2 := @hideH _ (HBB.out.kp.then kC)
      clear jj kC HBB
      go_wp2
      go_ret
      exact ⟨by first | rfl | simp, HKC2.out⟩
    have hkl' : (k : Int) < (m : Int) := by omega
    have hk0 : (0 : Int) ≤ (k : Int) := by omega
    have wk : IntKind.i64.wrap ((k : Int) + 1) = (k : Int) + 1 := wrap_i64_of (by omega) (by have := HM1.out.2.2.1; omega)
    obtain ⟨x, hx⟩ : ∃ x, l[k]? = some x := ⟨_, List.getElem?_eq_getElem (by have := HM1.out.1; omega)⟩
    obtain ⟨gi, hpi, -, -, y0, -⟩ := HAA.out.n.at hx
    subst hpi
    have HXR := @hideH _ (ids_range (S := S) (i := k) (x := x) (by rw [← HM1.out.2.1]; exact hx))
    have HNX := @hideH _ (abos_take S hx)
    have HE0 := @hideH _ (show endE (abosS S (l.take k)) x = 0 by have q := abos_next HM1.out.2.2.2 (i := k) (x := x) (by rw [← HM1.out.2.1]; exact hx); rw [← HM1.out.2.1] at q; exact q)
    have HGI := @hideH _ (show gi ∉ F from HAA.out.ap gi rfl)
    have HQ := @hideH _ (fun w6 (h : Vr w6) (h' : Pn w6 g F d (abosS S (l.take k))) => O.abort x w6 h h' (HAA.out.b.small HN.out.2) (by have := HXR.out; unfold I64; omega))
    rw [HE0.out, ← HNX.out] at HQ
    have HSZ := @hideH _ (show cnt (abosS S (l.take (k + 1))) ≤ n from Nat.le_trans (by rw [HNX.out]; exact abo_cnt _ _) HAA.out.b.sz)
    have AX := HAA.out.then O (Kept.refl [] wr).drew
    have kx : Kept F wr wr.drew := ((Kept.refl [] wr).drew).mono (by simp)
    by_cases hz : k = 0
    · have hz1 : decide (0 < k) = false := decide_eq_false (by omega)
      have hz1n : ¬ 0 < k := by omega
      have hz1p : ¬ (0 : Int) < (k : Int) := by omega
      clear hz
      clear hx HNX HE0
      go_upto_region 8 with fail
      refine wp_region_late (fun w' => w'.cell? ⟨gi, k, none⟩ = some (.int .i64 x)) 24 (by kernel_rfl) ?_
      have hS := kx.cell y0 HGI.out
      obtain ⟨wd, hwd⟩ : ∃ x, x = wr.drew := ⟨_, rfl⟩
      rw [← hwd] at hS AX ⊢
      have HAX := @hideH _ AX
      clear hwd kx AX y0 HAA
      refine wpAnyZ_takeD 0 (v := ?v0) rfl (by kernel_rfl) (by rfl) (by kernel_rfl) (by kernel_rfl) (fun _ _ _ h => h) (by rfl) ?hy0 hS ?rest0
      case hy0 => (intro wx hSx; (try dsimp only at hSx); go_simp; (try with_reducible rfl))
      (try simp only [Act.put, List.getElem_toArray, List.getElem_cons_zero, List.getElem_cons_succ, List.setIfInBounds_toArray, List.set_cons_zero, List.set_cons_succ])
      refine wpAnyZ_takeD 1 (v := ?v1) rfl (by kernel_rfl) (by rfl) (by kernel_rfl) (by kernel_rfl) (fun _ _ _ h => h) (by rfl) ?hy1 hS ?rest1
      case hy1 => (intro wx hSx; (try dsimp only at hSx); go_simp; (try with_reducible rfl))
      (try simp only [Act.put, List.getElem_toArray, List.getElem_cons_zero, List.getElem_cons_succ, List.setIfInBounds_toArray, List.set_cons_zero, List.set_cons_succ])
      refine wpAnyZ_takeD 2 (v := ?v2) rfl (by kernel_rfl) (by rfl) (by kernel_rfl) (by kernel_rfl) (fun _ _ _ h => h) (by rfl) ?hy2 hS ?rest2
      case hy2 => (intro wx hSx; (try dsimp only at hSx); go_simp; (try with_reducible rfl))
      (try simp only [Act.put, List.getElem_toArray, List.getElem_cons_zero, List.getElem_cons_succ, List.setIfInBounds_toArray, List.set_cons_zero, List.set_cons_succ])
      refine wpAnyZ_takeD 3 (v := ?v3) rfl (by kernel_rfl) (by rfl) (by kernel_rfl) (by kernel_rfl) (fun _ _ _ h => h) (by rfl) ?hy3 hS ?rest3
      case hy3 => (intro wx hSx; (try dsimp only at hSx); go_simp; (try with_reducible rfl))
      (try simp only [Act.put, List.getElem_toArray, List.getElem_cons_zero, List.getElem_cons_succ, List.setIfInBounds_toArray, List.set_cons_zero, List.set_cons_succ])
      refine wpAnyZ_takeD 4 (v := ?v4) rfl (by kernel_rfl) (by rfl) (by kernel_rfl) (by kernel_rfl) (fun _ _ _ h => h) (by rfl) ?hy4 hS ?rest4
      case hy4 => (intro wx hSx; (try dsimp only at hSx); go_simp; (try with_reducible rfl))
      (try simp only [Act.put, List.getElem_toArray, List.getElem_cons_zero, List.getElem_cons_succ, List.setIfInBounds_toArray, List.set_cons_zero, List.set_cons_succ])
      refine wpAnyZ_one 5 rfl (by kernel_rfl) (fun K hK => ?_)
      go_simp
      refine (HQ.out _ HAX.out.b.v HAX.out.b.p).mono ?_
      rintro e w6 ⟨F6, rfl, p6, f6, k6⟩
      have HAY := @hideH _ (HAX.out.go O p6 f6 k6 HSZ.out)
      replace hS := k6.cell hS HGI.out
      clear p6 f6 k6 HAX HQ
      dsimp only
      refine hK _ _ (fun _ => hS) ?_
      clear hK K
      (try simp only [Act.put, List.getElem_toArray, List.getElem_cons_zero, List.getElem_cons_succ, List.setIfInBounds_toArray, List.set_cons_zero, List.set_cons_succ])
      refine wpAnyZ_one 6 rfl (by kernel_rfl) (fun K hK => ?_)
      go_simp
      refine (num_any _ _).mono ?_
      rintro e wb ⟨rfl, hwb⟩
      rw [hwb]
      clear hwb wb
      dsimp only
      refine hK _ _ (fun _ => hS) ?_
      clear hK K
      (try simp only [Act.put, List.getElem_toArray, List.getElem_cons_zero, List.getElem_cons_succ, List.setIfInBounds_toArray, List.set_cons_zero, List.set_cons_succ])
      refine wpAnyZ_takeD 7 (v := ?v7) rfl (by kernel_rfl) (by rfl) (by kernel_rfl) (by kernel_rfl) (fun _ _ _ h => h) (by rfl) ?hy7 hS ?rest7
      case hy7 => (intro wx hSx; (try dsimp only at hSx); go_simp; (try with_reducible rfl))
      (try simp only [Act.put, List.getElem_toArray, List.getElem_cons_zero, List.getElem_cons_succ, List.setIfInBounds_toArray, List.set_cons_zero, List.set_cons_succ])
      refine wpAnyZ_takeD 8 (v := ?v8) rfl (by kernel_rfl) (by rfl) (by kernel_rfl) (by kernel_rfl) (fun _ _ _ h => h) (by rfl) ?hy8 hS ?rest8
      case hy8 => (intro wx hSx; (try dsimp only at hSx); go_simp; (try with_reducible rfl))
      (try simp only [Act.put, List.getElem_toArray, List.getElem_cons_zero, List.getElem_cons_succ, List.setIfInBounds_toArray, List.set_cons_zero, List.set_cons_succ])
      refine wpAnyZ_takeD 9 (v := ?v9) rfl (by kernel_rfl) (by rfl) (by kernel_rfl) (by kernel_rfl) (fun _ _ _ h => h) (by rfl) ?hy9 hS ?rest9
      case hy9 => (intro wx hSx; (try dsimp only at hSx); go_simp; (try with_reducible rfl))
      (try simp only [Act.put, List.getElem_toArray, List.getElem_cons_zero, List.getElem_cons_succ, List.setIfInBounds_toArray, List.set_cons_zero, List.set_cons_succ])
      refine wpAnyZ_takeD 10 (v := ?v10) rfl (by kernel_rfl) (by rfl) (by kernel_rfl) (by kernel_rfl) (fun _ _ _ h => h) (by rfl) ?hy10 hS ?rest10
      case hy10 => (intro wx hSx; (try dsimp only at hSx); go_simp; (try with_reducible rfl))
      (try simp only [Act.put, List.getElem_toArray, List.getElem_cons_zero, List.getElem_cons_succ, List.setIfInBounds_toArray, List.set_cons_zero, List.set_cons_succ])
      refine wpAnyZ_takeD 11 (v := ?v11) rfl (by kernel_rfl) (by rfl) (by kernel_rfl) (by kernel_rfl) (fun _ _ _ h => h) (by rfl) ?hy11 hS ?rest11
      case hy11 => (intro wx hSx; (try dsimp only at hSx); go_simp; (try with_reducible rfl))
      (try simp only [Act.put, List.getElem_toArray, List.getElem_cons_zero, List.getElem_cons_succ, List.setIfInBounds_toArray, List.set_cons_zero, List.set_cons_succ])
      refine wpAnyZ_skipD 12 rfl (by kernel_rfl) (by rfl) (by kernel_rfl) (by kernel_rfl) (fun _ _ _ h => h) (unwanted (j := 11) (dj := 39) rfl rfl rfl (by rfl)) hS ?_
      (try simp only [Act.put, List.getElem_toArray, List.getElem_cons_zero, List.getElem_cons_succ, List.setIfInBounds_toArray, List.set_cons_zero, List.set_cons_succ])
      refine wpAnyZ_skipD 13 rfl (by kernel_rfl) (by rfl) (by kernel_rfl) (by kernel_rfl) (fun _ _ _ h => h) (unwanted (j := 11) (dj := 39) rfl rfl rfl (by rfl)) hS ?_
      (try simp only [Act.put, List.getElem_toArray, List.getElem_cons_zero, List.getElem_cons_succ, List.setIfInBounds_toArray, List.set_cons_zero, List.set_cons_succ])
      refine wpAnyZ_skipD 14 rfl (by kernel_rfl) (by rfl) (by kernel_rfl) (by kernel_rfl) (fun _ _ _ h => h) (unwanted (j := 11) (dj := 39) rfl rfl rfl (by rfl)) hS ?_
      (try simp only [Act.put, List.getElem_toArray, List.getElem_cons_zero, List.getElem_cons_succ, List.setIfInBounds_toArray, List.set_cons_zero, List.set_cons_succ])
      refine wpAnyZ_skipD 15 rfl (by kernel_rfl) (by rfl) (by kernel_rfl) (by kernel_rfl) (fun _ _ _ h => h) (unwanted (j := 11) (dj := 39) rfl rfl rfl (by rfl)) hS ?_
      (try simp only [Act.put, List.getElem_toArray, List.getElem_cons_zero, List.getElem_cons_succ, List.setIfInBounds_toArray, List.set_cons_zero, List.set_cons_succ])
      refine wpAnyZ_skipD 16 rfl (by kernel_rfl) (by rfl) (by kernel_rfl) (by kernel_rfl) (fun _ _ _ h => h) (unwanted (j := 11) (dj := 39) rfl rfl rfl (by rfl)) hS ?_
      (try simp only [Act.put, List.getElem_toArray, List.getElem_cons_zero, List.getElem_cons_succ, List.setIfInBounds_toArray, List.set_cons_zero, List.set_cons_succ])
      refine wpAnyZ_skipD 17 rfl (by kernel_rfl) (by rfl) (by kernel_rfl) (by kernel_rfl) (fun _ _ _ h => h) (unwanted (j := 11) (dj := 39) rfl rfl rfl (by rfl)) hS ?_
      (try simp only [Act.put, List.getElem_toArray, List.getElem_cons_zero, List.getElem_cons_succ, List.setIfInBounds_toArray, List.set_cons_zero, List.set_cons_succ])
      refine wpAnyZ_skipD 18 rfl (by kernel_rfl) (by rfl) (by kernel_rfl) (by kernel_rfl) (fun _ _ _ h => h) (unwanted (j := 11) (dj := 39) rfl rfl rfl (by rfl)) hS ?_
      (try simp only [Act.put, List.getElem_toArray, List.getElem_cons_zero, List.getElem_cons_succ, List.setIfInBounds_toArray, List.set_cons_zero, List.set_cons_succ])
      refine wpAnyZ_skipD 19 rfl (by kernel_rfl) (by rfl) (by kernel_rfl) (by kernel_rfl) (fun _ _ _ h => h) (unwanted (j := 11) (dj := 39) rfl rfl rfl (by rfl)) hS ?_
      (try simp only [Act.put, List.getElem_toArray, List.getElem_cons_zero, List.getElem_cons_succ, List.setIfInBounds_toArray, List.set_cons_zero, List.set_cons_succ])
      refine wpAnyZ_skipD 20 rfl (by kernel_rfl) (by rfl) (by kernel_rfl) (by kernel_rfl) (fun _ _ _ h => h) (unwanted (j := 11) (dj := 39) rfl rfl rfl (by rfl)) hS ?_
      (try simp only [Act.put, List.getElem_toArray, List.getElem_cons_zero, List.getElem_cons_succ, List.setIfInBounds_toArray, List.set_cons_zero, List.set_cons_succ])
      refine wpAnyZ_skipD 21 rfl (by kernel_rfl) (by rfl) (by kernel_rfl) (by kernel_rfl) (fun _ _ _ h => h) (unwanted (j := 11) (dj := 39) rfl rfl rfl (by rfl)) hS ?_
      (try simp only [Act.put, List.getElem_toArray, List.getElem_cons_zero, List.getElem_cons_succ, List.setIfInBounds_toArray, List.set_cons_zero, List.set_cons_succ])
      refine wpAnyZ_takeD 22 (v := ?v22) rfl (by kernel_rfl) (by rfl) (by kernel_rfl) (by kernel_rfl) (fun _ _ _ h => h) (by rfl) ?hy22 hS ?rest22
      case hy22 => (intro wx hSx; (try dsimp only at hSx); go_simp; (try with_reducible rfl))
      (try simp only [Act.put, List.getElem_toArray, List.getElem_cons_zero, List.getElem_cons_succ, List.setIfInBounds_toArray, List.set_cons_zero, List.set_cons_succ])
      refine wpAnyZ_takeD 23 (v := ?v23) rfl (by kernel_rfl) (by rfl) (by kernel_rfl) (by kernel_rfl) (fun _ _ _ h => h) (by rfl) ?hy23 hS ?rest23
      case hy23 => (intro wx hSx; (try dsimp only at hSx); go_simp; (try with_reducible rfl))
      (try simp only [Act.put, List.getElem_toArray, List.getElem_cons_zero, List.getElem_cons_succ, List.setIfInBounds_toArray, List.set_cons_zero, List.set_cons_succ])
      refine wpAnyZ_done (by kernel_rfl) ?_ _
      clear hS
      go_wp2
      go_roundw
      case rel => exact ⟨k + 1, by omega, by go_num, _, HAY.out⟩
      case measure => simp [intOf]; omega
    · obtain ⟨j, hj⟩ : ∃ j, k = j + 1 := ⟨k - 1, by omega⟩
      have hz1 : decide (0 < k) = true := decide_eq_true (by omega)
      have hz1n : 0 < k := by omega
      have hz1p : (0 : Int) < (k : Int) := by omega
      have wj : IntKind.i64.wrap ((k : Int) - 1) = (j : Int) := by rw [wrap_i64_of (by omega) (by have := HM1.out.2.2.1; omega)]; omega
      have hj0 : (0 : Int) ≤ (j : Int) := by omega
      have hjm : (j : Int) < (m : Int) := by omega
      obtain ⟨y, hy⟩ : ∃ y, l[j]? = some y := ⟨_, List.getElem?_eq_getElem (by have := HM1.out.1; omega)⟩
      obtain ⟨gi', hpi', -, -, y1, -⟩ := HAA.out.n.at hy
      cases hpi'
      have hyx : ¬ x ≤ y := by
        have q := idsS_up S
        rw [← HM1.out.2.1] at q
        obtain ⟨ha, rfl⟩ := List.getElem?_eq_some_iff.1 hx
        obtain ⟨hb, rfl⟩ := List.getElem?_eq_some_iff.1 hy
        have := List.pairwise_iff_getElem.1 q j k hb ha (by omega)
        omega
      clear hx HNX HE0 hy
      have HJ := @hideH _ hj
      clear hj hz
      go_upto_region 8 with fail
      go_region_held3 (fun w' => w'.cell? ⟨gi, k, none⟩ = some (.int .i64 x) ∧ w'.cell? ⟨gi, j, none⟩ = some (.int .i64 y))
        (first
          | (exact ⟨kx.cell y0 HGI.out, kx.cell y1 HGI.out⟩)
          | fail)
        (first
          | (go_at_call 12; refine (HQ.out _ AX.b.v AX.b.p).mono ?_; rintro e w6 ⟨F6, rfl, p6, f6, k6⟩; have AY := AX.go O p6 f6 k6 HSZ.out; replace kx := kx.trans k6 (fun y hy => .inl hy); clear p6 f6 k6)
          | (go_at_call 11; refine (num_any _ _).mono ?_; rintro e wb ⟨rfl, hwb⟩; rw [hwb]; clear hwb)
          | fail)
      have HAY := @hideH _ AY
      clear AX AY kx y0 y1 HQ HAA
      go_wp2
      go_roundw
      case rel => exact ⟨k + 1, by omega, by go_num, _, HAY.out⟩
      case measure => simp [intOf]; omega
end Go.Proofs.YtocpagpkpibmaaaGreatDoor

