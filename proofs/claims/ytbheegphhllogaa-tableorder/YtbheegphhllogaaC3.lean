import Derived.Test.YtbheegphhllogaaC2
/-
  OWN WORK (by mktbb.py). The law: TableOrder.
-/
namespace Go.Proofs.Ytbheegphhllogaa
open Go.RowKit
set_option linter.unusedVariables false
set_option linter.unusedSimpArgs false

theorem findB_drop (S : List RowR) (b : Int) : findB (dropL S b) b = none := findB_none.2 fun x hx => by have := (List.mem_filter.1 hx).2; simpa using this
theorem findI_drop {S : List RowR} (d : Dif S) {b : Int} {x : RowR} (h : findB S b = some x) : findI (dropL S b) x.id = none := findI_none.2 fun y hy e => by
  obtain ⟨h1, h2⟩ := findB_some h
  obtain ⟨h3, h4⟩ := List.mem_filter.1 hy
  have := d.sameI h3 h1 e
  rw [this, h2] at h4
  simp at h4
theorem drop_length {S : List RowR} (d : Dif S) {b : Int} {x : RowR} (h : findB S b = some x) : (dropL S b).length + 1 = S.length := by
  obtain ⟨h1, h2⟩ := findB_some h
  obtain ⟨k, hk, e⟩ := List.getElem_of_mem h1
  rw [dropL_at d (by rw [List.getElem?_eq_getElem hk, e]) h2, List.length_append, List.length_take, List.length_drop]
  omega
theorem drop_ins {m : Int} {S : List RowR} (ok : OkT m S) {b : Int} {x : RowR} (h : findB S b = some x) : insB x (dropL S b) = S := by
  obtain ⟨h1, h2⟩ := findB_some h
  obtain ⟨k, hk, e⟩ := List.getElem_of_mem h1
  have hd := ok.drop b
  refine up_eq (insB_up x _ hd.up fun y hy q => ?_) ok.up ((insB_perm x _).trans ?_)
  · have := findB_none.1 (findB_drop S b) y hy; rw [q, h2] at this; exact this rfl
  · rw [dropL_at ok.dif (by rw [List.getElem?_eq_getElem hk, e]) h2]
    have es : S = S.take k ++ x :: S.drop (k + 1) := by rw [← e, List.getElem_cons_drop]; exact (List.take_append_drop k S).symm
    conv => rhs; rw [es]
    exact List.perm_middle.symm
theorem put_back {m : Int} {S : List RowR} (ok : OkT m S) (h8 : (S.length : Int) ≤ 8) {b : Int} {x : RowR} (h : findB S b = some x) : putE 8 (dropL S b) x = 0 ∧ putT 8 (dropL S b) x = S := by
  obtain ⟨h1, h2⟩ := findB_some h
  have hl := drop_length ok.dif h
  have q := put_ok (m := 8) (l := dropL S b) (ok.right x h1) (by rw [h2]; exact findB_drop S b) (findI_drop ok.dif h) (by omega)
  exact ⟨q.1, by rw [q.2, drop_ins ok h]⟩
theorem put_next {m : Int} {S l Su : List RowR} (ok : OkT m S) (pm : S.Perm l) {t : Nat} {x : RowR} (hx : l[t]? = some x) (ps : Su.Perm (l.drop (t + 1))) : putE 8 Su x = 0 ∧ (putT 8 Su x).Perm (l.drop t) := by
  obtain ⟨ht, e⟩ := List.getElem?_eq_some_iff.1 hx
  have es : l.drop t = x :: l.drop (t + 1) := by rw [← e, List.getElem_cons_drop]
  have d := ok.dif.perm pm
  have hxl : x ∈ l := by rw [← e]; exact List.getElem_mem ht
  have d2 : Dif (l.drop t) := ⟨d.b.sublist (List.drop_sublist _ _), d.i.sublist (List.drop_sublist _ _)⟩
  rw [es] at d2
  have e1 := ok.len
  have e2 := ok.most
  rw [pm.length_eq] at e1
  have q := put_ok (m := 8) (l := Su) (ok.right x (pm.mem_iff.2 hxl)) (findB_none.2 fun y hy q => (List.pairwise_cons.1 d2.b).1 y (ps.mem_iff.1 hy) q.symm) (findI_none.2 fun y hy q => (List.pairwise_cons.1 d2.i).1 y (ps.mem_iff.1 hy) q.symm) (by rw [ps.length_eq, List.length_drop]; omega)
  exact ⟨q.1, by rw [q.2, es]; exact (insB_perm x Su).trans (ps.cons x)⟩
/-- two tables and a list that share nothing -/
structure Ord (Tb : World → Nat → List Nat → Int → List RowR → Prop) (w wr : World) (M : Int) (g : Nat) (F : List Nat) (S : List RowR) (gu : Nat) (Fu : List Nat) (Su : List RowR) (v : Value) (l : List RowR) : Prop where
  t : Tb wr g F M S
  u : Tb wr gu Fu 8 Su
  r : Rw wr w.heap.size v l
  kept : Kept [] w wr
  fo : ∀ x ∈ Fu, w.heap.size ≤ x
  vn : ∀ x, v.ownBlock = some x → x ∉ Fu
  sep : ∀ x ∈ F, x ∉ Fu
theorem Ord.then {Tb : World → Nat → List Nat → Int → List RowR → Prop} (O : TbOps Tb) {w wr : World} {M : Int} {g : Nat} {F : List Nat} {S : List RowR} {gu : Nat} {Fu : List Nat} {Su : List RowR} {v : Value} {l : List RowR} {w' : World} (h : Ord Tb w wr M g F S gu Fu Su v l) (k : Kept [] wr w') : Ord Tb w w' M g F S gu Fu Su v l :=
  ⟨O.kept h.t k (by simp), O.kept h.u k (by simp), h.r.kept k (by simp), h.kept.then k, h.fo, h.vn, h.sep⟩
theorem Ord.step {Tb : World → Nat → List Nat → Int → List RowR → Prop} (O : TbOps Tb) {w wr : World} {M : Int} {g : Nat} {F : List Nat} {S : List RowR} {gu : Nat} {Fu : List Nat} {Su : List RowR} {v : Value} {l : List RowR} {w' : World} {Fu' : List Nat} {Su' : List RowR} (h : Ord Tb w wr M g F S gu Fu Su v l) (u : Tb w' gu Fu' 8 Su') (fr : Fr wr Fu Fu') (k : Kept Fu wr w') : Ord Tb w w' M g F S gu Fu' Su' v l := by
  have hs := h.kept.size
  refine ⟨O.kept h.t k h.sep, u, h.r.kept k h.vn, h.kept.trans k (fun x hx => .inr (h.fo x hx)), fun x hx => ?_, fun x hx hm => ?_, dis_right h.sep fr (O.lt h.t)⟩
  · rcases fr x hx with q | q
    · exact h.fo x q
    · omega
  · rcases fr x hm with q | q
    · exact h.vn x hx q
    · have := (h.r.lt hx).2; omega
/-- a new list in the place of the old one -/
theorem Ord.list {Tb : World → Nat → List Nat → Int → List RowR → Prop} (O : TbOps Tb) {w wr : World} {M : Int} {g : Nat} {F : List Nat} {S : List RowR} {gu : Nat} {Fu : List Nat} {Su : List RowR} {v : Value} {l : List RowR} {w' : World} {v' : Value} {l' : List RowR} (h : Ord Tb w wr M g F S gu Fu Su v l) (r : Rw w' wr.heap.size v' l') (k : Kept [] wr w') : Ord Tb w w' M g F S gu Fu Su v' l' := by
  have h' := h.then O k
  refine ⟨h'.t, h'.u, r.mono h.kept.size, h'.kept, h'.fo, fun x hx hm => ?_, h'.sep⟩
  have := (r.lt hx).1; have := O.lt h.u x hm; omega
theorem right_i64 {x : RowR} (h : rightR x) : x.i64 := by
  obtain ⟨⟨h1, h2⟩, ⟨h3, h4⟩, h5, ⟨h6, h7⟩, h8⟩ := h
  refine ⟨⟨by omega, by omega⟩, ⟨by omega, by omega⟩, ⟨by omega, by omega⟩, ⟨by omega, by omega⟩, ?_⟩
  rcases h8 with q | q
  · exact ⟨by omega, by omega⟩
  · exact ⟨by omega, by omega⟩
set_option maxRecDepth 20000 in
set_option maxHeartbeats 12800000 in
theorem tableOrder_walk {Tb : World → Nat → List Nat → Int → List RowR → Prop} (O : TbOps Tb) (most : Int) (v : Value) (ss : List StepT) (b : Int) (w : World) (hS : Scr w v ss) (hb : I64 b) : Calls Try.prog 4 #[.int .i64 most, v, .int .i64 b] w fun e w' => e = .returned (.bool true) ∧ Kept [] w w' := by
  have HPL := @hideH _ (played_any O most v ss w hS)
  have HBI := @hideH _ hb
  have HMM := @hideH _ (mostOf_ok most)
  clear hS hb
  go_enter Try.func4, Try.ntmps4
  go_wp2_with fail
  refine HPL.out.mono ?_
  clear HPL
  rintro e w1 ⟨g, F, S, u, l, rfl, p1⟩
  have HN8 := @hideH _ (newA' O 8 w1 (by decide))
  have HP := @hideH _ p1
  clear p1
  go_wp2_with fail
  refine HN8.out.mono ?_
  clear HN8
  rintro e w2 ⟨gu, Fu0, rfl, l2, f2, k2⟩
  have HO2 := @hideH _ (show Ord Tb w w2 (mostOf most) g F S gu Fu0 [] u l from ⟨O.kept HP.out.t k2 (by simp), l2, HP.out.r.kept k2 (by simp), HP.out.kept.then k2, fun x hx => Nat.le_trans HP.out.kept.size (f2 x hx), fun x hx hm => by have := f2 x hm; have := (HP.out.r.lt hx).2; omega, fun x hx hm => by have := f2 x hm; have := O.lt HP.out.t x hx; omega⟩)
  clear l2 f2 k2
  have HKN := @hideH _ (known_any O w2)
  go_wp2_with fail
  refine HKN.out.mono ?_
  clear HKN
  rintro e w3 ⟨rfl, k3⟩
  have HO3 := @hideH _ (HO2.out.then O k3)
  clear HO2 k3
  obtain ⟨p, c, hv⟩ := HO3.out.r.shape
  subst hv
  obtain ⟨nl, hnl⟩ : ∃ nl, nl = l.length := ⟨_, rfl⟩
  have H8 := @hideH _ (And.intro hnl (Ply.len O HP.out))
  rw [← hnl]
  rw [← hnl] at HO3
  clear hnl
  have HOK := @hideH _ (O.ok HP.out.t)
  have HPM := @hideH _ HP.out.pm
  clear HP
  have wl : IntKind.i64.wrap ((nl : Int) - 1) = (nl : Int) - 1 := wrap_i64_of (by omega) (by have := H8.out; omega)
  go_wp2
  go_loopw [11] (fun vi wr => ∃ (t : Nat) (Fu : List Nat) (Su : List RowR), t ≤ nl ∧ vi = .int .i64 ((t : Int) - 1) ∧ Hid (Ord Tb w wr (mostOf most) g F S gu Fu Su (.slice p nl c) l ∧ Su.Perm (l.drop t))) (fun vi _ => (intOf vi + 1).toNat)
  case atStart => exact ⟨nl, Fu0, [], Nat.le_refl _, rfl, HO3.out, by rw [H8.out.1, List.drop_length]⟩
  case round =>
    clear HO3 wl
    obtain ⟨t, Fu, Su, ht, rfl, hh⟩ := hrel
    by_cases htl : 0 < t
    · obtain ⟨t, rfl⟩ : ∃ q, t = q + 1 := ⟨t - 1, by omega⟩
      have et : ((t + 1 : Nat) : Int) - 1 = (t : Int) := by omega
      rw [et]
      clear et
      have h0 : (0 : Int) ≤ (t : Int) := by omega
      have htl' : (t : Int) < (nl : Int) := by omega
      have wt : IntKind.i64.wrap ((t : Int) - 1) = (t : Int) - 1 := wrap_i64_of (by omega) (by have := H8.out; omega)
      obtain ⟨x, hx⟩ : ∃ x, l[t]? = some x := ⟨_, List.getElem?_eq_getElem (by have := H8.out.1; omega)⟩
      obtain ⟨gl, hp, -, -, ⟨d0, d1, d2, d3, d4⟩, -⟩ := hh.out.1.r.at hx
      subst hp
      have HX := @hideH _ (put_next HOK.out HPM.out hx hh.out.2)
      have HXI := @hideH _ (show x.i64 from right_i64 (HOK.out.right x (HPM.out.mem_iff.2 (List.mem_of_getElem? hx))))
      clear hx
      have hq := O.put x wr hh.out.1.u HXI.out
      rw [HX.out.1] at hq
      unfold RowR.v at hq
      have HQ := @hideH _ hq
      clear hq
      go_wp2_with fail
      refine HQ.out.mono ?_
      clear HQ
      rintro e w4 ⟨Fu4, rfl, l4, fr4, k4⟩
      have HO4 := @hideH _ (hh.out.1.step O l4 fr4 k4)
      clear l4 fr4 k4 d0 d1 d2 d3 d4
      go_wp2
      go_roundw
      case rel => exact ⟨t, Fu4, _, by omega, by go_num, HO4.out, HX.out.2⟩
      case measure => first | (simp [intOf]; done) | (simp [intOf]; omega)
    · have et : t = 0 := by omega
      subst et
      have hneg : ¬ (0 : Int) ≤ ((0 : Nat) : Int) - 1 := by omega
      have HSU := @hideH _ (show Su = S from up_eq (O.ok hh.out.1.u).up HOK.out.up (hh.out.2.trans (by simpa using HPM.out.symm)))
      have HO5 := @hideH _ (show Ord Tb w wr (mostOf most) g F S gu Fu S (.slice p nl c) l by have q := hh.out.1; rw [HSU.out] at q; exact q)
      clear hh HSU
      have HQ := @hideH _ (O.rows wr HO5.out.t)
      go_wp2_with fail
      refine HQ.out.mono ?_
      clear HQ
      rintro e w5 ⟨vr, rfl, m5, k5⟩
      have HO6 := @hideH _ (HO5.out.list O m5 k5)
      clear HO5 m5 k5
      obtain ⟨pr, cr, hv⟩ := HO6.out.r.shape
      subst hv
      have HQ := @hideH _ (O.rows w5 HO6.out.u)
      go_wp2_with fail
      refine HQ.out.mono ?_
      clear HQ
      rintro e w6 ⟨vu, rfl, mu, ku⟩
      have HO' := @hideH _ (HO6.out.then O ku)
      have HQ := @hideH _ (same_eq vu _ S _ _ w6 mu HO'.out.r)
      go_wp2_with fail
      refine HQ.out.mono ?_
      clear HQ
      rintro e w7 ⟨rfl, ks⟩
      have HO7 := @hideH _ (HO'.out.then O ks)
      clear HO' HO6 mu ku ks
      have hq := O.drop b w7 HO7.out.u HBI.out
      cases hfb : findB S b with
      | none =>
        rw [hfb] at hq
        have HQ := @hideH _ hq
        have HFB := @hideH _ hfb
        clear hq hfb
        unfold rowOf at HQ
        simp only [Option.getD_none, Option.isSome_none, RowR.v, rowZ] at HQ
        go_wp2_with fail
        refine HQ.out.mono ?_
        clear HQ
        rintro e w8 ⟨Fu8, rfl, l8, fr8, k8⟩
        rw [dropL_none HFB.out] at l8
        have HO8 := @hideH _ (HO7.out.step O l8 fr8 k8)
        clear HO7 l8 fr8 k8
        obtain ⟨w9, hw9⟩ : ∃ wx, wx = w8.alloc (.cells #[.int .i64 0, .int .i64 0, .int .i64 0, .int .i64 0, .int .i64 0] 24) := ⟨_, rfl⟩
        have kw9 : Kept [] w8 w9 := by rw [hw9]; exact (Kept.refl [] w8).alloc _
        have Z : Blk w9 w8.heap.size 24 rowZ.cs := by rw [hw9]; exact Blk.new w8 _ _
        have HO9 := @hideH _ (HO8.out.then O kw9)
        have z0 := Z.cell (j := 0) rfl
        have z1 := Z.cell (j := 1) rfl
        have z2 := Z.cell (j := 2) rfl
        have z3 := Z.cell (j := 3) rfl
        have z4 := Z.cell (j := 4) rfl
        simp only [rowZ] at z0 z1 z2 z3 z4
        clear HO8 kw9 Z
        go_upto_region 15 with fail
        rw [← hw9]
        clear hw9
        have hq := O.get b w9 HO9.out.u HBI.out
        rw [HFB.out] at hq
        have HQ := @hideH _ hq
        clear hq
        unfold rowOf at HQ
        simp only [Option.getD_none, Option.isSome_none, RowR.v, rowZ] at HQ
        go_wp2_with fail
        refine HQ.out.mono ?_
        clear HQ
        rintro e wa ⟨rfl, ka⟩
        replace z0 := ka.cell z0 (by simp)
        replace z1 := ka.cell z1 (by simp)
        replace z2 := ka.cell z2 (by simp)
        replace z3 := ka.cell z3 (by simp)
        replace z4 := ka.cell z4 (by simp)
        obtain ⟨wb, hwb⟩ : ∃ wx, wx = wa.alloc (.cells #[.int .i64 0, .int .i64 0, .int .i64 0, .int .i64 0, .int .i64 0] 24) := ⟨_, rfl⟩
        have kwb : Kept [] wa wb := by rw [hwb]; exact (Kept.refl [] wa).alloc _
        have Z : Blk wb wa.heap.size 24 rowZ.cs := by rw [hwb]; exact Blk.new wa _ _
        have HOB := @hideH _ ((HO9.out.then O ka).then O kwb)
        replace z0 := kwb.cell z0 (by simp)
        replace z1 := kwb.cell z1 (by simp)
        replace z2 := kwb.cell z2 (by simp)
        replace z3 := kwb.cell z3 (by simp)
        replace z4 := kwb.cell z4 (by simp)
        clear HO9 ka kwb Z
        go_upto_region 17 with fail
        rw [← hwb]
        clear hwb
        have e0 := eqRow rowZ rowZ
        rw [decide_eq_true (rfl : rowZ = rowZ)] at e0
        simp only [rowZ] at e0
        have HQ := @hideH _ (O.rows wb HOB.out.u)
        go_wp2_with fail
        refine HQ.out.mono ?_
        clear HQ
        rintro e wc ⟨vu, rfl, mu, ku⟩
        have HO' := @hideH _ (HOB.out.then O ku)
        have HQ := @hideH _ (same_eq vu _ S _ _ wc mu HO'.out.r)
        go_wp2_with fail
        refine HQ.out.mono ?_
        clear HQ
        rintro e wd ⟨rfl, ks⟩
        have HOD := @hideH _ (HO'.out.then O ks)
        clear HO' HOB mu ku ks
        have KE := @hideH _ HOD.out.kept
        clear HOD
        go_wp2
        go_ret
        exact ⟨by first | rfl | simp, KE.out⟩
      | some x =>
        rw [hfb] at hq
        have HQ := @hideH _ hq
        have HFB := @hideH _ hfb
        clear hq hfb
        unfold rowOf at HQ
        simp only [Option.getD_some, Option.isSome_some, RowR.v] at HQ
        go_wp2_with fail
        refine HQ.out.mono ?_
        clear HQ
        rintro e w8 ⟨Fu8, rfl, l8, fr8, k8⟩
        have HO8 := @hideH _ (HO7.out.step O l8 fr8 k8)
        clear HO7 l8 fr8 k8
        obtain ⟨w9, hw9⟩ : ∃ wx, wx = w8.alloc (.cells #[.int .i64 x.birth, .int .i64 x.id, .int .i64 x.state, .int .i64 x.last, .int .i64 x.next] 24) := ⟨_, rfl⟩
        have kw9 : Kept [] w8 w9 := by rw [hw9]; exact (Kept.refl [] w8).alloc _
        have Z : Blk w9 w8.heap.size 24 x.cs := by rw [hw9]; exact Blk.new w8 _ _
        have HO9 := @hideH _ (HO8.out.then O kw9)
        have z0 := Z.cell (j := 0) rfl
        have z1 := Z.cell (j := 1) rfl
        have z2 := Z.cell (j := 2) rfl
        have z3 := Z.cell (j := 3) rfl
        have z4 := Z.cell (j := 4) rfl
        have HZL := @hideH _ (And.intro Z.lt (show ∀ y ∈ Fu8, y ≠ w8.heap.size from fun y hy => by have := O.lt HO8.out.u y hy; omega))
        clear HO8 kw9 Z
        go_upto_region 15 with fail
        rw [← hw9]
        clear hw9
        have HXI := @hideH _ (show x.i64 from right_i64 (HOK.out.right x (findB_some HFB.out).1))
        have hq := O.get b w9 HO9.out.u HBI.out
        rw [findB_drop] at hq
        have HQ := @hideH _ hq
        clear hq
        unfold rowOf at HQ
        simp only [Option.getD_none, Option.isSome_none, RowR.v, rowZ] at HQ
        go_wp2_with fail
        refine HQ.out.mono ?_
        clear HQ
        rintro e wa ⟨rfl, ka⟩
        replace z0 := ka.cell z0 (by simp)
        replace z1 := ka.cell z1 (by simp)
        replace z2 := ka.cell z2 (by simp)
        replace z3 := ka.cell z3 (by simp)
        replace z4 := ka.cell z4 (by simp)
        obtain ⟨wb, hwb⟩ : ∃ wx, wx = wa.alloc (.cells #[.int .i64 0, .int .i64 0, .int .i64 0, .int .i64 0, .int .i64 0] 24) := ⟨_, rfl⟩
        have kwb : Kept [] wa wb := by rw [hwb]; exact (Kept.refl [] wa).alloc _
        have Z : Blk wb wa.heap.size 24 rowZ.cs := by rw [hwb]; exact Blk.new wa _ _
        have HOB := @hideH _ ((HO9.out.then O ka).then O kwb)
        replace z0 := kwb.cell z0 (by simp)
        replace z1 := kwb.cell z1 (by simp)
        replace z2 := kwb.cell z2 (by simp)
        replace z3 := kwb.cell z3 (by simp)
        replace z4 := kwb.cell z4 (by simp)
        clear HO9 ka kwb Z
        go_upto_region 19 with fail
        rw [← hwb]
        clear hwb
        have hq := O.byId x.id wb HOB.out.u HXI.out.2.1
        rw [findI_drop HOK.out.dif HFB.out] at hq
        have HQ := @hideH _ hq
        clear hq
        unfold rowOf at HQ
        simp only [Option.getD_none, Option.isSome_none, RowR.v, rowZ] at HQ
        go_wp2_with fail
        refine HQ.out.mono ?_
        clear HQ
        rintro e wc ⟨rfl, ka⟩
        replace z0 := ka.cell z0 (by simp)
        replace z1 := ka.cell z1 (by simp)
        replace z2 := ka.cell z2 (by simp)
        replace z3 := ka.cell z3 (by simp)
        replace z4 := ka.cell z4 (by simp)
        obtain ⟨wd, hwd⟩ : ∃ wx, wx = wc.alloc (.cells #[.int .i64 0, .int .i64 0, .int .i64 0, .int .i64 0, .int .i64 0] 24) := ⟨_, rfl⟩
        have kwd : Kept [] wc wd := by rw [hwd]; exact (Kept.refl [] wc).alloc _
        have Z : Blk wd wc.heap.size 24 rowZ.cs := by rw [hwd]; exact Blk.new wc _ _
        have HOD := @hideH _ ((HOB.out.then O ka).then O kwd)
        replace z0 := kwd.cell z0 (by simp)
        replace z1 := kwd.cell z1 (by simp)
        replace z2 := kwd.cell z2 (by simp)
        replace z3 := kwd.cell z3 (by simp)
        replace z4 := kwd.cell z4 (by simp)
        clear HOB ka kwd Z
        go_upto_region 20 with fail
        rw [← hwd]
        clear hwd
        have HDL := @hideH _ (drop_length HOK.out.dif HFB.out)
        obtain ⟨ns, hns⟩ : ∃ ns, ns = S.length := ⟨_, rfl⟩
        obtain ⟨nd, hnd⟩ : ∃ nd, nd = (dropL S b).length := ⟨_, rfl⟩
        have hq := O.count wd HOD.out.u
        rw [← hnd] at hq
        have HQ := @hideH _ hq
        rw [← hns]
        rw [← hns, ← hnd] at HDL
        have e8 : ns ≤ 8 := by have e1 := HOK.out.len; have e2 := HMM.out.2; rw [← hns] at e1; omega
        have H88 := @hideH _ (And.intro e8 hns)
        have ws : IntKind.i64.wrap ((ns : Int) - 1) = (ns : Int) - 1 := wrap_i64_of (by omega) (by omega)
        have hne : ((nd : Int) != (ns : Int) - 1) = false := by have := HDL.out; simp; omega
        clear hq hnd hns e8
        go_wp2_with fail
        refine HQ.out.mono ?_
        clear HQ
        rintro e we ⟨rfl, ke⟩
        replace z0 := ke.cell z0 (by simp)
        replace z1 := ke.cell z1 (by simp)
        replace z2 := ke.cell z2 (by simp)
        replace z3 := ke.cell z3 (by simp)
        replace z4 := ke.cell z4 (by simp)
        have HOE := @hideH _ (HOD.out.then O ke)
        clear HOD ke
        have HPB := @hideH _ (put_back HOK.out (by have := H88.out; omega) HFB.out)
        have hq := O.put x we HOE.out.u HXI.out
        rw [HPB.out.1] at hq
        unfold RowR.v at hq
        have HQ := @hideH _ hq
        clear hq
        go_wp2_with fail
        refine HQ.out.mono ?_
        clear HQ
        rintro e wf ⟨Fuf, rfl, lf, frf, kf⟩
        rw [HPB.out.2] at lf
        have HOF := @hideH _ (HOE.out.step O lf frf kf)
        clear HOE lf frf kf z0 z1 z2 z3 z4 ws hne HPB
        rw [← H88.out.2] at HOF
        have HQ := @hideH _ (O.rows wf HOF.out.u)
        go_wp2_with fail
        refine HQ.out.mono ?_
        clear HQ
        rintro e wg ⟨vu, rfl, mu, ku⟩
        have HO' := @hideH _ (HOF.out.then O ku)
        have HQ := @hideH _ (same_eq vu _ S _ _ wg mu HO'.out.r)
        go_wp2_with fail
        refine HQ.out.mono ?_
        clear HQ
        rintro e wh ⟨rfl, ks⟩
        have HOH := @hideH _ (HO'.out.then O ks)
        clear HO' HOF mu ku ks
        have KE := @hideH _ HOH.out.kept
        clear HOH HDL H88 HXI HZL HFB HOK HPM H8 HMM HBI
        go_wp2
        go_ret
        exact ⟨by first | rfl | simp, KE.out⟩
end Go.Proofs.Ytbheegphhllogaa

