import Derived.Test.YtocpagpkpibmaaaGreatDoorC6
/-
  OWN WORK (by mkpnp.py). The law: PlainScripts, for any State.
-/
namespace Go.Proofs.YtocpagpkpibmaaaGreatDoor
open Go.RowKit
set_option linter.unusedVariables false
set_option linter.unusedSimpArgs false

/-- both States beside the world that was; k steps at most are behind -/
structure A18 (Ks : List Nat) (Vr : World → Prop) (Pn : World → Nat → List Nat → Cf → St → Prop) (w wr : World) (gP gR : Nat) (c : Cf) (k : Nat) (F G : List Nat) (S : St) : Prop where
  two : Two Ks Vr Pn wr gP F gR G c S
  kp : Kept [] w wr
  lo : ∀ x ∈ F ++ G, w.heap.size ≤ x
  sz : cnt S ≤ k
theorem A18.then {Ks : List Nat} {Vr : World → Prop} {Pn : World → Nat → List Nat → Cf → St → Prop} (O : PnOps Ks Vr Pn) {w wr w' : World} {gP gR : Nat} {c : Cf} {k : Nat} {F G : List Nat} {S : St} (h : A18 Ks Vr Pn w wr gP gR c k F G S) (kk : Kept [] wr w') : A18 Ks Vr Pn w w' gP gR c k F G S :=
  ⟨h.two.then O kk, h.kp.then kk, h.lo, h.sz⟩
theorem A18.step {Ks : List Nat} {Vr : World → Prop} {Pn : World → Nat → List Nat → Cf → St → Prop} {w wr w' : World} {gP gR : Nat} {c : Cf} {k : Nat} {F G F' G' : List Nat} {S : St} {o : OpR} (h : A18 Ks Vr Pn w wr gP gR c k F G S) (t : Two Ks Vr Pn w' gP F' gR G' c (stS c S o)) (f1 : Fr wr F F') (f2 : Fr wr G G') (kk : Kept (F ++ G) wr w') : A18 Ks Vr Pn w w' gP gR c (k + 1) F' G' (stS c S o) :=
  ⟨t, h.kp.trans kk (fun x hx => .inr (h.lo x hx)), fun x hx => by
    have hz := h.kp.size
    rcases List.mem_append.1 hx with q | q
    · rcases f1 x q with c | c
      · exact h.lo x (List.mem_append_left _ c)
      · omega
    · rcases f2 x q with c | c
      · exact h.lo x (List.mem_append_right _ c)
      · omega, by have := h.sz; have := cnt_step h.two.r.ok o; omega⟩
variable {Ks : List Nat} {Vr : World → Prop} {Pn : World → Nat → List Nat → Cf → St → Prop} (O : PnOps Ks Vr Pn) (E : PnTel Vr Pn)
include O E
set_option maxRecDepth 20000 in
set_option maxHeartbeats 6400000 in
theorem plainScripts_walk (c : Cf) (v : Value) (ss : List OpR) (w : World) (hv : Vr w) (hS : Ops w v ss) (hL : ss.length ≤ 3600000000000) : Calls Tryz.prog 6 #[.agg #[.int .i64 c.pages, .int .i64 c.slots, .int .i64 c.log, .int .i64 c.frames, .int .i64 c.table, .int .i64 c.keys], v] w fun e w' => e = .returned (.bool true) ∧ Kept [] w w' := by
  obtain ⟨ps, cs, hvs, hml⟩ := hS.shape
  subst hvs
  obtain ⟨n, hn⟩ : ∃ n, n = ss.length := ⟨_, rfl⟩
  have HS := @hideH _ hS
  have HN := @hideH _ (show n = ss.length ∧ n ≤ 3600000000000 from ⟨hn, by omega⟩)
  rw [← hn]
  have HV := @hideH _ hv
  clear hS hml hn hL hv
  obtain ⟨w1, hw1⟩ : ∃ wx, wx = w.alloc (.cells #[.int .i64 c.pages, .int .i64 c.slots, .int .i64 c.log, .int .i64 c.frames, .int .i64 c.table, .int .i64 c.keys] 25) := ⟨_, rfl⟩
  have k1 : Kept [] w w1 := by rw [hw1]; exact (Kept.refl [] w).alloc _
  have B : Blk w1 w.heap.size 25 [.int .i64 c.pages, .int .i64 c.slots, .int .i64 c.log, .int .i64 c.frames, .int .i64 c.table, .int .i64 c.keys] := by rw [hw1]; exact Blk.new w _ _
  have HB := @hideH _ B
  have c0 := B.cell (j := 0) rfl
  have c1 := B.cell (j := 1) rfl
  have c2 := B.cell (j := 2) rfl
  have c3 := B.cell (j := 3) rfl
  have c4 := B.cell (j := 4) rfl
  have c5 := B.cell (j := 5) rfl
  have HK1 := @hideH _ k1
  clear B k1
  go_enter Tryz.func6, Tryz.ntmps6
  go_upto_region 1 with fail
  rw [← hw1]
  clear hw1
  go_wp2_with fail
  refine (O.new c _ (O.vkept HV.out HK1.out (by simp))).mono ?_
  rintro e w2 (⟨hm, gP, F, rfl, p, hF, k2⟩ | ⟨hm, rfl, k2⟩)
  rotate_left
  · replace c0 := k2.cell c0 (by simp)
    replace c1 := k2.cell c1 (by simp)
    replace c2 := k2.cell c2 (by simp)
    replace c3 := k2.cell c3 (by simp)
    replace c4 := k2.cell c4 (by simp)
    replace c5 := k2.cell c5 (by simp)
    replace k2 := HK1.out.then k2
    go_wp2_with fail
    refine (sNew c _).mono ?_
    rintro e w3 (⟨hm', -⟩ | ⟨-, rfl, k3⟩)
    · exact absurd hm' hm
    replace k3 := k2.then k3
    clear c0 c1 c2 c3 c4 c5 k2 hm
    go_wp2_with fail
    refine (num_any _ _).mono ?_
    rintro e wb ⟨rfl, hwb⟩
    rw [hwb]
    clear hwb
    go_wp2_with fail
    refine (alive_any O _ (O.vkept HV.out k3 (by simp))).mono ?_
    rintro e w4 ⟨rfl, k4⟩
    replace k4 := k3.then k4
    clear k3
    have HK4 := @hideH _ k4
    clear k4
    go_wp2
    go_ret
    exact ⟨by first | rfl | simp, HK4.out⟩
  replace c0 := k2.cell c0 (by simp)
  replace c1 := k2.cell c1 (by simp)
  replace c2 := k2.cell c2 (by simp)
  replace c3 := k2.cell c3 (by simp)
  replace c4 := k2.cell c4 (by simp)
  replace c5 := k2.cell c5 (by simp)
  go_wp2_with fail
  refine (sNew c _).mono ?_
  rintro e w3 (⟨-, gR, G, rfl, r, hG, k3⟩ | ⟨hm', -⟩)
  rotate_left
  · exact absurd hm hm'
  clear c0 c1 c2 c3 c4 c5
  have HA3 := @hideH _ (show A18 Ks Vr Pn w w3 gP gR c 0 F G ⟨[], [], 0⟩ from ⟨⟨O.kept p k3 (by simp), r, fun x hx hm => by have := O.lt p x hx; have := hG x hm; omega, O.vkept HV.out ((HK1.out.then k2).then k3) (by simp), fun x hx hm => by have := O.vlt HV.out x hx; have := hG x hm; have := k2.size; have := HK1.out.size; omega⟩, (HK1.out.then k2).then k3, fun x hx => by
    have s1 := HK1.out.size
    have s2 := k2.size
    rcases List.mem_append.1 hx with q | q
    · have := hF x q; omega
    · have := hG x q; omega, by simp [cnt, chsN]⟩)
  clear p r hF hG k2 k3
  go_wp2_with fail
  refine (num_any _ _).mono ?_
  rintro e wb ⟨rfl, hwb⟩
  rw [hwb]
  clear hwb
  go_wp2_with fail
  refine (alive_any O _ HA3.out.two.v).mono ?_
  rintro e w4 ⟨rfl, k4⟩
  have HA4 := @hideH _ (HA3.out.then O k4)
  clear HA3 k4
  go_wp2
  go_loopw [9] (fun vi wr => ∃ k : Nat, k ≤ n ∧ vi = .int .i64 k ∧ Hid (∃ F G S, A18 Ks Vr Pn w wr gP gR c k F G S)) (fun vi _ => n - (intOf vi).toNat)
  case atStart => exact ⟨0, Nat.zero_le _, rfl, _, _, _, HA4.out⟩
  case round =>
    clear HA4
    obtain ⟨k, hk, rfl, hh⟩ := hrel
    obtain ⟨F, G, S, A⟩ := hh.out
    clear hh
    have HAA := @hideH _ A
    have HSM := @hideH _ (show small S by have e1 := A.sz; have e2 := HN.out.2; unfold small; omega)
    clear A
    by_cases hkl : k < n
    rotate_left
    · have hkl' : ¬ (k : Int) < (n : Int) := by omega
      have HTD := @hideH _ (told_any O E wr HAA.out.two HSM.out)
      go_wp2_with fail
      refine HTD.out.mono ?_
      clear HTD
      rintro e w5 ⟨rfl, k5⟩
      have HK5 := @hideH _ (HAA.out.kp.then k5)
      clear k5
      go_wp2
      go_ret
      exact ⟨by first | rfl | simp, HK5.out⟩
    have hkl' : (k : Int) < (n : Int) := by omega
    have hk0 : (0 : Int) ≤ (k : Int) := by omega
    have wk : IntKind.i64.wrap ((k : Int) + 1) = (k : Int) + 1 := wrap_i64_of (by omega) (by have := HN.out.2; omega)
    obtain ⟨s, hs⟩ : ∃ s, ss[k]? = some s := ⟨_, List.getElem?_eq_getElem (by have := HN.out.1; omega)⟩
    obtain ⟨sb, so, sc, es, ⟨c0, c1, c2, c3, c4⟩, nn⟩ := HS.out.at hs
    cases es
    have d0 := HAA.out.kp.cell c0 (by simp)
    have d1 := HAA.out.kp.cell c1 (by simp)
    have d2 := HAA.out.kp.cell c2 (by simp)
    have d3 := HAA.out.kp.cell c3 (by simp)
    have d4 := HAA.out.kp.cell c4 (by simp)
    have HST := @hideH _ (step_any O s wr HAA.out.two HSM.out nn)
    clear c0 c1 c2 c3 c4 nn hs
    go_wp2_with fail
    refine HST.out.mono ?_
    clear HST
    rintro e w5 ⟨rfl, F5, G5, t5, f5, g5, k5⟩
    have A5 := HAA.out.step t5 f5 g5 k5
    clear t5 f5 g5 k5 HAA d0 d1 d2 d3 d4
    obtain ⟨S5, hS5⟩ : ∃ S5, S5 = stS c S s := ⟨_, rfl⟩
    rw [← hS5] at A5
    clear hS5
    have HA5 := @hideH _ A5
    have HTD := @hideH _ (told_any O E w5 A5.two (show small S5 by have e1 := A5.sz; have e2 := HN.out.2; unfold small; omega))
    clear A5
    go_wp2_with fail
    refine HTD.out.mono ?_
    clear HTD
    rintro e w6 ⟨rfl, k6⟩
    have HA6 := @hideH _ (HA5.out.then O k6)
    clear k6 HA5
    go_wp2
    go_roundw
    case rel => exact ⟨k + 1, by omega, by go_num, _, _, _, HA6.out⟩
    case measure => simp [intOf]; omega
end Go.Proofs.YtocpagpkpibmaaaGreatDoor

