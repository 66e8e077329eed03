import Derived.Test.YtnjfahgmebmakaaGreatDoorC3
/-
  OWN WORK (by mkpns.py). The law's played (layer 18), for any State.
-/
namespace Go.Proofs.YtnjfahgmebmakaaGreatDoor
open Go.RowKit
set_option linter.unusedVariables false
set_option linter.unusedSimpArgs false

/-- what a script leaves -/
def playS (c : Cf) (S : St) (ss : List OpR) : St := ss.foldl (stS c) S
theorem playS_take (c : Cf) (S : St) {ss : List OpR} {k : Nat} {o : OpR} (h : ss[k]? = some o) : playS c S (ss.take (k + 1)) = stS c (playS c S (ss.take k)) o := by
  unfold playS
  rw [List.take_add_one, h, List.foldl_append]
  rfl
/-- the program's State beside the world that was; k steps at most are behind -/
structure B18 (Ks : List Nat) (Vr : World → Prop) (Pn : World → Nat → List Nat → Cf → St → Prop) (w wr : World) (g : Nat) (c : Cf) (k : Nat) (F : List Nat) (S : St) : Prop where
  p : Pn wr g F c S
  v : Vr wr
  kp : Kept [] w wr
  lo : ∀ x ∈ F, w.heap.size ≤ x
  sz : cnt S ≤ k
theorem B18.then {Ks : List Nat} {Vr : World → Prop} {Pn : World → Nat → List Nat → Cf → St → Prop} (O : PnOps Ks Vr Pn) {w wr w' : World} {g : Nat} {c : Cf} {k : Nat} {F : List Nat} {S : St} (h : B18 Ks Vr Pn w wr g c k F S) (kk : Kept [] wr w') : B18 Ks Vr Pn w w' g c k F S :=
  ⟨O.kept h.p kk (by simp), O.vkept h.v kk (by simp), h.kp.then kk, h.lo, h.sz⟩
/-- a call has changed it -/
theorem B18.go {Ks : List Nat} {Vr : World → Prop} {Pn : World → Nat → List Nat → Cf → St → Prop} (O : PnOps Ks Vr Pn) {w wr w' : World} {g : Nat} {c : Cf} {k j : Nat} {F F' : List Nat} {S S' : St} (h : B18 Ks Vr Pn w wr g c k F S) (p : Pn w' g F' c S') (f : Fr wr F F') (kk : Kept F wr w') (hj : cnt S' ≤ j) : B18 Ks Vr Pn w w' g c j F' S' :=
  ⟨p, O.vkept h.v kk (O.knot h.p), h.kp.trans kk (fun x hx => .inr (h.lo x hx)), (fresh_go h.lo h.kp f kk).1, hj⟩
theorem B18.small {Ks : List Nat} {Vr : World → Prop} {Pn : World → Nat → List Nat → Cf → St → Prop} {w wr : World} {g : Nat} {c : Cf} {k : Nat} {F : List Nat} {S : St} (h : B18 Ks Vr Pn w wr g c k F S) (hk : k ≤ 3600000000000) : small S := by have := h.sz; unfold Go.Proofs.YtnjfahgmebmakaaGreatDoor.small; omega
variable {Ks : List Nat} {Vr : World → Prop} {Pn : World → Nat → List Nat → Cf → St → Prop} (O : PnOps Ks Vr Pn)
include O
set_option maxRecDepth 20000 in
set_option maxHeartbeats 6400000 in
theorem played_any (c : Cf) (v : Value) (ss : List OpR) (w : World) (hv : Vr w) (hS : Ops w v ss) (hL : ss.length ≤ 3600000000000) (hm : mayC c) : Calls Tryz.prog 7 #[.agg #[.int .i64 c.pages, .int .i64 c.slots, .int .i64 c.log, .int .i64 c.frames, .int .i64 c.table, .int .i64 c.keys], v] w fun e w' => ∃ g, e = .returned (.pointer (some ⟨g, 0, none⟩)) ∧ ∃ F, B18 Ks Vr Pn w w' g c ss.length F (playS c ⟨[], [], 0⟩ ss) := by
  obtain ⟨ps, cs, hvs, hml⟩ := hS.shape
  subst hvs
  obtain ⟨n, hn⟩ : ∃ n, n = ss.length := ⟨_, rfl⟩
  have HS := @hideH _ hS
  have HN := @hideH _ (show n = ss.length ∧ n ≤ 3600000000000 from ⟨hn, by omega⟩)
  rw [← hn]
  have HV := @hideH _ hv
  have HM := @hideH _ hm
  clear hS hml hn hL hv hm
  obtain ⟨w1, hw1⟩ : ∃ wx, wx = w.alloc (.cells #[.int .i64 c.pages, .int .i64 c.slots, .int .i64 c.log, .int .i64 c.frames, .int .i64 c.table, .int .i64 c.keys] 25) := ⟨_, rfl⟩
  have k1 : Kept [] w w1 := by rw [hw1]; exact (Kept.refl [] w).alloc _
  have B : Blk w1 w.heap.size 25 [.int .i64 c.pages, .int .i64 c.slots, .int .i64 c.log, .int .i64 c.frames, .int .i64 c.table, .int .i64 c.keys] := by rw [hw1]; exact Blk.new w _ _
  have c0 := B.cell (j := 0) rfl
  have c1 := B.cell (j := 1) rfl
  have c2 := B.cell (j := 2) rfl
  have c3 := B.cell (j := 3) rfl
  have c4 := B.cell (j := 4) rfl
  have c5 := B.cell (j := 5) rfl
  have HK1 := @hideH _ k1
  clear B k1
  go_enter Tryz.func7, Tryz.ntmps7
  go_upto_region 1 with fail
  rw [← hw1]
  clear hw1
  go_wp2_with fail
  refine (O.new c _ (O.vkept HV.out HK1.out (by simp))).mono ?_
  rintro e w2 (⟨-, g, F, rfl, p, hF, k2⟩ | ⟨hm, -⟩)
  rotate_left
  · exact absurd HM.out hm
  have HB := @hideH _ (show B18 Ks Vr Pn w w2 g c 0 F ⟨[], [], 0⟩ from ⟨p, O.vkept HV.out (HK1.out.then k2) (by simp), HK1.out.then k2, fun x hx => Nat.le_trans HK1.out.size (hF x hx), by simp [cnt, chsN]⟩)
  clear p hF k2 c0 c1 c2 c3 c4 c5
  go_wp2_with fail
  refine (num_any _ _).mono ?_
  rintro e wb ⟨rfl, hwb⟩
  rw [hwb]
  clear hwb
  go_wp2
  go_loopw [7] (fun vi wr => ∃ k : Nat, k ≤ n ∧ vi = .int .i64 k ∧ Hid (∃ F, B18 Ks Vr Pn w wr g c k F (playS c ⟨[], [], 0⟩ (ss.take k)))) (fun vi _ => n - (intOf vi).toNat)
  case atStart => exact ⟨0, Nat.zero_le _, rfl, F, HB.out⟩
  case round =>
    clear HB
    obtain ⟨k, hk, rfl, hh⟩ := hrel
    obtain ⟨F, A⟩ := hh.out
    clear hh
    have HAA := @hideH _ A
    clear A
    by_cases hkl : k < n
    rotate_left
    · have hkl' : ¬ (k : Int) < (n : Int) := by omega
      have HE := @hideH _ (show ss.take k = ss ∧ k = n from ⟨List.take_of_length_le (by have := HN.out.1; omega), by omega⟩)
      go_wp2
      go_ret
      exact ⟨g, rfl, F, by have q := HAA.out; rw [HE.out.1, HE.out.2] at q; exact q⟩
    have hkl' : (k : Int) < (n : Int) := by omega
    have hk0 : (0 : Int) ≤ (k : Int) := by omega
    have wk : IntKind.i64.wrap ((k : Int) + 1) = (k : Int) + 1 := wrap_i64_of (by omega) (by have := HN.out.2; omega)
    obtain ⟨s, hs⟩ : ∃ s, ss[k]? = some s := ⟨_, List.getElem?_eq_getElem (by have := HN.out.1; omega)⟩
    obtain ⟨sb, so, sc, es, ⟨c0, c1, c2, c3, c4⟩, nn⟩ := HS.out.at hs
    cases es
    have d0 := HAA.out.kp.cell c0 (by simp)
    have d1 := HAA.out.kp.cell c1 (by simp)
    have d2 := HAA.out.kp.cell c2 (by simp)
    have d3 := HAA.out.kp.cell c3 (by simp)
    have d4 := HAA.out.kp.cell c4 (by simp)
    have HST := @hideH _ (does_any O s wr HAA.out.v HAA.out.p (HAA.out.small (by have := HN.out.2; omega)) nn)
    have HPT := @hideH _ (playS_take c ⟨[], [], 0⟩ hs)
    clear c0 c1 c2 c3 c4 nn hs
    go_wp2_with fail
    refine HST.out.mono ?_
    clear HST
    rintro e w5 ⟨rfl, F5, p5, f5, k5⟩
    have HA5 := @hideH _ (HAA.out.go O (j := k + 1) p5 f5 k5 (by have := cnt_step (O.ok HAA.out.p) s; have := HAA.out.sz; omega))
    rw [← HPT.out] at HA5
    clear p5 f5 k5 HAA d0 d1 d2 d3 d4
    go_wp2
    go_roundw
    case rel => exact ⟨k + 1, by omega, by go_num, _, HA5.out⟩
    case measure => simp [intOf]; omega
end Go.Proofs.YtnjfahgmebmakaaGreatDoor

