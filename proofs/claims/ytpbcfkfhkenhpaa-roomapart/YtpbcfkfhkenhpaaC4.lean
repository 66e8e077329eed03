import Derived.Test.YtpbcfkfhkenhpaaC3
/-
  OWN WORK (by mkrm7.py). The law: RoomAll.
-/
namespace Go.Proofs.Ytpbcfkfhkenhpaa
open Go.RowKit
set_option linter.unusedVariables false
set_option linter.unusedSimpArgs false

theorem rr_new {w : World} (a : Int) : Rr (w.alloc (.cells #[.int .i64 a, .slice none 0 0] 49)) w.heap.size [w.heap.size] a [] :=
  ⟨.slice none 0 0, [], ⟨Blk.new w _ [.int .i64 a, .slice none 0 0], Row.nil _ _ _, by simp, by simp, by simp [Value.ownBlock], OkR.nil⟩, rfl, rfl⟩
/-- both Rooms beside the world that was -/
structure A1 (Rm : World → Nat → List Nat → Int → List Tx → Prop) (w wr : World) (gP gR : Nat) (a : Int) (k : Nat) (F G : List Nat) (T : List Tx) : Prop where
  l : Rm wr gP F a T
  r : Rr wr gR G a T
  ds : ∀ x ∈ F, x ∉ G
  kp : Kept [] w wr
  lo : ∀ x ∈ F ++ G, w.heap.size ≤ x
  sz : szT T ≤ k
theorem A1.then {Rm : World → Nat → List Nat → Int → List Tx → Prop} (O : RmOps Rm) {w wr w' : World} {gP gR : Nat} {a : Int} {k : Nat} {F G : List Nat} {T : List Tx} (h : A1 Rm w wr gP gR a k F G T) (kk : Kept [] wr w') : A1 Rm w w' gP gR a k F G T :=
  ⟨O.kept h.l kk (by simp), h.r.kept kk (by simp), h.ds, h.kp.then kk, h.lo, h.sz⟩
theorem A1.step {Rm : World → Nat → List Nat → Int → List Tx → Prop} {w wr w' : World} {gP gR : Nat} {a : Int} {k : Nat} {F G F' G' : List Nat} {T T' : List Tx} (h : A1 Rm w wr gP gR a k F G T) (l : Rm w' gP F' a T') (r : Rr w' gR G' a T') (ds : ∀ x ∈ F', x ∉ G') (f1 : Fr wr F F') (f2 : Fr wr G G') (kk : Kept (F ++ G) wr w') (hs : szT T' ≤ szT T + 1) : A1 Rm w w' gP gR a (k + 1) F' G' T' :=
  ⟨l, r, ds, h.kp.trans kk (fun x hx => .inr (h.lo x hx)), fun x hx => by
    have hz := h.kp.size
    rcases List.mem_append.1 hx with q | q
    · rcases f1 x q with c | c
      · exact h.lo x (List.mem_append_left _ c)
      · omega
    · rcases f2 x q with c | c
      · exact h.lo x (List.mem_append_right _ c)
      · omega, by have := h.sz; omega⟩
set_option maxRecDepth 20000 in
set_option maxHeartbeats 12800000 in
theorem roomAll_walk {Rm : World → Nat → List Nat → Int → List Tx → Prop} (O : RmOps Rm) (a : Int) (v : Value) (ss : List OpR) (w : World) (ha : I64 a) (hS : Ops w v ss) (hL : ss.length ≤ 4398046511104) : Calls Try.prog 7 #[.int .i64 a, v] w fun e w' => e = .returned (.bool true) ∧ Kept [] w w' := by
  obtain ⟨ps, cs, hv, hml⟩ := hS.shape
  subst hv
  obtain ⟨n, hn⟩ : ∃ n, n = ss.length := ⟨_, rfl⟩
  have HS := @hideH _ hS
  have HN := @hideH _ (show n = ss.length ∧ n ≤ 4398046511104 from ⟨hn, by omega⟩)
  rw [← hn]
  have HA := @hideH _ ha
  clear hS hml hn hL ha
  go_enter Try.func7, Try.ntmps7
  go_wp2_with fail
  refine (head_any O w).mono ?_
  rintro e w1 ⟨rfl, k1⟩
  go_wp2_with fail
  refine (O.new a w1 HA.out).mono ?_
  rintro e w2 ⟨gP, F, rfl, l2, hF, k2⟩
  obtain ⟨w3, hw3⟩ : ∃ wx, wx = w2.alloc (.cells #[.int .i64 a, .slice none 0 0] 49) := ⟨_, rfl⟩
  have k3 : Kept [] w2 w3 := by rw [hw3]; exact (Kept.refl [] w2).alloc _
  have r3 : Rr w3 w2.heap.size [w2.heap.size] a [] := by rw [hw3]; exact rr_new a
  have A0 : A1 Rm w w3 gP w2.heap.size a 0 F [w2.heap.size] [] := ⟨O.kept l2 k3 (by simp), r3, fun x hx hm => by have := O.lt l2 x hx; simp at hm; omega, (k1.then k2).then k3, fun x hx => by
    have s1 := k1.size
    have s2 := k2.size
    rcases List.mem_append.1 hx with q | q
    · have := hF x q; omega
    · simp at q; omega, by simp [szT]⟩
  obtain ⟨gR, hgR⟩ : ∃ g, g = w2.heap.size := ⟨_, rfl⟩
  have HA0 := @hideH _ A0
  clear A0 k1 k2 k3 l2 hF r3
  go_upto_region 6 with fail
  rw [← hw3]
  rw [← hgR] at HA0
  rw [← hgR]
  clear hw3 hgR
  go_wp2
  go_loopw [7, 8, 9] (fun vi vo vk wr => ∃ k : Nat, k ≤ n ∧ vi = .int .i64 k ∧ Hid (∃ F G T, A1 Rm w wr gP gR a k F G T)) (fun vi _ _ _ => n - (intOf vi).toNat)
  case atStart => exact ⟨0, Nat.zero_le _, rfl, _, _, _, HA0.out⟩
  case round =>
    clear HA0
    obtain ⟨k, hk, rfl, hh⟩ := hrel
    obtain ⟨F, G, T, A⟩ := hh.out
    clear hh
    have HAA := @hideH _ A
    clear A
    by_cases hkl : k < n
    rotate_left
    · have hkl' : ¬ (k : Int) < (n : Int) := by omega
      go_wp2
      go_ret
      exact ⟨by first | rfl | simp, HAA.out.kp⟩
    have hkl' : (k : Int) < (n : Int) := by omega
    have hk0 : (0 : Int) ≤ (k : Int) := by omega
    have wk : IntKind.i64.wrap ((k : Int) + 1) = (k : Int) + 1 := wrap_i64_of (by omega) (by have := HN.out.2; omega)
    obtain ⟨s, hs⟩ : ∃ s, ss[k]? = some s := ⟨_, List.getElem?_eq_getElem (by have := HN.out.1; omega)⟩
    obtain ⟨sb, so, sc, es, ⟨c0, c1, c2, c3⟩, nn⟩ := HS.out.at hs
    cases es
    have d0 := HAA.out.kp.cell c0 (by simp)
    have d1 := HAA.out.kp.cell c1 (by simp)
    have d2 := HAA.out.kp.cell c2 (by simp)
    have d3 := HAA.out.kp.cell c3 (by simp)
    have HSB := @hideH _ (show sb < w.heap.size from lt_of_cell c0)
    have HNN := @hideH _ nn
    have HC1 := @hideH _ c1
    have HST := @hideH _ (step_any O s wr HAA.out.l HAA.out.r HAA.out.ds nn HA.out (by have e1 := HAA.out.sz; have e2 := HN.out.2; omega))
    clear c0 c1 c2 c3 nn hs
    go_wp2_with fail
    refine HST.out.mono ?_
    clear HST
    rintro e w4 ⟨rfl, F4, G4, l4, r4, ds4, f4, g4, k4⟩
    have A4 := HAA.out.step l4 r4 ds4 f4 g4 k4 (sz_play (O.ok HAA.out.l) s)
    clear l4 r4 ds4 f4 g4 k4 HAA d0 d1 d2 d3
    obtain ⟨T4, hT4⟩ : ∃ T4, T4 = playR T s := ⟨_, rfl⟩
    rw [← hT4] at A4
    clear hT4
    have HA4 := @hideH _ A4
    clear A4
    obtain ⟨K, hK⟩ : ∃ K, K = keptT T4 := ⟨_, rfl⟩
    have hq := rKept w4 HA4.out.r
    rw [← hK] at hq
    have HQ := @hideH _ hq
    have HK := @hideH _ hK
    have HKR := @hideH _ (show 0 ≤ K ∧ K ≤ 288500000000000000 by rw [hK]; exact (O.ok HA4.out.l).kept)
    clear hq hK
    go_wp2_with fail
    refine HQ.out.mono ?_
    clear HQ
    rintro e w5 ⟨rfl, k5⟩
    have HA5 := @hideH _ (HA4.out.then O k5)
    clear k5 HA4
    have d1 := HA5.out.kp.cell HC1.out (by simp)
    clear HC1
    obtain ⟨E, hE⟩ : ∃ E, E = ofT T4 s.birth := ⟨_, rfl⟩
    have HQ := @hideH _ (fun w6 (h : Rm w6 gP F4 a T4) => O.of s.birth w6 h HNN.out.2.1)
    have HRR := @hideH _ (fun w6 (h : Rr w6 gR G4 a T4) => rOf s.birth w6 h)
    have HKK := @hideH _ (fun w6 (h : Rm w6 gP F4 a T4) => O.all w6 h)
    rw [← hE] at HQ HRR
    rw [← HK.out] at HKK
    clear hE
    have AX := HA5.out.then O (Kept.refl [] w5).drew
    have kx : Kept [] w5 w5.drew := (Kept.refl [] w5).drew
    go_upto_region 11 with fail
    go_region_held3 (fun w' => w'.cell? ⟨sb, so + k * 4 + 1, none⟩ = some (.int .i64 s.birth))
      (first
        | (exact kx.cell d1 (by simp))
        | fail)
      (first
        | (go_at_call 15; refine (HQ.out _ AX.l).mono ?_; rintro e w6 ⟨rfl, k6⟩; replace kx := kx.then k6; replace AX := AX.then O k6; clear k6)
        | (go_at_call 22; refine (HRR.out _ AX.r).mono ?_; rintro e w7 ⟨rfl, k6⟩; replace kx := kx.then k6; replace AX := AX.then O k6; clear k6)
        | (go_at_call 16; refine (HKK.out _ AX.l).mono ?_; rintro e w8 ⟨rfl, k6⟩; replace kx := kx.then k6; replace AX := AX.then O k6; clear k6)
        | fail)
    all_goals (have HAX := @hideH _ AX)
    all_goals (clear AX kx HQ HRR HKK d1 HA5)
    · skip
      by_cases h1 : K ≤ a
      rotate_left
      · have h1' : a < K := by omega
        have hq := O.fits 0 0 0 _ HAX.out.l (i64_small (by decide) (by decide)) (i64_small (by decide) (by decide)) (i64_small (by decide) (by decide))
        rw [show fitsB a T4 0 0 0 = false from by (unfold fitsB; rw [← HK.out]; have e1 := HKR.out; exact decide_eq_false (by omega))] at hq
        have HQ := @hideH _ hq
        clear hq
        go_wp2_with fail
        refine HQ.out.mono ?_
        clear HQ
        rintro e x1 ⟨rfl, k6⟩
        have HAY := @hideH _ (HAX.out.then O k6)
        clear k6 HAX
        have HAX := @hideH _ HAY.out
        clear HAY
        go_wp2
        go_roundw
        case rel => exact ⟨k + 1, by omega, by go_num, _, _, _, HAX.out⟩
        case measure => simp [intOf]; omega
      have h1' : ¬ a < K := by omega
      have v1 : IntKind.i64.wrap (a - K) = a - K := by have e1 := HKR.out; have e2 := HA.out; unfold I64 at e2; exact wrap_i64_of (by omega) (by omega)
      have v2 : IntKind.i64.wrap (a - K - 1) = a - K - 1 := by have e1 := HKR.out; have e2 := HA.out; unfold I64 at e2; exact wrap_i64_of (by omega) (by omega)
      have hq := O.fits (a - K) 0 0 _ HAX.out.l (show I64 (a - K) by have e1 := HKR.out; have e2 := HA.out; unfold I64 at *; omega) (i64_small (by decide) (by decide)) (i64_small (by decide) (by decide))
      rw [show fitsB a T4 (a - K) 0 0 = true from by (unfold fitsB; rw [← HK.out]; have e1 := HKR.out; exact decide_eq_true (by omega))] at hq
      have HQ := @hideH _ hq
      clear hq
      go_wp2_with fail
      refine HQ.out.mono ?_
      clear HQ
      rintro e x1 ⟨rfl, k6⟩
      have HAY := @hideH _ (HAX.out.then O k6)
      clear k6 HAX
      have HAX := @hideH _ HAY.out
      clear HAY
      have hq := O.fits 0 (a - K) 0 _ HAX.out.l (i64_small (by decide) (by decide)) (show I64 (a - K) by have e1 := HKR.out; have e2 := HA.out; unfold I64 at *; omega) (i64_small (by decide) (by decide))
      rw [show fitsB a T4 0 (a - K) 0 = true from by (unfold fitsB; rw [← HK.out]; have e1 := HKR.out; exact decide_eq_true (by omega))] at hq
      have HQ := @hideH _ hq
      clear hq
      go_wp2_with fail
      refine HQ.out.mono ?_
      clear HQ
      rintro e x2 ⟨rfl, k6⟩
      have HAY := @hideH _ (HAX.out.then O k6)
      clear k6 HAX
      have HAX := @hideH _ HAY.out
      clear HAY
      have hq := O.fits 0 0 (a - K) _ HAX.out.l (i64_small (by decide) (by decide)) (i64_small (by decide) (by decide)) (show I64 (a - K) by have e1 := HKR.out; have e2 := HA.out; unfold I64 at *; omega)
      rw [show fitsB a T4 0 0 (a - K) = true from by (unfold fitsB; rw [← HK.out]; have e1 := HKR.out; exact decide_eq_true (by omega))] at hq
      have HQ := @hideH _ hq
      clear hq
      go_wp2_with fail
      refine HQ.out.mono ?_
      clear HQ
      rintro e x3 ⟨rfl, k6⟩
      have HAY := @hideH _ (HAX.out.then O k6)
      clear k6 HAX
      have HAX := @hideH _ HAY.out
      clear HAY
      by_cases h2 : K < a
      rotate_left
      · have h2' := h2
        go_wp2
        go_roundw
        case rel => exact ⟨k + 1, by omega, by go_num, _, _, _, HAX.out⟩
        case measure => simp [intOf]; omega
      have hq := O.fits (a - K - 1) 1 1 _ HAX.out.l (show I64 (a - K - 1) by have e1 := HKR.out; have e2 := HA.out; unfold I64 at *; omega) (i64_small (by decide) (by decide)) (i64_small (by decide) (by decide))
      rw [show fitsB a T4 (a - K - 1) 1 1 = false from by (unfold fitsB; rw [← HK.out]; have e1 := HKR.out; exact decide_eq_false (by omega))] at hq
      have HQ := @hideH _ hq
      clear hq
      go_wp2_with fail
      refine HQ.out.mono ?_
      clear HQ
      rintro e x4 ⟨rfl, k6⟩
      have HAY := @hideH _ (HAX.out.then O k6)
      clear k6 HAX
      have HAX := @hideH _ HAY.out
      clear HAY
      go_wp2
      go_roundw
      case rel => exact ⟨k + 1, by omega, by go_num, _, _, _, HAX.out⟩
      case measure => simp [intOf]; omega
end Go.Proofs.Ytpbcfkfhkenhpaa

