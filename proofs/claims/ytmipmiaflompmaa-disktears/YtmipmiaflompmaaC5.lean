import Derived.Test.YtmipmiaflompmaaC4
/-
  OWN WORK. The program's disk: Load.
-/
namespace Go.Proofs.Ytmipmiaflompmaa
open Go.RowKit
set_option linter.unusedVariables false

theorem Pls.lens {w : World} {base n : Nat} {v : Value} {pv : List Value} {ls : List (List UInt8)} (h : Pls w base v n pv ls) : Lens pv (ls.map List.length) := by
  refine ⟨by rw [List.length_map]; exact h.fam.len, fun i u k hu hk => ?_⟩
  rw [List.getElem?_map] at hk
  obtain ⟨l, hl, rfl⟩ := Option.map_eq_some_iff.1 hk
  exact own_shape2 (h.fam.own i u l hu hl)
theorem SeeIm.all {w : World} {V : IV} {m : IM} (h : SeeIm w V m) : ∀ (i : Nat) u l, (V.pv ++ [V.pair, V.m0, V.m1])[i]? = some u → (m.ps ++ [m.pair, m.m0, m.m1])[i]? = some l → Bs w u l := fun i u l hu hl => by
  have hlen := h.len
  by_cases c : i < V.pv.length
  · rw [List.getElem?_append_left c] at hu
    rw [List.getElem?_append_left (by omega)] at hl
    exact h.ps i u l hu hl
  · rw [List.getElem?_append_right (by omega)] at hu
    rw [List.getElem?_append_right (by omega), ← hlen] at hl
    generalize i - V.pv.length = j at *
    rcases j with _ | _ | _ | j
    · simp at hu hl; subst hu; subst hl; exact h.pair
    · simp at hu hl; subst hu; subst hl; exact h.m0
    · simp at hu hl; subst hu; subst hl; exact h.m1
    · simp at hu
theorem SeeIm.lens {w : World} {V : IV} {m : IM} (h : SeeIm w V m) : Lens (V.pv ++ [V.pair, V.m0, V.m1]) (m.ps.map List.length ++ [m.pair.length, m.m0.length, m.m1.length]) := by
  refine ⟨by simp [h.len], fun i u k hu hk => ?_⟩
  have e : m.ps.map List.length ++ [m.pair.length, m.m0.length, m.m1.length] = (m.ps ++ [m.pair, m.m0, m.m1]).map List.length := by simp
  rw [e, List.getElem?_map] at hk
  obtain ⟨l, hl, rfl⟩ := Option.map_eq_some_iff.1 hk
  obtain ⟨p, c, e, -⟩ := h.all i u l hu hl
  exact ⟨p, c, e⟩
set_option maxHeartbeats 6400000 in
theorem pLoad (a b c : Int) (V : IV) (m : IM) (w : World) (hV : SeeIm w V m) (hcap : (V.pv.length + 3) * 24 ≤ 140737488355328) :
    Calls Try.prog 32 #[.agg #[.int .i64 a, .int .i64 b, .int .i64 c], V.agg] w fun e w' => ∃ u, e = .returned (.tuple #[u, .int .i64 (loadE a b c m)]) ∧ Made (PD []) w w' u (loadD a b c m) (loadE a b c m) := by
  obtain ⟨u0, v0, e0, -⟩ := id hV.vp
  obtain ⟨u1, v1, e1, -⟩ := id hV.pair
  obtain ⟨u2, v2, e2, -⟩ := id hV.log
  obtain ⟨u3, v3, e3, -⟩ := id hV.m0
  obtain ⟨u4, v4, e4, -⟩ := id hV.m1
  obtain ⟨vp, pv, pair, log, m0, m1⟩ := V
  simp only at e0 e1 e2 e3 e4 hcap
  subst e0 e1 e2 e3 e4
  obtain ⟨w0, hw0⟩ : ∃ w0, w0 = (w.alloc (.cells #[.int .i64 a, .int .i64 b, .int .i64 c] 23)).alloc (.cells #[.slice u0 pv.length v0, .slice u1 m.pair.length v1, .slice u2 m.log.length v2, .slice u3 m.m0.length v3, .slice u4 m.m1.length v4] 43) := ⟨_, rfl⟩
  have k0 : Kept [] w w0 := by rw [hw0]; exact ((Kept.refl [] w).alloc _).alloc _
  have bS : Blk w0 w.heap.size 23 [.int .i64 a, .int .i64 b, .int .i64 c] := by rw [hw0]; exact (Blk.new w _ _).kept ((Kept.refl [] _).alloc _) (by simp)
  have bI : Blk w0 (w.heap.size + 1) 43 [.slice u0 pv.length v0, .slice u1 m.pair.length v1, .slice u2 m.log.length v2, .slice u3 m.m0.length v3, .slice u4 m.m1.length v4] := by
    rw [hw0]
    have := Blk.new (w.alloc (.cells #[.int .i64 a, .int .i64 b, .int .i64 c] 23)) 43 [.slice u0 pv.length v0, .slice u1 m.pair.length v1, .slice u2 m.log.length v2, .slice u3 m.m0.length v3, .slice u4 m.m1.length v4]
    rwa [World.size_alloc] at this
  have hS0 := hV.kept k0
  have s0 := bS.cell (j := 0) rfl
  have s1 := bS.cell (j := 1) rfl
  have s2 := bS.cell (j := 2) rfl
  have hmb := mayBe_any a b c w0
  have HW0 : Hid (w0 = (w.alloc (.cells #[.int .i64 a, .int .i64 b, .int .i64 c] 23)).alloc (.cells #[.slice u0 pv.length v0, .slice u1 m.pair.length v1, .slice u2 m.log.length v2, .slice u3 m.m0.length v3, .slice u4 m.m1.length v4] 43)) := hw0
  have HI : Hid (Blk w0 (w.heap.size + 1) 43 [.slice u0 pv.length v0, .slice u1 m.pair.length v1, .slice u2 m.log.length v2, .slice u3 m.m0.length v3, .slice u4 m.m1.length v4]) := bI
  have HV : Hid (SeeIm w0 ⟨.slice u0 pv.length v0, pv, .slice u1 m.pair.length v1, .slice u2 m.log.length v2, .slice u3 m.m0.length v3, .slice u4 m.m1.length v4⟩ m) := hS0
  have hpl := fun W (k : Kept [] w0 W) => placesOf_any ⟨.slice u0 pv.length v0, pv, .slice u1 m.pair.length v1, .slice u2 m.log.length v2, .slice u3 m.m0.length v3, .slice u4 m.m1.length v4⟩ m W (hS0.kept k) hcap
  unfold IV.agg at hpl ⊢
  dsimp only at hpl ⊢
  cases h : shapeOk a b c with
  | false =>
    have hE : loadE a b c m = 60 := by unfold loadE; rw [h]; rfl
    rw [h] at hmb
    rw [hE]
    rw [hw0] at s0 s1 s2 hmb
    clear h hE hw0 bS bI hS0 hpl hV hcap
    go_enter Try.func32, Try.ntmps32
    go_wp2_with fail
    refine hmb.mono ?_
    rintro e w1 ⟨rfl, k1⟩
    clear hmb
    rw [← HW0.out] at k1
    go_wp2
    go_ret2
    exact ⟨_, rfl, .inr ⟨by omega, rfl, k0.then k1⟩⟩
  | true =>
    rw [h] at hmb
    obtain ⟨np, ns, lm, rfl, rfl, rfl, h1, h2, h3⟩ := shapeOk_nat h
    have hE : loadE (np : Int) (ns : Int) (lm : Int) m = if imOk np ns lm m = true then 0 else 62 := by
      unfold loadE
      rw [if_pos h]
      rfl
    have eD : loadD (np : Int) (ns : Int) (lm : Int) m = DS.load np ns lm m := by simp [loadD]
    rw [eD]
    rw [hE]
    obtain ⟨E, hEE⟩ : ∃ E : Int, E = (if imOk np ns lm m = true then 0 else 62) := ⟨_, rfl⟩
    rw [← hEE]
    have HEE : Hid (E = (if imOk np ns lm m = true then 0 else 62)) := hEE
    clear hEE
    have HS : Hid ((1 ≤ np ∧ np ≤ 16) ∧ (1 ≤ ns ∧ ns ≤ 8) ∧ (1024 ≤ lm ∧ lm ≤ 65536)) := ⟨h1, h2, h3⟩
    have hbl := fun W => pblank_any np ns lm W h1 h2.2
    rw [hw0] at s0 s1 s2 hmb
    clear h hE hw0 bS bI hS0 hV hcap eD h1 h2 h3
    go_enter Try.func32, Try.ntmps32
    go_wp2_with fail
    refine hmb.mono ?_
    rintro e w1 ⟨rfl, k1⟩
    clear hmb
    have d0 := k1.cell s0 (by simp)
    have d1 := k1.cell s1 (by simp)
    have d2 := k1.cell s2 (by simp)
    rw [← HW0.out] at k1
    obtain ⟨⟨i0, i1, i2, i3, i4⟩, -⟩ := (HI.out.kept k1 (by simp)).five
    have hpl1 := hpl w1 k1
    clear s0 s1 s2 hpl
    go_wp2_with fail
    refine hpl1.mono ?_
    clear hpl1
    rintro e w2 ⟨vq, rfl, o2, k2⟩
    obtain ⟨gq, cq, rfl, -⟩ := own_at8 o2 (by omega)
    have d0' := k2.cell d0 (by simp)
    have d1' := k2.cell d1 (by simp)
    have d2' := k2.cell d2 (by simp)
    have hb2 := hbl w2
    clear d0 d1 d2 i0 i1 i3 i4 hbl
    go_wp2_with fail
    refine hb2.mono ?_
    clear hb2
    rintro e w3 ⟨vb, pb, rfl, hP3, k3⟩
    obtain ⟨gb, cb, rfl, -⟩ := own_at8 hP3.row (by omega)
    have o3 := own_of_kept o2 k3 (by simp)
    have heq := eqFunc_any (.slice (some ⟨gq, 0, none⟩) (pv.length + 3) cq) (.slice (some ⟨gb, 0, none⟩) (np + 3) cb) _ _ (pv.length + 3) (np + 3) _ pb _ _ w3 o3 hP3.row ((HV.out.kept ((k1.then k2).then k3)).lens) hP3.lens (by omega) (by omega)
    have elen : (prows np (blankRows np ns)).map List.length = List.replicate np (pgB ns) ++ [16 + pgB ns, 40, 40] := by
      rw [show prows np (blankRows np ns) = List.replicate np (zer (pgB ns)) ++ [zer (16 + pgB ns), zer 40, zer 40] from prows_parts (by simp)]
      simp [zer]
    rw [elen] at heq
    have hz0 := imOk_lens np ns lm m
    obtain ⟨y, hy⟩ : ∃ y, y = decide (m.ps.map List.length ++ [m.pair.length, m.m0.length, m.m1.length] = List.replicate np (pgB ns) ++ [16 + pgB ns, 40, 40]) := ⟨_, rfl⟩
    rw [← hy] at heq hz0
    clear hy elen hP3 o3
    have f0 := k3.cell d0' (by simp)
    have f1 := k3.cell d1' (by simp)
    have f2 := k3.cell d2' (by simp)
    have KQ : Hid (Kept [] w0 w2 ∧ Kept [] w2 w3 ∧ w2.ownsRow w1.heap.size 33 1 (.slice (some ⟨gq, 0, none⟩) (pv.length + 3) cq) (pv.length + 3) (pv ++ [.slice u1 m.pair.length v1, .slice u3 m.m0.length v3, .slice u4 m.m1.length v4])) := ⟨k1.then k2, k3, o2⟩
    have j2 := k3.cell (k2.cell i2 (by simp)) (by simp)
    clear k1 k2 k3 d0' d1' d2' i2 o2
    cases y with
    | false =>
      rw [Bool.false_and] at hz0
      have hE2 : E = 62 := by rw [HEE.out, hz0]; rfl
      subst hE2
      go_wp2_with fail
      refine heq.mono ?_
      rintro e w4 ⟨rfl, k4⟩
      clear heq f0 f1 f2 j2
      go_wp2
      go_ret2
      exact ⟨_, rfl, .inr ⟨by simp, rfl, ((k0.then KQ.out.1).then KQ.out.2.1).then k4⟩⟩
    | true =>
      rw [Bool.true_and] at hz0
      by_cases hlg : m.log.length ≤ lm
      · rw [decide_eq_true hlg] at hz0
        have hE2 : E = 0 := by rw [HEE.out, hz0]; rfl
        subst hE2
        have HOK : Hid (imOk np ns lm m = true) := hz0
        have hlg' : ¬ (lm : Int) < (m.log.length : Int) := by omega
        go_wp2_with fail
        refine heq.mono ?_
        rintro e w4 ⟨rfl, k4⟩
        clear heq
        have g0 := k4.cell f0 (by simp)
        have g1 := k4.cell f1 (by simp)
        have g2 := k4.cell f2 (by simp)
        have l2 := k4.cell j2 (by simp)
        have kk : Kept [] w0 w4 := (KQ.out.1.then KQ.out.2.1).then k4
        have hpn : pv.length = np := by
          have h9 := HOK.out
          unfold imOk at h9
          simp only [Bool.and_eq_true, decide_eq_true_eq] at h9
          have := HV.out.len
          simp only at this
          omega
        have hok := DS.Ok.ofLoad HS.out.1 HS.out.2.1 HS.out.2.2 HOK.out
        have hrw : w4.ownsRow w1.heap.size 33 1 (.slice (some ⟨gq, 0, none⟩) (pv.length + 3) cq) (np + 3) (pv ++ [.slice u1 m.pair.length v1, .slice u3 m.m0.length v3, .slice u4 m.m1.length v4]) := by
          have := own_of_kept KQ.out.2.2 (KQ.out.2.1.then k4) (by simp)
          rw [hpn] at this ⊢
          exact this
        have hps : m.ps.length = np := by have := HV.out.len; simp only at this; omega
        have epr : prows np m.rows = m.ps ++ [m.pair, m.m0, m.m1] := prows_parts hps
        have hsee := HV.out.kept kk
        have hcop := fun W (k : Kept [] w4 W) => pcopied_any (.slice (some ⟨gq, 0, none⟩) (pv.length + 3) cq) w1.heap.size (np + 3) (pv ++ [.slice u1 m.pair.length v1, .slice u3 m.m0.length v3, .slice u4 m.m1.length v4]) (m.ps ++ [m.pair, m.m0, m.m1]) W (own_of_kept hrw k (by simp)) (by simp [hps]) (fun i u l hu hl => (hsee.all i u l hu hl).kept k) (by rw [← epr]; exact prows_short hok.len hok.row hok.ns.2) (by have := HS.out.1; omega) (by omega)
        have hla := fun (vp : Value) (pv' : List Value) (W : World) (k : Kept [] w4 W) (hP : Pls W w.heap.size vp (np + 3) pv' (m.ps ++ [m.pair, m.m0, m.m1])) => lasting_any (DS.load np ns lm m) w.heap.size vp (.slice u2 m.log.length v2) pv' W hok ⟨rfl, rfl, rfl⟩ ⟨rfl, rfl⟩ (by show Pls W _ vp (np + 3) pv' (prows np m.rows); rw [epr]; exact hP) (Nat.le_trans k0.size (Nat.le_trans kk.size k.size)) (hsee.log.kept k)
        have HLA : Hid (∀ (vp : Value) (pv' : List Value) (W : World), Kept [] w4 W → Pls W w.heap.size vp (np + 3) pv' (m.ps ++ [m.pair, m.m0, m.m1]) → Calls Try.prog 45 #[.agg #[.int .i64 (np : Int), .int .i64 (ns : Int), .int .i64 (lm : Int)], vp, .slice u2 m.log.length v2] W fun e w' => ∃ u, e = .returned u ∧ (∃ F, PD [] w' u (DS.load np ns lm m) F ∧ (∀ x ∈ F, w.heap.size ≤ x)) ∧ Kept [] W w') := hla
        have HSZ : Hid (w.heap.size ≤ w4.heap.size) := (show w.heap.size ≤ w4.heap.size from Nat.le_trans k0.size kk.size)
        have KK : Hid (Kept [] w w4) := k0.then kk
        clear hla hsee epr hps hrw hok hpn kk k4 f0 f1 f2 j2 hz0 hlg
        have kx : Kept [] w4 w4.drew := (Kept.refl [] w4).drew
        go_upto_region 6 with fail
        go_region_held3 (fun w' => w'.cell? ⟨w.heap.size, 0, none⟩ = some (.int .i64 (np : Int)) ∧ w'.cell? ⟨w.heap.size, 1, none⟩ = some (.int .i64 (ns : Int)) ∧ w'.cell? ⟨w.heap.size, 2, none⟩ = some (.int .i64 (lm : Int)) ∧ w'.cell? ⟨w.heap.size + 1, 2, none⟩ = some (.slice u2 m.log.length v2))
          (first
            | (with_reducible exact ⟨kx.cell g0 (by simp), kx.cell g1 (by simp), kx.cell g2 (by simp), kx.cell l2 (by simp)⟩)
            | fail)
          (first
            | (go_at_call 52; refine (hcop _ kx).mono ?_; rintro e w5 ⟨v5, p5, rfl, r5, k5⟩; have r5' := r5.mono (show w.heap.size ≤ w4.heap.size from HSZ.out); replace kx := kx.then k5; obtain ⟨g5, c5, rfl, -⟩ := own_at8 r5.row (by omega))
            | (go_at_call 45; refine (HLA.out _ p5 _ kx r5').mono ?_; rintro e w6 ⟨u, rfl, ⟨F, hD, hF⟩, k6⟩; replace kx := kx.then k6; obtain ⟨gu, rfl⟩ := hD.ptr)
            | fail)
        have FIN : Hid (Born (PD []) w w6 (.pointer (some ⟨gu, 0, none⟩)) (DS.load np ns lm m)) := ⟨F, hD, hF, KK.out.then kx⟩
        clear hD hF kx k5 k6 r5 r5' HLA hcop g0 g1 g2 l2
        go_wp2
        go_ret2
        exact ⟨_, rfl, .inl ⟨rfl, FIN.out⟩⟩
      · rw [decide_eq_false hlg] at hz0
        have hE2 : E = 62 := by rw [HEE.out, hz0]; rfl
        subst hE2
        have hlg' : (lm : Int) < (m.log.length : Int) := by omega
        go_wp2_with fail
        refine heq.mono ?_
        rintro e w4 ⟨rfl, k4⟩
        clear heq
        have g2 := k4.cell f2 (by simp)
        have l2 := k4.cell j2 (by simp)
        clear f0 f1 f2 j2
        go_wp2
        go_ret2
        exact ⟨_, rfl, .inr ⟨by simp, rfl, ((k0.then KQ.out.1).then KQ.out.2.1).then k4⟩⟩
end Go.Proofs.Ytmipmiaflompmaa

/-
  OWN WORK. The program's disk: Copy. (The loose writes never change: a copy has the same ones.)
-/
namespace Go.Proofs.Ytmipmiaflompmaa
open Go.RowKit
set_option linter.unusedVariables false

theorem clone_any (v : Value) (b0 n : Nat) (fs : List Value) (w : World) (hrow : w.ownsRow b0 95 1 v n fs) (h1 : ∀ u ∈ fs, u.oneCell' = true) (hcap : n * 40 ≤ 140737488355328) :
    Calls Try.prog 59 #[v] w fun e w' => ∃ v', e = .returned v' ∧ w'.ownsRow w.heap.size 95 1 v' n fs ∧ Kept [] w w' := by
  have heq : ∀ (w : World) (a : Option Addr) (n c : Nat), (binOp .eql 90 (.slice a n c) (.slice none 0 0)).run Try.prog w = .ok (.bool a.isNone) w := fun w a n c => Lib.run_eql_slice_nil w _ _ a n c 0 0 Try.underlying90
  have hlen : fs.length = n := by have := hrow.1; omega
  obtain ⟨p, c, rfl⟩ := own_shape2 hrow
  rcases hrow.2 with ⟨e1, e0⟩ | ⟨g, cap, cur, e1, hlt, h2, h3, h4, h5, h6⟩
  · cases e1
    have hf : fs = [] := List.length_eq_zero_iff.1 (by omega)
    subst hf
    clear hrow h1 hcap
    go_enter Try.func59, Try.ntmps59
    go_wp2
    go_ret
    exact ⟨_, rfl, World.ownsRow_nil _ _ _ _, Kept.refl _ _⟩
  · cases e1
    have kb := (Kept.refl [] w).alloc (.cells #[] 95)
    have ob : (w.alloc (.cells #[] 95)).ownsRow w.heap.size 95 1 (.slice (some ⟨w.heap.size, 0, none⟩) 0 0) 0 [] := World.ownsRow_made w #[] 0 (Nat.le_refl _) (by decide) rfl
    have hnews : ∀ (j : Nat) u, fs[j]? = some u → (w.alloc (.cells #[] 95)).cell? ((⟨g, 0, none⟩ : Addr).add j) = some u := fun j u hj => by
      rw [add_none rfl, Nat.zero_add]
      exact kb.cell (own_cell hrow hj).1 (by simp)
    have HC : Hid (n * 40 ≤ 140737488355328) := hcap
    clear hrow h2 h5 h6 hcap hlt h3 h4
    go_enter Try.func59, Try.ntmps59
    go_wp2_with (at_builtin; refine wpList_append_own2 rfl (.tmp 5) (.tmp 6) 90 rfl w.heap.size 95 Try.underlying90 .nilFunc 8 (by kernel_rfl) rfl _ _ _ (by rfl) ob ⟨g, 0, none⟩ n c fs (by rfl) hlen hnews h1 (by have := HC.out; unfold maxLen; omega) (by have := HC.out; omega) (by simp) ?_; intro v5 w5 o5 g5 at5; obtain ⟨p5, c5, rfl⟩ := own_shape2 o5)
    go_ret
    exact ⟨_, rfl, by simpa using o5, kb.grown g5 fun k hk => .inr (own_ge ob k hk)⟩
/-- a disk made of its parts, the loose writes another disk's -/
theorem PR.make2 {W : World} {base g : Nat} {d : DS} {vl vr vf vlog : Value} {pl pr fs : List Value} {Z : List Nat} (hok : d.Ok) (hd : d.stop = 0 ∧ d.dead = false)
    (hL : Pls W base vl (d.np + 3) pl (prows d.np d.rows)) (hR : Pls W base vr (d.np + 3) pr (prows d.np d.seen)) (hF : W.ownsRow base 95 1 vf d.loose.length fs) (hlo : ∀ (i : Nat) f x, fs[i]? = some f → d.loose[i]? = some x → Lo d.np Z W f x.1 x.2) (hZ : ∀ x ∈ Z, x < base)
    (hlog : W.ownsRow base 5 1 vlog d.log.length (u8s d.log))
    (a1 : ∀ x ∈ blocks pl, x ∉ blocks pr) (a2 : ∀ x, vlog.ownBlock = some x → x ∉ blocks pl ∧ x ∉ blocks pr) (a3 : ∀ x, vl.ownBlock = some x → vr.ownBlock ≠ some x)
    (hb : Blk W g 92 ((⟨vl, pl, vr, pr, vf, fs, vlog, 0, Z⟩ : PDat).cells d)) (hg : base ≤ g) :
    PD Z W (.pointer (some ⟨g, 0, none⟩)) d ((⟨vl, pl, vr, pr, vf, fs, vlog, 0, Z⟩ : PDat).foot g) ∧ ∀ x ∈ (⟨vl, pl, vr, pr, vf, fs, vlog, 0, Z⟩ : PDat).foot g, base ≤ x := by
  obtain ⟨d2, d3⟩ := hd
  have f1 : Fam W base (pl ++ pr) (prows d.np d.rows ++ prows d.np d.seen) := hL.fam.join hR.fam a1
  have f2 : Fam W base (vlog :: (pl ++ pr)) (d.log :: (prows d.np d.rows ++ prows d.np d.seen)) := (Fam.one hlog).join f1 (fun x hx hm => by
    obtain ⟨k, v, hv, hx⟩ := blocks_mem hx
    rcases k with _ | k
    · simp at hv; subst hv
      obtain ⟨j, u, hu, hux⟩ := blocks_mem hm
      have hu : (pl ++ pr)[j]? = some u := hu
      rcases Nat.lt_or_ge j pl.length with c | c
      · rw [List.getElem?_append_left c] at hu
        exact (a2 x hx).1 (mem_blocks hu hux)
      · rw [List.getElem?_append_right c] at hu
        exact (a2 x hx).2 (mem_blocks hu hux)
    · simp at hv)
  have hge : ∀ x ∈ (⟨vl, pl, vr, pr, vf, fs, vlog, 0, Z⟩ : PDat).foot g, base ≤ x := fun x hx => by
    unfold PDat.foot at hx
    simp only [List.mem_cons, List.mem_append, Option.mem_toList, PDat.rows] at hx
    rcases hx with c | ((c | c) | c) | c
    · rw [c]; exact hg
    · exact own_ge hL.row x c
    · exact own_ge hR.row x c
    · exact own_ge hF x c
    · exact (f2.not8 c).2.1
  have hlt := hb.lt
  refine ⟨⟨g, _, rfl, ⟨hok, hb, f2.mono (Nat.zero_le _), own_mono hL.row (Nat.zero_le _), own_mono hR.row (Nat.zero_le _), own_mono hF (Nat.zero_le _), hlo, a3, ?_, wrap_i64_of (by show (-9223372036854775808 : Int) ≤ 0; omega) (by show (0 : Int) < _; omega), fun x hx => ⟨fun hm => by have := hge x hm; have := hZ x hx; omega, by have := hZ x hx; omega⟩⟩, rfl, rfl⟩, hge⟩
  intro _; rw [d2]; rfl
theorem Lo.one {np : Nat} {Z : List Nat} {w : World} {f : Value} {k : Nat} {b : List UInt8} (h : Lo np Z w f k b) : f.oneCell' = true := by
  obtain ⟨gp, gb, vb, rfl, -⟩ := h
  rfl
set_option maxHeartbeats 3200000 in
theorem pCopy (Z : List Nat) (v : Value) (d : DS) (F : List Nat) (w : World) (h : PD Z w v d F) (hcap : d.loose.length * 40 ≤ 140737488355328) :
    Calls Try.prog 27 #[v] w fun e w' => ∃ u, e = .returned u ∧ Born (PD Z) w w' u d.copy := by
  obtain ⟨g, R, rfl, h, rfl, rfl⟩ := h
  have hL := fun W (k : Kept [] w W) => pcopied_any R.vl 0 (d.np + 3) R.pl (prows d.np d.rows) W (own_of_kept h.rowL k (by simp)) (prows_length _ _) (fun i u l hu hl => (h.bsL i u l hu hl).kept k) (prows_short h.ok.len h.ok.row h.ok.ns.2) (by have := h.ok.np; omega) (by omega)
  have hR := fun W (k : Kept [] w W) => pcopied_any R.vr 0 (d.np + 3) R.pr (prows d.np d.seen) W (own_of_kept h.rowR k (by simp)) (prows_length _ _) (fun i u l hu hl => (h.bsR i u l hu hl).kept k) (prows_short h.ok.seenLen h.ok.seen h.ok.ns.2) (by have := h.ok.np; omega) (by omega)
  have hone : ∀ u ∈ R.fs, u.oneCell' = true := fun u hu => by
    obtain ⟨i, hi⟩ := List.getElem?_of_mem hu
    have hl : i < d.loose.length := by have := h.rowF.1; have := (List.getElem?_eq_some_iff.1 hi).1; omega
    exact (h.loose i u _ hi (List.getElem?_eq_getElem hl)).one
  have hC := fun W (k : Kept [] w W) => clone_any R.vf 0 d.loose.length R.fs W (own_of_kept h.rowF k (by simp)) hone hcap
  obtain ⟨plg, clg, elg, hbl, -⟩ := h.shapes
  have hO := fun W (k : Kept [] w W) => pown_any R.vlog d.log W (hbl.kept k) (by have := h.ok.log; have := h.ok.lm; omega)
  obtain ⟨gL, cL, eL, -⟩ := own_at8 h.rowL (by omega)
  obtain ⟨gR, cR, eR, -⟩ := own_at8 h.rowR (by omega)
  obtain ⟨pF, cF, eF⟩ := own_shape2 h.rowF
  have c0 := h.blk.cell (j := 0) rfl
  have c1 := h.blk.cell (j := 1) rfl
  have c2 := h.blk.cell (j := 2) rfl
  have c3 := h.blk.cell (j := 3) (v := R.vl) rfl
  have c4 := h.blk.cell (j := 4) (v := R.vr) rfl
  have c5 := h.blk.cell (j := 5) (v := R.vf) rfl
  have c6 := h.blk.cell (j := 6) (v := R.vlog) rfl
  have c7 := h.blk.cell (j := 7) rfl
  rw [eL] at c3 hL
  rw [eR] at c4 hR
  rw [eF] at c5 hC
  rw [elg] at c6 hO
  have HP : Hid (PR w g d R) := h
  have kx : Kept [] w w.drew := (Kept.refl [] w).drew
  clear h hbl hone hcap
  go_enter Try.func27, Try.ntmps27
  go_upto_region 1 with fail
  have tok : True := trivial
  go_region_held3 (fun w' => w'.cell? ⟨g, 0, none⟩ = some (.int .i64 (d.np : Int)) ∧ w'.cell? ⟨g, 1, none⟩ = some (.int .i64 (d.ns : Int)) ∧ w'.cell? ⟨g, 2, none⟩ = some (.int .i64 (d.lm : Int)) ∧ w'.cell? ⟨g, 3, none⟩ = some (.slice (some ⟨gL, 0, none⟩) (d.np + 3) cL) ∧ w'.cell? ⟨g, 4, none⟩ = some (.slice (some ⟨gR, 0, none⟩) (d.np + 3) cR) ∧ w'.cell? ⟨g, 5, none⟩ = some (.slice pF d.loose.length cF) ∧ w'.cell? ⟨g, 6, none⟩ = some (.slice plg d.log.length clg) ∧ w'.cell? ⟨g, 7, none⟩ = some (.int .i64 (d.lasted : Int)))
    (first
      | (with_reducible exact ⟨kx.cell c0 (by simp), kx.cell c1 (by simp), kx.cell c2 (by simp), kx.cell c3 (by simp), kx.cell c4 (by simp), kx.cell c5 (by simp), kx.cell c6 (by simp), kx.cell c7 (by simp)⟩)
      | (with_reducible exact ⟨(kx.alloc _).cell c0 (by simp), (kx.alloc _).cell c1 (by simp), (kx.alloc _).cell c2 (by simp), (kx.alloc _).cell c3 (by simp), (kx.alloc _).cell c4 (by simp), (kx.alloc _).cell c5 (by simp), (kx.alloc _).cell c6 (by simp), (kx.alloc _).cell c7 (by simp)⟩)
      | fail)
    (first
      | (go_at_call 52; clear tok; refine (hL _ kx).mono ?_; rintro e w1 ⟨v1, p1, rfl, r1, k1⟩; have s1 := kx.size; replace kx := kx.then k1; obtain ⟨g1, d1, rfl, -⟩ := own_at8 r1.row (by omega))
      | (go_at_call 52; refine (hR _ kx).mono ?_; rintro e w2 ⟨v2, p2, rfl, r2, k2⟩; have s2 := kx.size; replace kx := kx.then k2; obtain ⟨g2, d2, rfl, -⟩ := own_at8 r2.row (by omega))
      | (go_at_call 59; refine (hC _ kx).mono ?_; rintro e w3 ⟨v3, rfl, r3, k3⟩; have s3 := kx.size; replace kx := kx.then k3; obtain ⟨p3, d3, rfl⟩ := own_shape2 r3)
      | (go_at_call 60; refine (hO _ kx).mono ?_; rintro e w4 ⟨v4, rfl, r4, k4⟩; have s4 := kx.size; replace kx := kx.then k4; obtain ⟨p4, d4, rfl⟩ := own_shape2 r4)
      | fail)
  have h := HP.out
  have z1 := k1.size
  have z2 := k2.size
  have z3 := k3.size
  have z4 := k4.size
  obtain ⟨W, hW⟩ : ∃ W, W = w4.alloc (.cells #[.int .i64 (d.np : Int), .int .i64 (d.ns : Int), .int .i64 (d.lm : Int), .slice (some ⟨g1, 0, none⟩) (d.np + 3) d1, .slice (some ⟨g2, 0, none⟩) (d.np + 3) d2, .slice p3 d.loose.length d3, .slice p4 d.log.length d4, .int .i64 (d.lasted : Int), .int .i64 0, .int .i64 0, .bool false] 92) := ⟨_, rfl⟩
  have kW : Kept [] w4 W := by rw [hW]; exact (Kept.refl [] w4).alloc _
  have bW : Blk W w4.heap.size 92 ((⟨.slice (some ⟨g1, 0, none⟩) (d.np + 3) d1, p1, .slice (some ⟨g2, 0, none⟩) (d.np + 3) d2, p2, .slice p3 d.loose.length d3, R.fs, .slice p4 d.log.length d4, 0, R.Z⟩ : PDat).cells d.copy) := by rw [hW]; exact Blk.new w4 _ _
  have q1 := (r1.kept (((k2.then k3).then k4).then kW)).mono s1
  have q2 := (r2.kept ((k3.then k4).then kW)).mono s2
  have q3 := own_mono (own_of_kept r3 (k4.then kW) (by simp)) s3
  have q4 := own_mono (own_of_kept r4 kW (by simp)) s4
  have b1 : ∀ x ∈ blocks p1, x < w1.heap.size := fun x hx => (r1.fam.not8 hx).2.2
  have b2 : ∀ x ∈ blocks p2, w1.heap.size ≤ x ∧ x < w2.heap.size := fun x hx => ⟨(r2.fam.not8 hx).2.1, (r2.fam.not8 hx).2.2⟩
  have fin := PR.make2 (W := W) (base := w.heap.size) (g := w4.heap.size) (d := d.copy) (Z := R.Z) h.ok.copy ⟨rfl, rfl⟩ q1 q2 q3 (fun i f x hf hx => (h.loose i f x hf hx).kept (kx.then kW) (by simp)) (fun x hx => (h.frz x hx).2) q4
    (fun x hx hm => by have := b1 x hx; have := (b2 x hm).1; omega) (fun x hx => by have := own_ge r4 x hx; exact ⟨fun hm => by have := b1 x hm; omega, fun hm => by have := (b2 x hm).2; omega⟩) (fun x hx hm => by have h1 := own_lt r1.row x hx; have h2 := own_ge r2.row x hm; omega) bW (by omega)
  have FIN : Hid (Born (PD R.Z) w W (.pointer (some ⟨w4.heap.size, 0, none⟩)) d.copy) := ⟨_, fin.1, fin.2, kx.then kW⟩
  have HWW : Hid (W = w4.alloc (.cells #[.int .i64 (d.np : Int), .int .i64 (d.ns : Int), .int .i64 (d.lm : Int), .slice (some ⟨g1, 0, none⟩) (d.np + 3) d1, .slice (some ⟨g2, 0, none⟩) (d.np + 3) d2, .slice p3 d.loose.length d3, .slice p4 d.log.length d4, .int .i64 (d.lasted : Int), .int .i64 0, .int .i64 0, .bool false] 92)) := hW
  clear fin q1 q2 q3 q4 bW kW hW b1 b2 r1 r2 r3 r4 k1 k2 k3 k4 kx c0 c1 c2 c3 c4 c5 c6 c7 h hL hR hC hO s1 s2 s3 s4 z1 z2 z3 z4
  go_wp2
  rw [← HWW.out]
  go_ret
  exact ⟨_, rfl, FIN.out⟩
end Go.Proofs.Ytmipmiaflompmaa

/-
  OWN WORK. The program's disk: Crash.
-/
namespace Go.Proofs.Ytmipmiaflompmaa
open Go.RowKit
set_option linter.unusedVariables false

theorem pnext_any (vk : Value) (keep : List Int) (i : Nat) (w : World) (hk : Is w vk keep) (hi : i < 9223372036854775807) :
    Calls Try.prog 53 #[vk, .int .i64 (i : Int)] w fun e w' => e = .returned (.int .i64 (keepAt keep i)) ∧ w' = w := by
  obtain ⟨pk, ck, rfl, -⟩ := id hk
  by_cases hkl : keep.length = 0
  · have ek : keepAt keep i = 0 := by
      have : keep = [] := List.length_eq_zero_iff.1 hkl
      subst this
      rfl
    rw [ek, hkl]
    clear hk hi ek
    go_enter Try.func53, Try.ntmps53
    go_wp2
    go_ret
    exact ⟨rfl, rfl⟩
  · obtain ⟨kb, ko, kc, eK, -, hkc⟩ := hk.pos (by omega)
    cases eK
    have hkl0 : ¬ (keep.length : Int) = 0 := by omega
    have hmod : i % keep.length < keep.length := Nat.mod_lt _ (by omega)
    obtain ⟨kk, hkk⟩ : ∃ x, keep[i % keep.length]? = some x := ⟨_, List.getElem?_eq_getElem hmod⟩
    have ek : keepAt keep i = kk := by unfold keepAt; simp [List.getD, hkk]
    have kc0 := hkc _ _ hkk
    obtain ⟨j, hj⟩ : ∃ j, j = i % keep.length := ⟨_, rfl⟩
    rw [← hj] at hmod hkk kc0
    have hmod' : (j : Int) < (keep.length : Int) := by omega
    have hjk : j ≤ i := by rw [hj]; exact Nat.mod_le _ _
    have r1 : (i : Int) % (keep.length : Int) = (j : Int) := by rw [hj]; rfl
    have r2 : (i : Int).tmod (keep.length : Int) = (j : Int) := by rw [Int.tmod_eq_emod_of_nonneg (by omega), r1]
    have r3 : IntKind.i64.wrap (j : Int) = (j : Int) := wrap_i64_of (by omega) (by omega)
    rw [ek]
    clear hk hi ek hjk hj r1 hkk hkc hmod
    go_enter Try.func53, Try.ntmps53
    go_wp2
    go_ret
    exact ⟨rfl, rfl⟩
theorem Pls.lays {w w' : World} {base n j : Nat} {v u : Value} {pv : List Value} {ls : List (List UInt8)} {l : List UInt8} (h : Pls w base v n pv ls) (hu : pv[j]? = some u) (ho : w'.ownsRow base 5 1 u l.length (u8s l)) (k : Kept u.ownBlock.toList w w') : Pls w' base v n pv (ls.set j l) :=
  ⟨own_of_kept h.row k (fun y hy hm => (h.fam.not8 (mem_blocks hu (by simpa using hm))).1 (own_not8 h.row (by decide) y hy)), Fam.set h.fam j u l hu k ho⟩
set_option maxHeartbeats 6400000 in
theorem pCrash (Z : List Nat) (v : Value) (d : DS) (F : List Nat) (c : Int) (vk : Value) (keep : List Int) (w : World) (h : PD Z w v d F) (hk : Is w vk keep) :
    Calls Try.prog 16 #[v, .agg #[.int .i64 c, vk]] w fun e w' => ∃ u, e = .returned u ∧ Born (PD []) w w' u (d.crash c keep) := by
  obtain ⟨g, R, rfl, h, rfl, rfl⟩ := h
  obtain ⟨pk, ck, rfl, -⟩ := id hk
  obtain ⟨w0, hw0⟩ : ∃ w0, w0 = w.alloc (.cells #[.int .i64 c, .slice pk keep.length ck] 39) := ⟨_, rfl⟩
  have k0 : Kept [] w w0 := by rw [hw0]; exact (Kept.refl [] w).alloc _
  have bC : Blk w0 w.heap.size 39 [.int .i64 c, .slice pk keep.length ck] := by rw [hw0]; exact Blk.new w _ _
  have h0 := h.kept k0 (by simp) (by simp)
  have hcop := pcopied_any R.vl 0 (d.np + 3) R.pl (prows d.np d.rows) w0 h0.rowL (prows_length _ _) h0.bsL (prows_short h.ok.len h.ok.row h.ok.ns.2) (by have := h.ok.np; omega) (by omega)
  obtain ⟨gL, cL, eL, -⟩ := own_at8 h0.rowL (by omega)
  obtain ⟨pF, cF, eF⟩ := own_shape2 h0.rowF
  obtain ⟨plg, clg, elg, hbl, -⟩ := h0.shapes
  have c3 := h0.blk.cell (j := 3) (v := R.vl) rfl
  have c5 := h0.blk.cell (j := 5) (v := R.vf) rfl
  rw [eL] at c3 hcop
  rw [eF] at c5
  have q1 := bC.cell (j := 1) rfl
  have HK : Hid (Is w0 (.slice pk keep.length ck) keep) := hk.kept k0
  have H0 : Hid (PR w0 g d R) := h0
  have HB : Hid (Blk w0 w.heap.size 39 [.int .i64 c, .slice pk keep.length ck] ∧ Kept [] w w0) := ⟨bC, k0⟩
  have HW0 : Hid (w0 = w.alloc (.cells #[.int .i64 c, .slice pk keep.length ck] 39)) := hw0
  have HE : Hid (R.vl = .slice (some ⟨gL, 0, none⟩) (d.np + 3) cL ∧ R.vf = .slice pF d.loose.length cF ∧ R.vlog = .slice plg d.log.length clg) := ⟨eL, eF, elg⟩
  have HLN : Hid (d.loose.length ≤ maxLen) := (show d.loose.length ≤ maxLen by
    rcases h0.rowF.2 with ⟨-, e0⟩ | ⟨g9, cap9, cur9, -, -, -, h3, h4, -⟩
    · omega
    · omega)
  rw [hw0] at c3 hcop
  clear h h0 hk hw0 k0 bC eL eF elg hbl
  go_enter Try.func16, Try.ntmps16
  go_wp2_with fail
  refine hcop.mono ?_
  clear hcop
  rintro e w1 ⟨vp, pv, rfl, hP, k1⟩
  rw [← HW0.out] at hP k1
  clear c3
  obtain ⟨gP, cP, rfl, -⟩ := own_at8 hP.row (by omega)
  have z5 := k1.cell c5 (by simp)
  clear c5 q1
  have HP0 : Hid (Pls w1 w0.heap.size (.slice (some ⟨gP, 0, none⟩) (d.np + 3) cP) (d.np + 3) pv (prows d.np (crashRows keep (d.loose.take 0) 0 d.rows)) ∧ Kept [] w0 w1) := ⟨hP, k1⟩
  have hl63 : (d.loose.length : Int) ≤ 9223372036854775807 := by have := HLN.out; unfold maxLen at this; omega
  clear hP k1
  go_wp2
  go_loopw [19] (fun i wr => ∃ k : Nat, k ≤ d.loose.length ∧ i = .int .i64 k ∧ Hid (Pls wr w0.heap.size (.slice (some ⟨gP, 0, none⟩) (d.np + 3) cP) (d.np + 3) pv (prows d.np (crashRows keep (d.loose.take k) 0 d.rows)) ∧ Kept [] w0 wr)) (fun i _ => d.loose.length - (intOf i).toNat)
  case atStart => exact ⟨0, Nat.zero_le _, rfl, HP0⟩
  case round =>
    obtain ⟨k, hk, rfl, st⟩ := hrel
    by_cases hlt : k < d.loose.length
    · have hr := H0.out.kept st.out.2 (by simp) (by simp)
      have hfl : R.fs.length = d.loose.length := by have := hr.rowF.1; omega
      obtain ⟨f, hf⟩ : ∃ f, R.fs[k]? = some f := ⟨_, List.getElem?_eq_getElem (by omega)⟩
      obtain ⟨x, hx⟩ : ∃ x, d.loose[k]? = some x := ⟨_, List.getElem?_eq_getElem hlt⟩
      obtain ⟨xk, xb⟩ := x
      obtain ⟨gp, gb, vb, rfl, cap, hgp, hgb, hvb⟩ := hr.loose k f _ hf hx
      simp only at cap hgp hgb hvb
      obtain ⟨hxk, hxb⟩ := hr.ok.loose _ (List.mem_of_getElem? hx)
      simp only at hxk hxb
      have hrF := hr.rowF
      obtain ⟨gf, cf', ef', -⟩ := own_at8 hrF (by omega)
      rw [HE.out.2.1] at ef' hrF
      cases ef'
      have yf := (own_cell hrF hf).1
      unfold theWrite at yf
      have hpj := pix_lt hxk
      have hpl : pv.length = d.np + 3 := by have := st.out.1.row.1; omega
      obtain ⟨u, hu⟩ : ∃ u, pv[pix d.np xk]? = some u := ⟨_, List.getElem?_eq_getElem (by omega)⟩
      have hcu := (own_cell st.out.1.row hu).1
      obtain ⟨hsz, hrl⟩ := crashRows_sized keep (d.loose.take k) 0 d.rows hr.ok.row fun x hx => (hr.ok.loose x (List.mem_of_mem_take hx)).2
      rw [hr.ok.len] at hrl
      have hgd : (crashRows keep (d.loose.take k) 0 d.rows)[xk]? = some ((crashRows keep (d.loose.take k) 0 d.rows).getD xk []) := by
        rw [List.getD_eq_getElem?_getD, List.getElem?_eq_getElem (by rw [hrl]; exact hxk)]; rfl
      have hlen := hsz xk _ hgd
      have hou := st.out.1.fam.own (pix d.np xk) u _ hu (prows_at (crashRows keep (d.loose.take k) 0 d.rows) hxk)
      have b168 : xb.length ≤ 1000 := by rw [hxb]; have := sizeK_le d.np d.ns xk hr.ok.ns.2; omega
      have hkw : IntKind.i64.wrap (keepAt keep k) = keepAt keep k := by
        unfold keepAt
        rw [List.getD_eq_getElem?_getD]
        cases e : keep[k % keep.length]? with
        | none => exact wrap_i64_of (by show (-9223372036854775808 : Int) ≤ 0; omega) (by show (0 : Int) < _; omega)
        | some y => exact HK.out.wrap (List.mem_of_getElem? e)
      have ufar : ∀ y, u.ownBlock = some y → w0.heap.size ≤ y := fun y hy => own_ge hou y hy
      have zlt : ∀ y ∈ R.Z, y < w0.heap.size := fun y hy => (H0.out.frz y hy).2
      have hlay := write1_lays gp gb (pix d.np xk) vb xb gP (d.np + 3) cP w0.heap.size u _ (keepAt keep k) wr cap hpj (by have := hr.ok.np; omega) hcu hou (by rw [hxb, hlen]) (by rw [hlen]; exact sizeK_pos _ _ _) b168 hkw (fun y hy => ⟨fun e => by have := ufar y hy; have := zlt _ hgp; omega, fun e => by subst e; exact (st.out.1.fam.not8 (mem_blocks hu hy)).1 (own_not8 st.out.1.row (by decide) y rfl), fun e => by have := ufar y hy; have := zlt _ hgb; omega⟩)
      have hnx := pnext_any (.slice pk keep.length ck) keep k wr (HK.out.kept st.out.2) (by omega)
      have e4 : (over ((crashRows keep (d.loose.take k) 0 d.rows).getD xk []) 0 (xb.take (keepN (keepAt keep k) xb.length))).length = ((crashRows keep (d.loose.take k) 0 d.rows).getD xk []).length := over0_length (by rw [hxb, hlen]; exact Nat.le_refl _)
      rw [← e4] at hlay
      have ST : Hid (∀ (w4 : World), w4.ownsRow w0.heap.size 5 1 u (over ((crashRows keep (d.loose.take k) 0 d.rows).getD xk []) 0 (xb.take (keepN (keepAt keep k) xb.length))).length (u8s (over ((crashRows keep (d.loose.take k) 0 d.rows).getD xk []) 0 (xb.take (keepN (keepAt keep k) xb.length)))) → Kept u.ownBlock.toList wr w4 → Pls w4 w0.heap.size (.slice (some ⟨gP, 0, none⟩) (d.np + 3) cP) (d.np + 3) pv (prows d.np (crashRows keep (d.loose.take (k + 1)) 0 d.rows)) ∧ Kept [] w0 w4) := fun w4 o4 k4 => by
        refine ⟨?_, st.out.2.trans k4 (fun y hy => .inr (ufar y (by simpa using hy)))⟩
        rw [crash_take hx, crashLay_keep, prows_layR hrl hxk]
        exact st.out.1.lays hu o4 k4
      have hk' : (k : Int) < (d.loose.length : Int) := by omega
      have hk0 : (0 : Int) ≤ (k : Int) := by omega
      have wk : IntKind.i64.wrap ((k : Int) + 1) = (k : Int) + 1 := wrap_i64_of (by omega) (by omega)
      have y1 := st.out.2.cell (HB.out.1.cell (j := 1) rfl) (by simp)
      generalize keepAt keep k = kv at *
      clear hou hgd hlen hrl hsz hcu hu ufar zlt cap hvb hgp hgb hrF hx hf hxb hpl st hr e4 hkw b168 hpj hxk hfl
      go_wp2_with fail
      refine hnx.mono ?_
      rintro e w3 ⟨rfl, rfl⟩
      go_wp2_with fail
      refine hlay.mono ?_
      rintro e w4 ⟨rfl, o4, k4⟩
      have st4 := ST.out w4 o4 k4
      clear hlay hnx o4 k4 ST
      go_wp2
      go_roundw
      case rel => exact ⟨k + 1, by omega, by go_num, st4⟩
      case measure => simp [intOf]; omega
    · obtain rfl : k = d.loose.length := by omega
      have hk' : ¬ (d.loose.length : Int) < (d.loose.length : Int) := by omega
      have hr := H0.out.kept st.out.2 (by simp) (by simp)
      have hll := hr.ok.log
      have hlt := hr.ok.lasted
      have hlm := hr.ok.lm
      obtain ⟨q, hq⟩ : ∃ q, q = d.log.length - d.lasted := ⟨_, rfl⟩
      have e1 : IntKind.i64.wrap ((d.log.length : Int) - (d.lasted : Int)) = (q : Int) := by rw [show ((d.log.length : Int) - (d.lasted : Int)) = (q : Int) by omega]; exact wrap_i64_of (by omega) (by omega)
      have e2 : IntKind.i64.wrap ((q : Int) + 1) = (q : Int) + 1 := wrap_i64_of (by omega) (by omega)
      have hre := fun w' => prest_any c (q + 1) w' (by omega) (by omega)
      simp only [show (((q + 1 : Nat) : Int)) = (q : Int) + 1 by omega] at hre
      have hr1 := restN_lt c q
      obtain ⟨L, hL⟩ : ∃ L, L = crashLog d c := ⟨_, rfl⟩
      have eL : L = d.lasted + restN c (q + 1) := by rw [hL, hq]; rfl
      obtain ⟨rr, hrr⟩ : ∃ rr, rr = restN c (q + 1) := ⟨_, rfl⟩
      rw [← hrr] at hre hr1 eL
      have e3 : IntKind.i64.wrap ((d.lasted : Int) + (rr : Int)) = (L : Int) := by rw [show (d.lasted : Int) + (rr : Int) = (L : Int) by omega]; exact wrap_i64_of (by omega) (by omega)
      have hLl : L ≤ d.log.length := by omega
      have y0 := hr.blk.cell (j := 0) rfl
      have y1 := hr.blk.cell (j := 1) rfl
      have y2 := hr.blk.cell (j := 2) rfl
      have y6 := hr.blk.cell (j := 6) (v := R.vlog) rfl
      have y7 := hr.blk.cell (j := 7) rfl
      obtain ⟨-, -, -, hbl, -⟩ := hr.shapes
      rw [HE.out.2.2] at y6 hbl
      have yq := st.out.2.cell (HB.out.1.cell (j := 0) rfl) (by simp)
      obtain ⟨-, hcut, -, hbL, -⟩ := hbl.cuts (P := Try.prog) 33 5 Try.underlying33 (by kernel_rfl) L hLl
      have i0 : (0 : Int) ≤ (L : Int) := by omega
      have hla := fun W (kW : Kept [] wr W) => lasting_any (d.crash c keep) w0.heap.size (.slice (some ⟨gP, 0, none⟩) (d.np + 3) cP) (.slice plg L clg) pv W (hr.ok.crash c keep) ⟨rfl, rfl, rfl⟩ ⟨rfl, (by show crashLog d c = (d.log.take (crashLog d c)).length; rw [← hL, List.length_take]; omega)⟩ (by have := st.out.1.kept kW; rw [List.take_length] at this; exact this) (Nat.le_trans st.out.2.size kW.size) (by show Bs W _ (d.log.take (crashLog d c)); rw [← hL]; exact hbL.kept kW)
      have HLA : Hid (∀ W : World, Kept [] wr W → Calls Try.prog 45 #[.agg #[.int .i64 (d.np : Int), .int .i64 (d.ns : Int), .int .i64 (d.lm : Int)], .slice (some ⟨gP, 0, none⟩) (d.np + 3) cP, .slice plg L clg] W fun e w' => ∃ u, e = .returned u ∧ (∃ F, PD [] w' u (d.crash c keep) F ∧ (∀ x ∈ F, w0.heap.size ≤ x)) ∧ Kept [] W w') := hla
      have KK : Hid (Kept [] w wr ∧ w.heap.size ≤ w0.heap.size) := ⟨HB.out.2.then st.out.2, HB.out.2.size⟩
      clear hr hll hlt hlm hq hL eL hrr hr1 hbl hla st hbL hLl
      go_upto_region 7 with fail
      go_region_held3 (fun w' => w'.cell? ⟨g, 6, none⟩ = some (.slice plg d.log.length clg) ∧ w'.cell? ⟨g, 7, none⟩ = some (.int .i64 (d.lasted : Int)) ∧ w'.cell? ⟨w.heap.size, 0, none⟩ = some (.int .i64 c))
        (first
          | (with_reducible exact ⟨y6, y7, yq⟩)
          | (with_reducible exact ⟨(Kept.refl [] wr).drew.cell y6 (by simp), (Kept.refl [] wr).drew.cell y7 (by simp), (Kept.refl [] wr).drew.cell yq (by simp)⟩)
          | go_keep)
        (first
          | (go_at_call 54; refine (hre _).mono ?_; rintro e w5 ⟨rfl, rfl⟩)
          | fail)
      clear hre e1 e2 e3
      have kx : Kept [] wr wr.drew.drew := (Kept.refl [] wr).drew.drew
      go_upto_region 8 with fail
      go_region_held3 (fun w' => w'.cell? ⟨g, 0, none⟩ = some (.int .i64 (d.np : Int)) ∧ w'.cell? ⟨g, 1, none⟩ = some (.int .i64 (d.ns : Int)) ∧ w'.cell? ⟨g, 2, none⟩ = some (.int .i64 (d.lm : Int)) ∧ w'.cell? ⟨g, 6, none⟩ = some (.slice plg d.log.length clg))
        (first
          | (with_reducible exact ⟨kx.cell y0 (by simp), kx.cell y1 (by simp), kx.cell y2 (by simp), kx.cell y6 (by simp)⟩)
          | fail)
        (first
          | (go_at_call 45; refine (HLA.out _ kx).mono ?_; rintro e w6 ⟨u, rfl, ⟨F, hD, hF⟩, k6'⟩; replace kx := kx.then k6'; obtain ⟨gu, rfl⟩ := hD.ptr)
          | fail)
      have FIN : Hid (Born (PD []) w w6 (.pointer (some ⟨gu, 0, none⟩)) (d.crash c keep)) := ⟨F, hD, fun x hx => Nat.le_trans KK.out.2 (hF x hx), KK.out.1.then kx⟩
      clear hD hF kx k6' HLA y0 y1 y2 y6 y7 yq hcut
      go_wp2
      go_ret
      exact ⟨_, rfl, FIN.out⟩
end Go.Proofs.Ytmipmiaflompmaa

/-
  OWN WORK. The program's disk, by its pointer and its foot: the blocks that are its own, and those that never change (its loose writes' own cells; a copy has them too). One form for all calls.
-/
namespace Go.Proofs.Ytmipmiaflompmaa
open Go.RowKit
set_option linter.unusedVariables false

structure Foot where
  own : List Nat
  frz : List Nat
def Foot.all (F : Foot) : List Nat := F.own ++ F.frz
theorem Foot.mem_all {F : Foot} {x : Nat} : x ∈ F.all ↔ x ∈ F.own ∨ x ∈ F.frz := by unfold Foot.all; exact List.mem_append
theorem Foot.inOwn {F : Foot} {x : Nat} (h : x ∈ F.own) : x ∈ F.all := Foot.mem_all.2 (.inl h)
theorem Foot.inFrz {F : Foot} {x : Nat} (h : x ∈ F.frz) : x ∈ F.all := Foot.mem_all.2 (.inr h)
/-- a disk of the program's at v tells d; F: its foot -/
def PF (w : World) (v : Value) (d : DS) (F : Foot) : Prop := PD F.frz w v d F.own
/-- the own blocks of F turn, and F' is what is had then -/
def NextP (w w' : World) (F F' : Foot) : Prop := Kept F.own w w' ∧ (∀ x ∈ F'.own, x ∈ F.own ∨ w.heap.size ≤ x) ∧ ∀ x ∈ F'.frz, x ∈ F.frz ∨ w.heap.size ≤ x
theorem NextP.of {w w' : World} {F F' : List Nat} {Z Z' : List Nat} (h : Next w w' F F') (hz : Frz w Z Z') : NextP w w' ⟨F, Z⟩ ⟨F', Z'⟩ := ⟨h.1, h.2, hz⟩
theorem NextP.all {w w' : World} {F F' : Foot} (h : NextP w w' F F') : ∀ x ∈ F'.all, x ∈ F.all ∨ w.heap.size ≤ x := fun x hx => by
  rcases Foot.mem_all.1 hx with c | c
  · rcases h.2.1 x c with e | e
    · exact .inl (Foot.inOwn e)
    · exact .inr e
  · rcases h.2.2 x c with e | e
    · exact .inl (Foot.inFrz e)
    · exact .inr e
theorem NextP.after {w w1 w2 : World} {F F' : Foot} (h : NextP w1 w2 F F') (k : Kept [] w w1) : NextP w w2 F F' :=
  ⟨(k.mono (by simp)).trans h.1 (fun x hx => .inl hx), fun x hx => by have := k.size; rcases h.2.1 x hx with c | c; exact .inl c; exact .inr (by omega), fun x hx => by have := k.size; rcases h.2.2 x hx with c | c; exact .inl c; exact .inr (by omega)⟩
theorem NextP.trans {w w1 w2 : World} {F F' F'' : Foot} (h : NextP w w1 F F') (k : NextP w1 w2 F' F'') : NextP w w2 F F'' :=
  ⟨h.1.trans k.1 (fun x hx => h.2.1 x hx), fun x hx => by have := h.1.size; rcases k.2.1 x hx with c | c; exact h.2.1 x c; exact .inr (by omega), fun x hx => by have := h.1.size; rcases k.2.2 x hx with c | c; exact h.2.2 x c; exact .inr (by omega)⟩
theorem NextP.then {w w1 w2 : World} {F F' : Foot} (h : NextP w w1 F F') (k : Kept [] w1 w2) : NextP w w2 F F' :=
  ⟨h.1.trans k (by simp), h.2.1, h.2.2⟩
theorem PF.ptr {w : World} {v : Value} {d : DS} {F : Foot} (h : PF w v d F) : IsPtr v := PD.ptr h
theorem PF.ok {w : World} {v : Value} {d : DS} {F : Foot} (h : PF w v d F) : d.Ok := PD.ok h
theorem PF.lt {w : World} {v : Value} {d : DS} {F : Foot} (h : PF w v d F) : ∀ x ∈ F.all, x < w.heap.size := fun x hx => by
  rcases Foot.mem_all.1 hx with c | c
  · exact PD.lt h x c
  · exact (PD.frz h x c).2
theorem PF.own {w : World} {v : Value} {d : DS} {F : Foot} (h : PF w v d F) : ∀ x ∈ F.frz, x ∉ F.own := fun x hx => (PD.frz h x hx).1
theorem PF.kept {w w' : World} {v : Value} {d : DS} {F : Foot} {S : List Nat} (h : PF w v d F) (k : Kept S w w') (hS : ∀ x ∈ S, x ∉ F.all) : PF w' v d F := PD.kept h k (fun x hx hm => hS x hx (Foot.inOwn hm)) (fun x hx hm => hS x hx (Foot.inFrz hm))
/-- a disk made anew: what never changes of it lies in Z -/
def BornP (w w' : World) (v : Value) (d : DS) (Z : List Nat) : Prop := ∃ F : Foot, PF w' v d F ∧ (∀ x ∈ F.own, w.heap.size ≤ x) ∧ Kept [] w w' ∧ ∀ x ∈ F.frz, x ∈ Z
theorem BornP.of {w w' : World} {v : Value} {d : DS} {Z : List Nat} (h : Born (PD Z) w w' v d) : BornP w w' v d Z := by
  obtain ⟨F, h1, h2, h3⟩ := h
  exact ⟨⟨F, Z⟩, h1, h2, h3, fun x hx => hx⟩
def MadeP (w w' : World) (v : Value) (d : DS) (e : Int) : Prop := (e = 0 ∧ BornP w w' v d []) ∨ (e ≠ 0 ∧ v = .pointer none ∧ Kept [] w w')
theorem MadeP.of {w w' : World} {v : Value} {d : DS} {e : Int} (h : Made (PD []) w w' v d e) : MadeP w w' v d e := by
  rcases h with ⟨h1, h2⟩ | h
  · exact .inl ⟨h1, BornP.of h2⟩
  · exact .inr h
theorem fWritePage (v : Value) (d : DS) (F : Foot) (n : Int) (ub : Value) (b : List UInt8) (w : World) (h : PF w v d F) (hu : Bs w ub b) (hne : b ≠ [] → ∀ x, ub.ownBlock = some x → x ∉ F.own) (hcap : (d.loose.length + 1) * 40 ≤ 140737488355328) :
    Calls Try.prog 41 #[v, .int .i64 n, ub] w fun e w' => ∃ F', e = .returned (.int .i64 (writeE d (pageIx d.np n) b)) ∧ PF w' v (d.write (pageIx d.np n) b) F' ∧ NextP w w' F F' := by
  refine (pWritePage F.frz v d F.own n ub b w h hu hne hcap).mono ?_
  rintro e w' ⟨F', Z', h1, h2, h3, h4⟩
  exact ⟨⟨F', Z'⟩, h1, h2, NextP.of h3 h4⟩
theorem fWritePair (v : Value) (d : DS) (F : Foot) (ub : Value) (b : List UInt8) (w : World) (h : PF w v d F) (hu : Bs w ub b) (hne : b ≠ [] → ∀ x, ub.ownBlock = some x → x ∉ F.own) (hcap : (d.loose.length + 1) * 40 ≤ 140737488355328) :
    Calls Try.prog 48 #[v, ub] w fun e w' => ∃ F', e = .returned (.int .i64 (writeE d (some 0) b)) ∧ PF w' v (d.write (some 0) b) F' ∧ NextP w w' F F' := by
  refine (pWritePair F.frz v d F.own ub b w h hu hne hcap).mono ?_
  rintro e w' ⟨F', Z', h1, h2, h3, h4⟩
  exact ⟨⟨F', Z'⟩, h1, h2, NextP.of h3 h4⟩
theorem fWriteMaster (v : Value) (d : DS) (F : Foot) (n : Int) (ub : Value) (b : List UInt8) (w : World) (h : PF w v d F) (hu : Bs w ub b) (hne : b ≠ [] → ∀ x, ub.ownBlock = some x → x ∉ F.own) (hcap : (d.loose.length + 1) * 40 ≤ 140737488355328) :
    Calls Try.prog 49 #[v, .int .i64 n, ub] w fun e w' => ∃ F', e = .returned (.int .i64 (writeE d (masterIx d.np n) b)) ∧ PF w' v (d.write (masterIx d.np n) b) F' ∧ NextP w w' F F' := by
  refine (pWriteMaster F.frz v d F.own n ub b w h hu hne hcap).mono ?_
  rintro e w' ⟨F', Z', h1, h2, h3, h4⟩
  exact ⟨⟨F', Z'⟩, h1, h2, NextP.of h3 h4⟩
theorem fSync (v : Value) (d : DS) (F : Foot) (w : World) (h : PF w v d F) (hcap : d.loose.length * 40 ≤ 140737488355328) :
    Calls Try.prog 14 #[v] w fun e w' => ∃ F', e = .returned (.int .i64 (aliveE d)) ∧ PF w' v (d.sync false) F' ∧ NextP w w' F F' := by
  refine (pSync F.frz v d F.own w h hcap).mono ?_
  rintro e w' ⟨F', h1, h2, h3⟩
  exact ⟨⟨F', F.frz⟩, h1, h2, NextP.of h3 (Frz.refl _ _)⟩
theorem fSyncMasters (v : Value) (d : DS) (F : Foot) (w : World) (h : PF w v d F) (hcap : d.loose.length * 40 ≤ 140737488355328) :
    Calls Try.prog 15 #[v] w fun e w' => ∃ F', e = .returned (.int .i64 (aliveE d)) ∧ PF w' v (d.sync true) F' ∧ NextP w w' F F' := by
  refine (pSyncMasters F.frz v d F.own w h hcap).mono ?_
  rintro e w' ⟨F', h1, h2, h3⟩
  exact ⟨⟨F', F.frz⟩, h1, h2, NextP.of h3 (Frz.refl _ _)⟩
theorem fAppend (v : Value) (d : DS) (F : Foot) (ub : Value) (b : List UInt8) (w : World) (h : PF w v d F) (hu : Bs w ub b) (hne : b ≠ [] → ∀ x, ub.ownBlock = some x → x ∉ F.own) :
    Calls Try.prog 42 #[v, ub] w fun e w' => ∃ F', e = .returned (.int .i64 (appendE d b)) ∧ PF w' v (d.append b) F' ∧ NextP w w' F F' := by
  refine (pAppend F.frz v d F.own ub b w h hu hne).mono ?_
  rintro e w' ⟨F', h1, h2, h3⟩
  exact ⟨⟨F', F.frz⟩, h1, h2, NextP.of h3 (Frz.refl _ _)⟩
theorem fSyncLog (v : Value) (d : DS) (F : Foot) (w : World) (h : PF w v d F) :
    Calls Try.prog 31 #[v] w fun e w' => ∃ F', e = .returned (.int .i64 (aliveE d)) ∧ PF w' v (d.syncLog) F' ∧ NextP w w' F F' := by
  refine (pSyncLog F.frz v d F.own w h).mono ?_
  rintro e w' ⟨F', h1, h2, h3⟩
  exact ⟨⟨F', F.frz⟩, h1, h2, NextP.of h3 (Frz.refl _ _)⟩
theorem fCut (v : Value) (d : DS) (F : Foot) (n : Int) (w : World) (h : PF w v d F) :
    Calls Try.prog 58 #[v, .int .i64 n] w fun e w' => ∃ F', e = .returned (.int .i64 (cutE d n)) ∧ PF w' v (d.cut n) F' ∧ NextP w w' F F' := by
  refine (pCut F.frz v d F.own n w h).mono ?_
  rintro e w' ⟨F', h1, h2, h3⟩
  exact ⟨⟨F', F.frz⟩, h1, h2, NextP.of h3 (Frz.refl _ _)⟩
theorem fStop (v : Value) (d : DS) (F : Foot) (n : Int) (w : World) (h : PF w v d F) (hw : IntKind.i64.wrap n = n) :
    Calls Try.prog 23 #[v, .int .i64 n] w fun e w' => ∃ F', (∃ r, e = .returned r) ∧ PF w' v (d.halts n) F' ∧ NextP w w' F F' := by
  refine (pStop F.frz v d F.own n w h hw).mono ?_
  rintro e w' ⟨F', h1, h2, h3⟩
  exact ⟨⟨F', F.frz⟩, h1, h2, NextP.of h3 (Frz.refl _ _)⟩
theorem fReadPage (v : Value) (d : DS) (F : Foot) (n : Int) (w : World) (h : PF w v d F) :
    Calls Try.prog 37 #[v, .int .i64 n] w fun e w' => ∃ c F', e = .returned (.tuple #[c, .int .i64 (readE d (pageIx d.np n))]) ∧ w'.ownsRow w.heap.size 5 1 c (readL d (pageIx d.np n)).length (u8s (readL d (pageIx d.np n))) ∧ (∀ x, c.ownBlock = some x → x ∉ F'.all) ∧ PF w' v d.act F' ∧ NextP w w' F F' := by
  refine (pReadPage F.frz v d F.own n w h).mono ?_
  rintro e w' ⟨c, F', h1, h2, h3, h4, h5⟩
  exact ⟨c, ⟨F', F.frz⟩, h1, h2, fun x hx hm => (Foot.mem_all.1 hm).elim (h3 x hx) (fun hz => by have := own_ge h2 x hx; have := (PD.frz h x hz).2; omega), h4, NextP.of h5 (Frz.refl _ _)⟩
theorem fReadPair (v : Value) (d : DS) (F : Foot) (w : World) (h : PF w v d F) :
    Calls Try.prog 28 #[v] w fun e w' => ∃ c F', e = .returned (.tuple #[c, .int .i64 (readE d (some 0))]) ∧ w'.ownsRow w.heap.size 5 1 c (readL d (some 0)).length (u8s (readL d (some 0))) ∧ (∀ x, c.ownBlock = some x → x ∉ F'.all) ∧ PF w' v d.act F' ∧ NextP w w' F F' := by
  refine (pReadPair F.frz v d F.own w h).mono ?_
  rintro e w' ⟨c, F', h1, h2, h3, h4, h5⟩
  exact ⟨c, ⟨F', F.frz⟩, h1, h2, fun x hx hm => (Foot.mem_all.1 hm).elim (h3 x hx) (fun hz => by have := own_ge h2 x hx; have := (PD.frz h x hz).2; omega), h4, NextP.of h5 (Frz.refl _ _)⟩
theorem fReadMaster (v : Value) (d : DS) (F : Foot) (n : Int) (w : World) (h : PF w v d F) :
    Calls Try.prog 29 #[v, .int .i64 n] w fun e w' => ∃ c F', e = .returned (.tuple #[c, .int .i64 (readE d (masterIx d.np n))]) ∧ w'.ownsRow w.heap.size 5 1 c (readL d (masterIx d.np n)).length (u8s (readL d (masterIx d.np n))) ∧ (∀ x, c.ownBlock = some x → x ∉ F'.all) ∧ PF w' v d.act F' ∧ NextP w w' F F' := by
  refine (pReadMaster F.frz v d F.own n w h).mono ?_
  rintro e w' ⟨c, F', h1, h2, h3, h4, h5⟩
  exact ⟨c, ⟨F', F.frz⟩, h1, h2, fun x hx hm => (Foot.mem_all.1 hm).elim (h3 x hx) (fun hz => by have := own_ge h2 x hx; have := (PD.frz h x hz).2; omega), h4, NextP.of h5 (Frz.refl _ _)⟩
theorem fReadLog (v : Value) (d : DS) (F : Foot) (f n : Int) (w : World) (h : PF w v d F) :
    Calls Try.prog 38 #[v, .int .i64 f, .int .i64 n] w fun e w' => ∃ c F', e = .returned (.tuple #[c, .int .i64 (readLogE d f n)]) ∧ w'.ownsRow w.heap.size 5 1 c (readLogL d f n).length (u8s (readLogL d f n)) ∧ (∀ x, c.ownBlock = some x → x ∉ F'.all) ∧ PF w' v d.act F' ∧ NextP w w' F F' := by
  refine (pReadLog F.frz v d F.own f n w h).mono ?_
  rintro e w' ⟨c, F', h1, h2, h3, h4, h5⟩
  exact ⟨c, ⟨F', F.frz⟩, h1, h2, fun x hx hm => (Foot.mem_all.1 hm).elim (h3 x hx) (fun hz => by have := own_ge h2 x hx; have := (PD.frz h x hz).2; omega), h4, NextP.of h5 (Frz.refl _ _)⟩
theorem fActs (v : Value) (d : DS) (F : Foot) (w : World) (h : PF w v d F) :
    Calls Try.prog 26 #[v] w fun e w' => e = .returned (.int .i64 d.acts) ∧ Kept [] w w' := pActs F.frz v d F.own w h
theorem fDead (v : Value) (d : DS) (F : Foot) (w : World) (h : PF w v d F) :
    Calls Try.prog 25 #[v] w fun e w' => e = .returned (.bool d.dead) ∧ Kept [] w w' := pDead F.frz v d F.own w h
theorem fLogLen (v : Value) (d : DS) (F : Foot) (w : World) (h : PF w v d F) :
    Calls Try.prog 43 #[v] w fun e w' => e = .returned (.int .i64 (d.log.length : Int)) ∧ Kept [] w w' := pLogLen F.frz v d F.own w h
theorem fShape (v : Value) (d : DS) (F : Foot) (w : World) (h : PF w v d F) :
    Calls Try.prog 47 #[v] w fun e w' => e = .returned (.agg #[.int .i64 (d.np : Int), .int .i64 (d.ns : Int), .int .i64 (d.lm : Int)]) ∧ Kept [] w w' := pShape F.frz v d F.own w h
theorem fImage (v : Value) (d : DS) (F : Foot) (w : World) (h : PF w v d F) :
    Calls Try.prog 19 #[v] w fun e w' => ∃ V, e = .returned V.agg ∧ OwnIm w' w.heap.size V d.image ∧ Kept [] w w' := pImage F.frz v d F.own w h
theorem fLasts (v : Value) (d : DS) (F : Foot) (w : World) (h : PF w v d F) :
    Calls Try.prog 17 #[v] w fun e w' => ∃ V, e = .returned V.agg ∧ OwnIm w' w.heap.size V d.lasts ∧ Kept [] w w' := pLasts F.frz v d F.own w h
theorem fCopy (v : Value) (d : DS) (F : Foot) (w : World) (h : PF w v d F) (hcap : d.loose.length * 40 ≤ 140737488355328) :
    Calls Try.prog 27 #[v] w fun e w' => ∃ u, e = .returned u ∧ BornP w w' u d.copy F.frz := by
  refine (pCopy F.frz v d F.own w h hcap).mono ?_
  rintro e w' ⟨u, h1, h2⟩
  exact ⟨u, h1, BornP.of h2⟩
theorem fCrash (v : Value) (d : DS) (F : Foot) (c : Int) (vk : Value) (keep : List Int) (w : World) (h : PF w v d F) (hk : Is w vk keep) :
    Calls Try.prog 16 #[v, .agg #[.int .i64 c, vk]] w fun e w' => ∃ u, e = .returned u ∧ BornP w w' u (d.crash c keep) [] := by
  refine (pCrash F.frz v d F.own c vk keep w h hk).mono ?_
  rintro e w' ⟨u, h1, h2⟩
  exact ⟨u, h1, BornP.of h2⟩
theorem fNew (a b c : Int) (w : World) :
    Calls Try.prog 10 #[.agg #[.int .i64 a, .int .i64 b, .int .i64 c]] w fun e w' => ∃ u, e = .returned (.tuple #[u, .int .i64 (newE a b c)]) ∧ MadeP w w' u (newD a b c) (newE a b c) := by
  refine (pNew a b c w).mono ?_
  rintro e w' ⟨u, h1, h2⟩
  exact ⟨u, h1, MadeP.of h2⟩
theorem fLoad (a b c : Int) (V : IV) (m : IM) (w : World) (hV : SeeIm w V m) (hcap : (V.pv.length + 3) * 24 ≤ 140737488355328) :
    Calls Try.prog 32 #[.agg #[.int .i64 a, .int .i64 b, .int .i64 c], V.agg] w fun e w' => ∃ u, e = .returned (.tuple #[u, .int .i64 (loadE a b c m)]) ∧ MadeP w w' u (loadD a b c m) (loadE a b c m) := by
  refine (pLoad a b c V m w hV hcap).mono ?_
  rintro e w' ⟨u, h1, h2⟩
  exact ⟨u, h1, MadeP.of h2⟩
end Go.Proofs.Ytmipmiaflompmaa

/-
  OWN WORK. What the laws of disk lean on: same, mod; both disks at once; writes, reads.
-/
namespace Go.Proofs.Ytmipmiaflompmaa
open Go.RowKit
set_option linter.unusedVariables false

theorem Bs.text {w : World} {v : Value} {l : List UInt8} (h : Bs w v l) : (Go.convert 33 9 v).run Try.prog w = .ok (.string ⟨l.toArray⟩) w := h.convert Try.underlying33 Try.underlying5 Try.underlying9
theorem same_eq (u v : Value) (l : List UInt8) (w : World) (hu : Bs w u l) (hv : Bs w v l) :
    Calls Try.prog 20 #[u, v] w fun e w' => e = .returned (.bool true) ∧ w' = w := by
  have t1 := hu.text
  have t2 := hv.text
  go_enter Try.func20, Try.ntmps20
  go_wp2
  go_ret
  exact ⟨by simp, rfl⟩
theorem mod_any (n : Int) (m : Nat) (w : World) (hm : 0 < m) (hm2 : m ≤ 9223372036854775807) :
    Calls Try.prog 11 #[.int .i64 n, .int .i64 (m : Int)] w fun e w' => e = .returned (.int .i64 (restN n m : Int)) ∧ w' = w := by
  have h0 : ¬ (m : Int) = 0 := by omega
  have hp : (0 : Int) < (m : Int) := by omega
  have b1 := Int.tmod_lt_of_pos n hp
  have b2 := Int.lt_tmod_of_pos n hp
  have w1 : IntKind.i64.wrap (n.tmod (m : Int)) = n.tmod (m : Int) := wrap_i64_of (by omega) (by omega)
  rw [restN_int n m hm]
  by_cases c : n.tmod (m : Int) < 0
  · have w2 : IntKind.i64.wrap (n.tmod (m : Int) + (m : Int)) = n % (m : Int) := by rw [← tmod_neg hp c]; exact wrap_i64_of (by omega) (by omega)
    clear b1 b2 hm2
    go_enter Try.func11, Try.ntmps11
    go_wp2
    go_ret
    exact ⟨rfl, rfl⟩
  · have e := tmod_pos (n := n) hp (by omega)
    rw [← e]
    clear b1 b2 hm2 e
    go_enter Try.func11, Try.ntmps11
    go_wp2
    go_ret
    exact ⟨rfl, rfl⟩
/-- the program's disk and the document's tell the same, and have nothing in common -/
def Both (w : World) (v u : Value) (d : DS) (F : Foot) : Prop := ∃ (A : Foot) (B : List Nat), PF w v d A ∧ QD w u d B ∧ (∀ x ∈ A.all, x ∉ B) ∧ F = ⟨A.own ++ B, A.frz⟩
theorem Both.kept {w w' : World} {v u : Value} {d : DS} {F : Foot} {S : List Nat} (h : Both w v u d F) (k : Kept S w w') (hS : ∀ x ∈ S, x ∉ F.all) : Both w' v u d F := by
  obtain ⟨A, B, h1, h2, h3, rfl⟩ := h
  exact ⟨A, B, h1.kept k (fun x hx hm => hS x hx (by rcases Foot.mem_all.1 hm with c | c; exact Foot.inOwn (by simp [c]); exact Foot.inFrz (by simp [c]))), h2.kept k (fun x hx hm => hS x hx (Foot.inOwn (by simp [hm]))), h3, rfl⟩
theorem Both.lt {w : World} {v u : Value} {d : DS} {F : Foot} (h : Both w v u d F) : ∀ x ∈ F.all, x < w.heap.size := by
  obtain ⟨A, B, h1, h2, h3, rfl⟩ := h
  intro x hx
  rcases Foot.mem_all.1 hx with c | c
  · rcases List.mem_append.1 c with c | c
    · exact h1.lt x (Foot.inOwn c)
    · exact h2.lt x c
  · exact h1.lt x (Foot.inFrz c)
theorem Both.ok {w : World} {v u : Value} {d : DS} {F : Foot} (h : Both w v u d F) : d.Ok := by
  obtain ⟨A, B, h1, -⟩ := h
  exact h1.ok
theorem Both.own {w : World} {v u : Value} {d : DS} {F : Foot} (h : Both w v u d F) : ∀ x ∈ F.frz, x ∉ F.own := by
  obtain ⟨A, B, h1, h2, h3, rfl⟩ := h
  intro x hx hm
  rcases List.mem_append.1 hm with c | c
  · exact h1.own x hx c
  · exact h3 x (Foot.inFrz hx) c
/-- first the program's turns, then the document's -/
theorem both_step {w w1 w2 : World} {v u : Value} {d d' : DS} {A A' : Foot} {B B' : List Nat} (h1 : PF w1 v d' A') (x1 : NextP w w1 A A') (hq : QD w u d B) (hap : ∀ x ∈ A.all, x ∉ B) (h2 : QD w2 u d' B') (x2 : Next w1 w2 B B') : Both w2 v u d' ⟨A'.own ++ B', A'.frz⟩ ∧ NextP w w2 ⟨A.own ++ B, A.frz⟩ ⟨A'.own ++ B', A'.frz⟩ := by
  have hs := x1.1.size
  have hAB : ∀ x ∈ A'.all, x ∉ B := fun x hx hm => by
    rcases x1.all x hx with c | c
    · exact hap x c hm
    · have := hq.lt x hm; omega
  refine ⟨⟨A', B', h1.kept x2.1 (fun x hx hm => hAB x hm hx), h2, fun x hx hm => ?_, rfl⟩, (x1.1.mono (T := A.own ++ B) (by simp +contextual)).trans x2.1 (fun x hx => .inl (by simp [hx])), fun x hx => ?_, x1.2.2⟩
  · rcases x2.2 x hm with c | c
    · exact hAB x hx c
    · have := h1.lt x hx; omega
  · rcases List.mem_append.1 hx with c | c
    · rcases x1.2.1 x c with e | e
      · exact .inl (by simp [e])
      · exact .inr e
    · rcases x2.2 x c with e | e
      · exact .inl (by simp [e])
      · exact .inr (by omega)
/-- what a call of 'writes' answers, and what it makes -/
def isW (k : Int) : Bool := decide (k = 1) || decide (k = 3) || decide (k = 10) || decide (k = 4) || decide (k = 11) || decide (k = 6) || decide (k = 7) || decide (k = 8)
def wE (d : DS) (k n : Int) (b : List UInt8) : Int := if k = 1 then writeE d (pageIx d.np n) b else if k = 3 then writeE d (some 0) b else if k = 10 then writeE d (masterIx d.np n) b else if k = 4 then aliveE d else if k = 11 then aliveE d else if k = 6 then appendE d b else if k = 7 then aliveE d else if k = 8 then cutE d n else 0
def wD (d : DS) (k n : Int) (b : List UInt8) : DS := if k = 1 then d.write (pageIx d.np n) b else if k = 3 then d.write (some 0) b else if k = 10 then d.write (masterIx d.np n) b else if k = 4 then d.sync false else if k = 11 then d.sync true else if k = 6 then d.append b else if k = 7 then d.syncLog else if k = 8 then d.cut n else d
end Go.Proofs.Ytmipmiaflompmaa

/-
  OWN WORK. The laws of disk: row, head (the document's examples).
-/
namespace Go.Proofs.Ytmipmiaflompmaa
open Go.RowKit
set_option linter.unusedVariables false

theorem row_any (n : Nat) (x : UInt8) (w : World) (hn : n ≤ 1000) :
    Calls Try.prog 13 #[.int .i64 (n : Int), .int .u8 (x.toNat : Int)] w fun e w' => ∃ v, e = .returned v ∧ w'.ownsRow w.heap.size 5 1 v (List.replicate n x).length (u8s (List.replicate n x)) ∧ Kept [] w w' := by
  obtain ⟨l, hl⟩ : ∃ l, l = List.replicate n x := ⟨_, rfl⟩
  have hln : l.length = n := by rw [hl]; simp
  have hat : ∀ (k : Nat) (h : k < l.length), l[k] = x := fun k h => by simp [hl]
  rw [← hl]
  rw [← hln] at hn ⊢
  clear hl hln n
  have hmk := fun u => run_make_bs (P := Try.prog) u 33 5 Try.underlying33 (by kernel_rfl) l.length l.length (Nat.le_refl _) (by omega)
  have hown0 := own_made w 5 w.heap.size l.length l.length (Nat.le_refl _) (Nat.le_refl _) (by unfold maxLen; omega)
  have hk0 : Kept [] w (w.alloc (.cells (madeCells #[.int .u8 0] l.length) 5)) := (Kept.refl [] w).alloc _
  have h63 : l.length ≤ 9223372036854775807 := by omega
  have HAT : Hid (∀ (k : Nat) (h : k < l.length), l[k] = x) := hat
  clear hn hat
  go_enter Try.func13, Try.ntmps13
  go_wp2
  generalize w.alloc (.cells (madeCells #[.int .u8 0] l.length) 5) = w1 at *
  go_loopw [6] (fun i wr => ∃ k : Nat, k ≤ l.length ∧ i = .int .i64 k ∧ wr.ownsRow w.heap.size 5 1 (.slice (some ⟨w.heap.size, 0, none⟩) l.length l.length) l.length (u8s (l.take k ++ List.replicate (l.length - k) (0 : UInt8))) ∧ Kept [] w wr) (fun i _ => l.length - (intOf i).toNat)
  case atStart => exact ⟨0, Nat.zero_le _, rfl, by simpa using hown0, hk0⟩
  case round =>
    obtain ⟨k, hk, rfl, hown, hkept⟩ := hrel
    by_cases hlt : k < l.length
    · have hlen : (l.take k ++ List.replicate (l.length - k) (0 : UInt8)).length = l.length := by simp; omega
      have hcc := hown.cellAt k (by omega)
      rw [show (u8s (l.take k ++ List.replicate (l.length - k) (0 : UInt8)))[k]? = some (.int .u8 (((l.take k ++ List.replicate (l.length - k) (0 : UInt8))[k]'(by omega)).toNat : Int)) from by simp only [u8s, List.getElem?_map, List.getElem?_eq_getElem (show k < (l.take k ++ List.replicate (l.length - k) (0 : UInt8)).length by omega)]; rfl] at hcc
      have hf := hown.frozenAt k
      obtain ⟨ow2, kw2⟩ := set_own hown k l[k] _ rfl
      rw [copy_step l l.length k rfl hlt] at ow2
      rw [HAT.out k hlt] at ow2 kw2
      have hge := own_ge hown w.heap.size rfl
      have kw3 := hkept.trans kw2 (by intro x hx; simp at hx; subst hx; exact .inr hge)
      generalize (l.take k ++ List.replicate (l.length - k) (0 : UInt8))[k]'(by omega) = old at hcc
      clear kw2 hown hown0 hmk hlen
      go_wp2
      go_roundw
      case rel => exact ⟨k + 1, by omega, by go_num, ow2, kw3⟩
      case measure => simp [intOf]; omega
    · obtain rfl : k = l.length := by omega
      clear hown0 hmk
      go_wp2
      go_ret
      exact ⟨_, rfl, by simpa using hown, hkept⟩
/-- 'append(out, b...)' behind a guard that holds -/
theorem wpList_append_bs_g {P : Program} {w : World} {ops : Array Oper} {rest : List Oper} {o : Oper} {a : Act} {Q : Exit → Act → World → Prop} (hwd : Region.wanted o (yielded ops a.tmps) = true) (s x : Operand) (t : TypeId)
    (ho : o.op = .call { callee := .builtin .append, args := #[s, x], argTypes := #[t, t] }) (base : Nat) (e : TypeId) (hu : P.underlying t = some (.slice e))
    (hinf : (P.info? e).map (fun i => (i.zero, i.size, i.bytes)) = some (some (.int .u8 0), 1, 1))
    (v : Value) (n : Nat) (xs : List Value) (hs : a.eval s = v) (hown : w.ownsRow base e 1 v n xs) (sv : Value) (l : List UInt8) (hx : a.eval x = sv) (hb : Bs w sv l) (hpos : 0 < l.length)
    (hroom : n + l.length ≤ 140737488355328) (hbase : base ≤ w.heap.size)
    (h : ∀ v' w', w'.ownsRow base e 1 v' (n + l.length) (xs ++ u8s l) → w.grownBy w' v.ownBlock → (v'.ownBlock = v.ownBlock ∨ v'.ownBlock = some w.heap.size) → wpList P ops Q rest (a.put o.dst v') w') :
    wpList P ops Q (o :: rest) a w := by
  obtain ⟨i, hi, hz, hsz, hby⟩ := info_parts hinf
  obtain ⟨p, c, rfl, h1, h2, h3, h4⟩ := hb
  cases p with
  | none => have hc := h3 rfl; omega
  | some ad =>
    refine wpList_step fun K hK => ?_
    rw [if_pos hwd]
    obtain ⟨v', w', hr, k1, k2, _, k4⟩ := run_append_own_at (P := P) w base t o.type e i (.int .u8 0) 1 1 hu hi hz hsz hby rfl (by decide) v n xs hown ad l.length c (u8s l) (by simp [u8s])
      (fun j u hj => by obtain ⟨y, hy, rfl⟩ := u8s_at hj; exact h4 ad rfl j y hy) (u8s_one l) (by unfold maxLen; omega) (by omega) hbase
    unfold Oper.wp execOp
    simp only [ho, resolve, invoke, builtin, Sem.run_bind, Sem.run_pure, Result.andThen_ok, List.map_toArray, List.map_cons, List.map_nil, hs, hx, hr]
    exact hK _ _ (h v' w' k1 k2 k4)
/-- the disks of the examples -/
def e0 : DS := DS.blank 2 1 1024
def e1 : DS := e0.act
def e2 : DS := e1.write (pageIx 2 0) (List.replicate 40 1)
def e3 : DS := e2.append [4, 5]
def e4 : DS := e3.crash 1 [3]
theorem ex_1 : newE 2 1 1024 = 0 := by decide
theorem ex_2 : newD 2 1 1024 = e0 := rfl
theorem ex_3 : readE e0 (pageIx 2 2) = 61 := by decide
theorem ex_4 : writeE e1 (pageIx 2 0) (List.replicate 40 1) = 0 := by decide
theorem ex_5 : appendE e2 [4, 5] = 0 := by decide
theorem ex_6 : e3.acts = 3 := by decide
theorem ex_7 : e3.log.length = 2 := by decide
theorem ex_8 : readE e4 (pageIx 2 0) = 0 := by decide
theorem ex_9 : readL e4 (pageIx 2 0) = List.replicate 2 1 ++ List.replicate 38 0 := by decide
theorem ex_10 : readLogE e4.act 0 9 = 0 := by decide
theorem ex_11 : readLogL e4.act 0 9 = [4] := by decide
theorem is_lit (w : World) (t : TypeId) (x : Int) (h : IntKind.i64.wrap x = x) : Is (w.alloc (.cells #[.int .i64 x] t)) (.slice (some ⟨w.heap.size, 0, none⟩) 1 1) [x] := by
  refine ⟨some ⟨w.heap.size, 0, none⟩, 1, rfl, Nat.le_refl _, by simp [maxLen], fun e => (by cases e), by simpa using h, fun a e i y hy => ?_⟩
  cases e
  rcases i with _ | i
  · simp at hy; subst hy
    rw [add_none rfl]
    simp [go_sem]
  · simp at hy
set_option maxHeartbeats 3200000 in
theorem head_any (w : World) :
    Calls Try.prog 9 #[] w fun r w' => r = .returned (.bool true) ∧ Kept [] w w' := by
  have hN := fNew 2 1 1024 w
  rw [ex_1, ex_2] at hN
  go_enter Try.func9, Try.ntmps9
  go_wp2_with fail
  refine hN.mono ?_
  clear hN
  rintro r w1 ⟨u, rfl, ⟨-, F0, p0, f0, k1, -⟩ | ⟨h9, -⟩⟩
  case inr => exact absurd rfl h9
  obtain ⟨gd, rfl⟩ := p0.ptr
  have hR := fReadPage _ e0 F0 2 w1 p0
  rw [show e0.np = 2 from rfl, ex_3] at hR
  go_wp2_with fail
  refine hR.mono ?_
  clear hR
  rintro r w2 ⟨c1, F1, rfl, o1, -, p1, x1⟩
  obtain ⟨pc1, cc1, rfl⟩ := own_shape2 o1
  have hrow := row_any 40 1 w2 (by decide)
  rw [show ((40 : Nat) : Int) = 40 from rfl, show (((1 : UInt8).toNat : Nat) : Int) = 1 from rfl] at hrow
  have lt1 := p1.lt
  go_wp2_with fail
  refine hrow.mono ?_
  clear hrow
  rintro r w3 ⟨v3, rfl, o3, k3⟩
  have hW := fWritePage _ e1 F1 0 v3 (List.replicate 40 1) w3 (p1.kept k3 (by simp)) (Bs.ofOwn o3) (fun _ x hx hm => by have := own_ge o3 x hx; have := lt1 x (Foot.inOwn hm); omega) (by decide)
  rw [show e1.np = 2 from rfl, ex_4] at hW
  obtain ⟨p3, c3, rfl⟩ := own_shape2 o3
  go_wp2_with fail
  refine hW.mono ?_
  clear hW
  rintro r w4 ⟨F2, rfl, p2, x2⟩
  have k45 := (Kept.refl [] w4).alloc (.cells #[.int .u8 4, .int .u8 5] 5)
  have lt2 := p2.lt
  have hA := fAppend _ e2 F2 (.slice (some ⟨w4.heap.size, 0, none⟩) 2 2) [4, 5] (w4.alloc (.cells #[.int .u8 4, .int .u8 5] 5)) (p2.kept k45 (by simp)) (Bs.ofOwn (own_of_lit w4 5 0 [4, 5] (Nat.zero_le _) (by simp [maxLen]))) (fun _ x hx hm => by have := lt2 x (Foot.inOwn hm); simp [Value.ownBlock] at hx; omega)
  rw [ex_5] at hA
  go_wp2_with fail
  refine hA.mono ?_
  clear hA
  rintro r w5 ⟨F3, rfl, p3', x3⟩
  have hAc := fActs _ e3 F3 w5 p3'
  rw [ex_6] at hAc
  go_wp2_with fail
  refine hAc.mono ?_
  clear hAc
  rintro r w6 ⟨rfl, k6⟩
  have hLL := fLogLen _ e3 F3 w6 (p3'.kept k6 (by simp))
  rw [ex_7] at hLL
  go_wp2_with fail
  refine hLL.mono ?_
  clear hLL
  rintro r w7 ⟨rfl, k7⟩
  have p7 := (p3'.kept k6 (by simp)).kept k7 (by simp)
  have k78 := (Kept.refl [] w7).alloc (.cells #[.int .i64 3] 3)
  have hC := fCrash _ e3 F3 1 (.slice (some ⟨w7.heap.size, 0, none⟩) 1 1) [3] (w7.alloc (.cells #[.int .i64 3] 3)) (p7.kept k78 (by simp)) (is_lit w7 3 3 (by decide))
  go_wp2_with fail
  refine hC.mono ?_
  clear hC
  rintro r w9 ⟨cu, rfl, FC, pC, fC, k9, -⟩
  obtain ⟨gc, rfl⟩ := pC.ptr
  have hR := fReadPage _ e4 FC 0 w9 pC
  rw [show e4.np = 2 from rfl, ex_8, ex_9] at hR
  go_wp2_with fail
  refine hR.mono ?_
  clear hR
  rintro r w10 ⟨c10, F4, rfl, o10, a10, p10, x10⟩
  have hL := fReadLog _ e4.act F4 0 9 w10 p10
  rw [ex_10, ex_11] at hL
  obtain ⟨pc10, cc10, rfl⟩ := own_shape2 o10
  go_wp2_with fail
  refine hL.mono ?_
  clear hL
  rintro r w11 ⟨c11, F5, rfl, o11, -, p11, x11⟩
  obtain ⟨pc11, cc11, rfl⟩ := own_shape2 o11
  have hrow := row_any 2 1 w11 (by decide)
  rw [show ((2 : Nat) : Int) = 2 from rfl, show (((1 : UInt8).toNat : Nat) : Int) = 1 from rfl] at hrow
  go_wp2_with fail
  refine hrow.mono ?_
  clear hrow
  rintro r w12 ⟨v12, rfl, o12, k12⟩
  obtain ⟨pc12, cc12, rfl⟩ := own_shape2 o12
  have hrow := row_any 38 0 w12 (by decide)
  rw [show ((38 : Nat) : Int) = 38 from rfl, show (((0 : UInt8).toNat : Nat) : Int) = 0 from rfl] at hrow
  go_wp2_with fail
  refine hrow.mono ?_
  clear hrow
  rintro r w13 ⟨v13, rfl, o13, k13⟩
  obtain ⟨pc13, cc13, rfl⟩ := own_shape2 o13
  have O12 := own_of_kept o12 k13 (by simp)
  have B13 := Bs.ofOwn o13
  go_wp2_with (at_builtin; refine wpList_append_bs_g (by rfl) (.tmp 76) (.tmp 77) 33 rfl w11.heap.size 5 Try.underlying33 (by kernel_rfl) _ _ _ (by rfl) O12 _ (List.replicate 38 0) (by rfl) B13 (by simp) (by simp) (Nat.le_trans k12.size k13.size) ?_; intro v14 w14 o14 g14 at14; obtain ⟨pc14, cc14, rfl⟩ := own_shape2 o14)
  have k1214 : Kept [] w11 w14 := (k12.then k13).grown g14 (fun z hz => .inr (own_ge o12 z hz))
  have hs1 : Bs w14 (.slice pc10 40 cc10) (List.replicate 2 1 ++ List.replicate 38 0) := (Bs.keptOwn (Bs.ofOwn o10) x11.1 (fun x hx hm => a10 x hx (Foot.inOwn hm))).kept k1214
  have hs2 : Bs w14 (.slice pc14 40 cc14) (List.replicate 2 1 ++ List.replicate 38 0) := Bs.ofOwn (by rw [u8s_append]; exact o14)
  have hS := same_eq _ _ _ w14 hs1 hs2
  have hs3 : Bs (w14.alloc (.cells #[.int .u8 4] 5)) (.slice pc11 1 cc11) [4] := (Bs.ofOwn o11).kept (k1214.alloc _)
  have hs4 : Bs (w14.alloc (.cells #[.int .u8 4] 5)) (.slice (some ⟨w14.heap.size, 0, none⟩) 1 1) [4] := Bs.ofOwn (own_of_lit w14 5 0 [4] (Nat.zero_le _) (by simp [maxLen]))
  have hS2 := same_eq _ _ _ _ hs3 hs4
  have n1 : ∀ x ∈ F1.own, w.heap.size ≤ x := fun x hx => by have := k1.size; rcases x1.2.1 x hx with c | c; exact f0 x c; omega
  have s2 : w.heap.size ≤ w2.heap.size := Nat.le_trans k1.size x1.1.size
  have s3 := Nat.le_trans s2 k3.size
  have n2 : ∀ x ∈ F2.own, w.heap.size ≤ x := fun x hx => by rcases x2.2.1 x hx with c | c; exact n1 x c; omega
  have s4 := Nat.le_trans s3 x2.1.size
  have q4 : Kept [] w w4 := ((k1.trans x1.1 (fun x hx => .inr (f0 x hx))).then k3).trans x2.1 (fun x hx => .inr (n1 x hx))
  have q5 : Kept [] w w5 := (q4.then k45).trans x3.1 (fun x hx => .inr (n2 x hx))
  have q9 : Kept [] w w9 := (((q5.then k6).then k7).then k78).then k9
  have nC : ∀ x ∈ FC.own, w.heap.size ≤ x := fun x hx => Nat.le_trans (((q5.then k6).then k7).then k78).size (fC x hx)
  have q10 : Kept [] w w10 := q9.trans x10.1 (fun x hx => .inr (nC x hx))
  have nD : ∀ x ∈ F4.own, w.heap.size ≤ x := fun x hx => by have := q9.size; rcases x10.2.1 x hx with c | c; exact nC x c; omega
  have kk : Kept [] w w11 := q10.trans x11.1 (fun x hx => .inr (nD x hx))
  refine hS.mono ?_
  clear hS
  rintro r w15 ⟨rfl, rfl⟩
  go_wp2_with fail
  refine hS2.mono ?_
  clear hS2
  rintro r w16 ⟨rfl, rfl⟩
  go_wp2
  go_ret
  exact ⟨rfl, (kk.then k1214).alloc _⟩
end Go.Proofs.Ytmipmiaflompmaa

/-
  OWN WORK. The laws of disk: writes.
-/
namespace Go.Proofs.Ytmipmiaflompmaa
open Go.RowKit
set_option linter.unusedVariables false

theorem Next.after {w w1 w2 : World} {F F' : List Nat} (h : Next w1 w2 F F') (k : Kept [] w w1) : Next w w2 F F' :=
  ⟨(k.mono (by simp)).trans h.1 (fun x hx => .inl hx), fun x hx => by have := k.size; rcases h.2 x hx with c | c; exact .inl c; exact .inr (by omega)⟩
set_option maxHeartbeats 800000 in
theorem writes_page (v u ub vk : Value) (d : DS) (F : Foot) (wh n m cl : Int) (b : List UInt8) (keep : List Int) (w : World) (h : Both w v u d F) (hb : Bs w ub b) (hk : Is w vk keep) (hne : b ≠ [] → ∀ x, ub.ownBlock = some x → x ∉ F.own) (hcap : (d.loose.length + 1) * 40 ≤ 140737488355328) :
    Calls Try.prog 65 #[v, u, .agg #[.int .i64 1, .int .i64 wh, .int .i64 n, .int .i64 m, ub, .int .i64 cl, vk]] w fun e w' => ∃ F', e = .returned (.tuple #[.int .i64 (wE d 1 n b), .int .i64 (wE d 1 n b), .bool (isW 1)]) ∧ Both w' v u (wD d 1 n b) F' ∧ NextP w w' F F' := by
  obtain ⟨A, B, hp, hq, hap, rfl⟩ := h
  obtain ⟨gv, rfl⟩ := hp.ptr
  obtain ⟨gu, rfl⟩ := hq.ptr
  obtain ⟨pb, cb, rfl, -⟩ := id hb
  obtain ⟨pk, ck, rfl, -⟩ := id hk
  have k0 := (Kept.refl [] w).alloc (.cells #[.int .i64 1, .int .i64 wh, .int .i64 n, .int .i64 m, .slice pb b.length cb, .int .i64 cl, .slice pk keep.length ck] 59)
  have bO := Blk.new w 59 [.int .i64 1, .int .i64 wh, .int .i64 n, .int .i64 m, .slice pb b.length cb, .int .i64 cl, .slice pk keep.length ck]
  have q0 := bO.cell (j := 0) rfl
  have q2 := bO.cell (j := 2) rfl
  have q4 := bO.cell (j := 4) rfl
  have nA : w.heap.size ∉ A.own := fun hm => by have := hp.lt _ (Foot.inOwn hm); omega
  have hP := fWritePage _ d A n (.slice pb b.length cb) b _ (hp.kept k0 (by simp)) (hb.kept k0) (fun h0 x hx hm => hne h0 x hx (by simp [hm])) hcap
  have hq1 := fun (w1 : World) (A' : Foot) (x1 : NextP (w.alloc (.cells #[.int .i64 1, .int .i64 wh, .int .i64 n, .int .i64 m, .slice pb b.length cb, .int .i64 cl, .slice pk keep.length ck] 59)) w1 A A') => qWrite _ d B 0 n (.slice pb b.length cb) b w1 ((hq.kept k0 (by simp)).kept x1.1 (fun x hx => hap x (Foot.inOwn hx))) ((hb.kept k0).keptNe x1.1 (fun h0 x hx hm => hne h0 x hx (by simp [hm]))) (fun h0 x hx hm => hne h0 x hx (by simp [hm])) hcap
  simp only [idxOf_page] at hq1
  have HQ : Hid (QD (w.alloc (.cells #[.int .i64 1, .int .i64 wh, .int .i64 n, .int .i64 m, .slice pb b.length cb, .int .i64 cl, .slice pk keep.length ck] 59)) _ d B) := hq.kept k0 (by simp)
  have HC : Hid ((d.loose.length + 1) * 40 ≤ 140737488355328) := hcap
  clear hcap hp hq hb hk bO hne
  go_enter Try.func65, Try.ntmps65
  go_wp2_with fail
  refine hP.mono ?_
  rintro e w1 ⟨A', rfl, p1, x1⟩
  have r2 := x1.1.cell q2 nA
  have r4 := x1.1.cell q4 nA
  have hQ := hq1 w1 A' x1
  clear hP hq1 q0 q2 q4
  go_wp2_with fail
  refine hQ.mono ?_
  rintro e w2 ⟨B', rfl, p2, x2⟩
  obtain ⟨f1, f2⟩ := both_step p1 x1 HQ.out hap p2 x2
  clear hQ p1 p2 r2 r4
  go_wp2
  go_returns
  exact ⟨_, rfl, f1, f2.after k0⟩
set_option maxHeartbeats 800000 in
theorem writes_pair (v u ub vk : Value) (d : DS) (F : Foot) (wh n m cl : Int) (b : List UInt8) (keep : List Int) (w : World) (h : Both w v u d F) (hb : Bs w ub b) (hk : Is w vk keep) (hne : b ≠ [] → ∀ x, ub.ownBlock = some x → x ∉ F.own) (hcap : (d.loose.length + 1) * 40 ≤ 140737488355328) :
    Calls Try.prog 65 #[v, u, .agg #[.int .i64 3, .int .i64 wh, .int .i64 n, .int .i64 m, ub, .int .i64 cl, vk]] w fun e w' => ∃ F', e = .returned (.tuple #[.int .i64 (wE d 3 n b), .int .i64 (wE d 3 n b), .bool (isW 3)]) ∧ Both w' v u (wD d 3 n b) F' ∧ NextP w w' F F' := by
  obtain ⟨A, B, hp, hq, hap, rfl⟩ := h
  obtain ⟨gv, rfl⟩ := hp.ptr
  obtain ⟨gu, rfl⟩ := hq.ptr
  obtain ⟨pb, cb, rfl, -⟩ := id hb
  obtain ⟨pk, ck, rfl, -⟩ := id hk
  have k0 := (Kept.refl [] w).alloc (.cells #[.int .i64 3, .int .i64 wh, .int .i64 n, .int .i64 m, .slice pb b.length cb, .int .i64 cl, .slice pk keep.length ck] 59)
  have bO := Blk.new w 59 [.int .i64 3, .int .i64 wh, .int .i64 n, .int .i64 m, .slice pb b.length cb, .int .i64 cl, .slice pk keep.length ck]
  have q0 := bO.cell (j := 0) rfl
  have q2 := bO.cell (j := 2) rfl
  have q4 := bO.cell (j := 4) rfl
  have nA : w.heap.size ∉ A.own := fun hm => by have := hp.lt _ (Foot.inOwn hm); omega
  have hP := fWritePair _ d A (.slice pb b.length cb) b _ (hp.kept k0 (by simp)) (hb.kept k0) (fun h0 x hx hm => hne h0 x hx (by simp [hm])) hcap
  have hq1 := fun (w1 : World) (A' : Foot) (x1 : NextP (w.alloc (.cells #[.int .i64 3, .int .i64 wh, .int .i64 n, .int .i64 m, .slice pb b.length cb, .int .i64 cl, .slice pk keep.length ck] 59)) w1 A A') => qWrite _ d B 1 0 (.slice pb b.length cb) b w1 ((hq.kept k0 (by simp)).kept x1.1 (fun x hx => hap x (Foot.inOwn hx))) ((hb.kept k0).keptNe x1.1 (fun h0 x hx hm => hne h0 x hx (by simp [hm]))) (fun h0 x hx hm => hne h0 x hx (by simp [hm])) hcap
  simp only [idxOf_pair] at hq1
  have HQ : Hid (QD (w.alloc (.cells #[.int .i64 3, .int .i64 wh, .int .i64 n, .int .i64 m, .slice pb b.length cb, .int .i64 cl, .slice pk keep.length ck] 59)) _ d B) := hq.kept k0 (by simp)
  have HC : Hid ((d.loose.length + 1) * 40 ≤ 140737488355328) := hcap
  clear hcap hp hq hb hk bO hne
  go_enter Try.func65, Try.ntmps65
  go_wp2_with fail
  refine hP.mono ?_
  rintro e w1 ⟨A', rfl, p1, x1⟩
  have r2 := x1.1.cell q2 nA
  have r4 := x1.1.cell q4 nA
  have hQ := hq1 w1 A' x1
  clear hP hq1 q0 q2 q4
  go_wp2_with fail
  refine hQ.mono ?_
  rintro e w2 ⟨B', rfl, p2, x2⟩
  obtain ⟨f1, f2⟩ := both_step p1 x1 HQ.out hap p2 x2
  clear hQ p1 p2 r2 r4
  go_wp2
  go_returns
  exact ⟨_, rfl, f1, f2.after k0⟩
set_option maxHeartbeats 800000 in
theorem writes_master (v u ub vk : Value) (d : DS) (F : Foot) (wh n m cl : Int) (b : List UInt8) (keep : List Int) (w : World) (h : Both w v u d F) (hb : Bs w ub b) (hk : Is w vk keep) (hne : b ≠ [] → ∀ x, ub.ownBlock = some x → x ∉ F.own) (hcap : (d.loose.length + 1) * 40 ≤ 140737488355328) :
    Calls Try.prog 65 #[v, u, .agg #[.int .i64 10, .int .i64 wh, .int .i64 n, .int .i64 m, ub, .int .i64 cl, vk]] w fun e w' => ∃ F', e = .returned (.tuple #[.int .i64 (wE d 10 n b), .int .i64 (wE d 10 n b), .bool (isW 10)]) ∧ Both w' v u (wD d 10 n b) F' ∧ NextP w w' F F' := by
  obtain ⟨A, B, hp, hq, hap, rfl⟩ := h
  obtain ⟨gv, rfl⟩ := hp.ptr
  obtain ⟨gu, rfl⟩ := hq.ptr
  obtain ⟨pb, cb, rfl, -⟩ := id hb
  obtain ⟨pk, ck, rfl, -⟩ := id hk
  have k0 := (Kept.refl [] w).alloc (.cells #[.int .i64 10, .int .i64 wh, .int .i64 n, .int .i64 m, .slice pb b.length cb, .int .i64 cl, .slice pk keep.length ck] 59)
  have bO := Blk.new w 59 [.int .i64 10, .int .i64 wh, .int .i64 n, .int .i64 m, .slice pb b.length cb, .int .i64 cl, .slice pk keep.length ck]
  have q0 := bO.cell (j := 0) rfl
  have q2 := bO.cell (j := 2) rfl
  have q4 := bO.cell (j := 4) rfl
  have nA : w.heap.size ∉ A.own := fun hm => by have := hp.lt _ (Foot.inOwn hm); omega
  have hP := fWriteMaster _ d A n (.slice pb b.length cb) b _ (hp.kept k0 (by simp)) (hb.kept k0) (fun h0 x hx hm => hne h0 x hx (by simp [hm])) hcap
  have hq1 := fun (w1 : World) (A' : Foot) (x1 : NextP (w.alloc (.cells #[.int .i64 10, .int .i64 wh, .int .i64 n, .int .i64 m, .slice pb b.length cb, .int .i64 cl, .slice pk keep.length ck] 59)) w1 A A') => qWrite _ d B 2 n (.slice pb b.length cb) b w1 ((hq.kept k0 (by simp)).kept x1.1 (fun x hx => hap x (Foot.inOwn hx))) ((hb.kept k0).keptNe x1.1 (fun h0 x hx hm => hne h0 x hx (by simp [hm]))) (fun h0 x hx hm => hne h0 x hx (by simp [hm])) hcap
  simp only [idxOf_master] at hq1
  have HQ : Hid (QD (w.alloc (.cells #[.int .i64 10, .int .i64 wh, .int .i64 n, .int .i64 m, .slice pb b.length cb, .int .i64 cl, .slice pk keep.length ck] 59)) _ d B) := hq.kept k0 (by simp)
  have HC : Hid ((d.loose.length + 1) * 40 ≤ 140737488355328) := hcap
  clear hcap hp hq hb hk bO hne
  go_enter Try.func65, Try.ntmps65
  go_wp2_with fail
  refine hP.mono ?_
  rintro e w1 ⟨A', rfl, p1, x1⟩
  have r2 := x1.1.cell q2 nA
  have r4 := x1.1.cell q4 nA
  have hQ := hq1 w1 A' x1
  clear hP hq1 q0 q2 q4
  go_wp2_with fail
  refine hQ.mono ?_
  rintro e w2 ⟨B', rfl, p2, x2⟩
  obtain ⟨f1, f2⟩ := both_step p1 x1 HQ.out hap p2 x2
  clear hQ p1 p2 r2 r4
  go_wp2
  go_returns
  exact ⟨_, rfl, f1, f2.after k0⟩
set_option maxHeartbeats 800000 in
theorem writes_sync (v u ub vk : Value) (d : DS) (F : Foot) (wh n m cl : Int) (b : List UInt8) (keep : List Int) (w : World) (h : Both w v u d F) (hb : Bs w ub b) (hk : Is w vk keep) (hne : b ≠ [] → ∀ x, ub.ownBlock = some x → x ∉ F.own) (hcap : (d.loose.length + 1) * 40 ≤ 140737488355328) :
    Calls Try.prog 65 #[v, u, .agg #[.int .i64 4, .int .i64 wh, .int .i64 n, .int .i64 m, ub, .int .i64 cl, vk]] w fun e w' => ∃ F', e = .returned (.tuple #[.int .i64 (wE d 4 n b), .int .i64 (wE d 4 n b), .bool (isW 4)]) ∧ Both w' v u (wD d 4 n b) F' ∧ NextP w w' F F' := by
  obtain ⟨A, B, hp, hq, hap, rfl⟩ := h
  obtain ⟨gv, rfl⟩ := hp.ptr
  obtain ⟨gu, rfl⟩ := hq.ptr
  obtain ⟨pb, cb, rfl, -⟩ := id hb
  obtain ⟨pk, ck, rfl, -⟩ := id hk
  have k0 := (Kept.refl [] w).alloc (.cells #[.int .i64 4, .int .i64 wh, .int .i64 n, .int .i64 m, .slice pb b.length cb, .int .i64 cl, .slice pk keep.length ck] 59)
  have bO := Blk.new w 59 [.int .i64 4, .int .i64 wh, .int .i64 n, .int .i64 m, .slice pb b.length cb, .int .i64 cl, .slice pk keep.length ck]
  have q0 := bO.cell (j := 0) rfl
  have q2 := bO.cell (j := 2) rfl
  have q4 := bO.cell (j := 4) rfl
  have nA : w.heap.size ∉ A.own := fun hm => by have := hp.lt _ (Foot.inOwn hm); omega
  have hP := fSync _ d A  _ (hp.kept k0 (by simp)) (by omega)
  have hq1 := fun (w1 : World) (A' : Foot) (x1 : NextP (w.alloc (.cells #[.int .i64 4, .int .i64 wh, .int .i64 n, .int .i64 m, .slice pb b.length cb, .int .i64 cl, .slice pk keep.length ck] 59)) w1 A A') => qSync _ d B false w1 ((hq.kept k0 (by simp)).kept x1.1 (fun x hx => hap x (Foot.inOwn hx))) (by omega)
  have HQ : Hid (QD (w.alloc (.cells #[.int .i64 4, .int .i64 wh, .int .i64 n, .int .i64 m, .slice pb b.length cb, .int .i64 cl, .slice pk keep.length ck] 59)) _ d B) := hq.kept k0 (by simp)
  have HC : Hid ((d.loose.length + 1) * 40 ≤ 140737488355328) := hcap
  clear hcap hp hq hb hk bO hne
  go_enter Try.func65, Try.ntmps65
  go_wp2_with fail
  refine hP.mono ?_
  rintro e w1 ⟨A', rfl, p1, x1⟩
  have r2 := x1.1.cell q2 nA
  have r4 := x1.1.cell q4 nA
  have hQ := hq1 w1 A' x1
  clear hP hq1 q0 q2 q4
  go_wp2_with fail
  refine hQ.mono ?_
  rintro e w2 ⟨B', rfl, p2, x2⟩
  obtain ⟨f1, f2⟩ := both_step p1 x1 HQ.out hap p2 x2
  clear hQ p1 p2 r2 r4
  go_wp2
  go_returns
  exact ⟨_, rfl, f1, f2.after k0⟩
set_option maxHeartbeats 800000 in
theorem writes_syncm (v u ub vk : Value) (d : DS) (F : Foot) (wh n m cl : Int) (b : List UInt8) (keep : List Int) (w : World) (h : Both w v u d F) (hb : Bs w ub b) (hk : Is w vk keep) (hne : b ≠ [] → ∀ x, ub.ownBlock = some x → x ∉ F.own) (hcap : (d.loose.length + 1) * 40 ≤ 140737488355328) :
    Calls Try.prog 65 #[v, u, .agg #[.int .i64 11, .int .i64 wh, .int .i64 n, .int .i64 m, ub, .int .i64 cl, vk]] w fun e w' => ∃ F', e = .returned (.tuple #[.int .i64 (wE d 11 n b), .int .i64 (wE d 11 n b), .bool (isW 11)]) ∧ Both w' v u (wD d 11 n b) F' ∧ NextP w w' F F' := by
  obtain ⟨A, B, hp, hq, hap, rfl⟩ := h
  obtain ⟨gv, rfl⟩ := hp.ptr
  obtain ⟨gu, rfl⟩ := hq.ptr
  obtain ⟨pb, cb, rfl, -⟩ := id hb
  obtain ⟨pk, ck, rfl, -⟩ := id hk
  have k0 := (Kept.refl [] w).alloc (.cells #[.int .i64 11, .int .i64 wh, .int .i64 n, .int .i64 m, .slice pb b.length cb, .int .i64 cl, .slice pk keep.length ck] 59)
  have bO := Blk.new w 59 [.int .i64 11, .int .i64 wh, .int .i64 n, .int .i64 m, .slice pb b.length cb, .int .i64 cl, .slice pk keep.length ck]
  have q0 := bO.cell (j := 0) rfl
  have q2 := bO.cell (j := 2) rfl
  have q4 := bO.cell (j := 4) rfl
  have nA : w.heap.size ∉ A.own := fun hm => by have := hp.lt _ (Foot.inOwn hm); omega
  have hP := fSyncMasters _ d A  _ (hp.kept k0 (by simp)) (by omega)
  have hq1 := fun (w1 : World) (A' : Foot) (x1 : NextP (w.alloc (.cells #[.int .i64 11, .int .i64 wh, .int .i64 n, .int .i64 m, .slice pb b.length cb, .int .i64 cl, .slice pk keep.length ck] 59)) w1 A A') => qSync _ d B true w1 ((hq.kept k0 (by simp)).kept x1.1 (fun x hx => hap x (Foot.inOwn hx))) (by omega)
  have HQ : Hid (QD (w.alloc (.cells #[.int .i64 11, .int .i64 wh, .int .i64 n, .int .i64 m, .slice pb b.length cb, .int .i64 cl, .slice pk keep.length ck] 59)) _ d B) := hq.kept k0 (by simp)
  have HC : Hid ((d.loose.length + 1) * 40 ≤ 140737488355328) := hcap
  clear hcap hp hq hb hk bO hne
  go_enter Try.func65, Try.ntmps65
  go_wp2_with fail
  refine hP.mono ?_
  rintro e w1 ⟨A', rfl, p1, x1⟩
  have r2 := x1.1.cell q2 nA
  have r4 := x1.1.cell q4 nA
  have hQ := hq1 w1 A' x1
  clear hP hq1 q0 q2 q4
  go_wp2_with fail
  refine hQ.mono ?_
  rintro e w2 ⟨B', rfl, p2, x2⟩
  obtain ⟨f1, f2⟩ := both_step p1 x1 HQ.out hap p2 x2
  clear hQ p1 p2 r2 r4
  go_wp2
  go_returns
  exact ⟨_, rfl, f1, f2.after k0⟩
set_option maxHeartbeats 800000 in
theorem writes_append (v u ub vk : Value) (d : DS) (F : Foot) (wh n m cl : Int) (b : List UInt8) (keep : List Int) (w : World) (h : Both w v u d F) (hb : Bs w ub b) (hk : Is w vk keep) (hne : b ≠ [] → ∀ x, ub.ownBlock = some x → x ∉ F.own) (hcap : (d.loose.length + 1) * 40 ≤ 140737488355328) :
    Calls Try.prog 65 #[v, u, .agg #[.int .i64 6, .int .i64 wh, .int .i64 n, .int .i64 m, ub, .int .i64 cl, vk]] w fun e w' => ∃ F', e = .returned (.tuple #[.int .i64 (wE d 6 n b), .int .i64 (wE d 6 n b), .bool (isW 6)]) ∧ Both w' v u (wD d 6 n b) F' ∧ NextP w w' F F' := by
  obtain ⟨A, B, hp, hq, hap, rfl⟩ := h
  obtain ⟨gv, rfl⟩ := hp.ptr
  obtain ⟨gu, rfl⟩ := hq.ptr
  obtain ⟨pb, cb, rfl, -⟩ := id hb
  obtain ⟨pk, ck, rfl, -⟩ := id hk
  have k0 := (Kept.refl [] w).alloc (.cells #[.int .i64 6, .int .i64 wh, .int .i64 n, .int .i64 m, .slice pb b.length cb, .int .i64 cl, .slice pk keep.length ck] 59)
  have bO := Blk.new w 59 [.int .i64 6, .int .i64 wh, .int .i64 n, .int .i64 m, .slice pb b.length cb, .int .i64 cl, .slice pk keep.length ck]
  have q0 := bO.cell (j := 0) rfl
  have q2 := bO.cell (j := 2) rfl
  have q4 := bO.cell (j := 4) rfl
  have nA : w.heap.size ∉ A.own := fun hm => by have := hp.lt _ (Foot.inOwn hm); omega
  have hP := fAppend _ d A (.slice pb b.length cb) b _ (hp.kept k0 (by simp)) (hb.kept k0) (fun h0 x hx hm => hne h0 x hx (by simp [hm]))
  have hq1 := fun (w1 : World) (A' : Foot) (x1 : NextP (w.alloc (.cells #[.int .i64 6, .int .i64 wh, .int .i64 n, .int .i64 m, .slice pb b.length cb, .int .i64 cl, .slice pk keep.length ck] 59)) w1 A A') => qAppend _ d B (.slice pb b.length cb) b w1 ((hq.kept k0 (by simp)).kept x1.1 (fun x hx => hap x (Foot.inOwn hx))) ((hb.kept k0).keptNe x1.1 (fun h0 x hx hm => hne h0 x hx (by simp [hm]))) (fun h0 x hx hm => hne h0 x hx (by simp [hm]))
  have HQ : Hid (QD (w.alloc (.cells #[.int .i64 6, .int .i64 wh, .int .i64 n, .int .i64 m, .slice pb b.length cb, .int .i64 cl, .slice pk keep.length ck] 59)) _ d B) := hq.kept k0 (by simp)
  have HC : Hid ((d.loose.length + 1) * 40 ≤ 140737488355328) := hcap
  clear hcap hp hq hb hk bO hne
  go_enter Try.func65, Try.ntmps65
  go_wp2_with fail
  refine hP.mono ?_
  rintro e w1 ⟨A', rfl, p1, x1⟩
  have r2 := x1.1.cell q2 nA
  have r4 := x1.1.cell q4 nA
  have hQ := hq1 w1 A' x1
  clear hP hq1 q0 q2 q4
  go_wp2_with fail
  refine hQ.mono ?_
  rintro e w2 ⟨B', rfl, p2, x2⟩
  obtain ⟨f1, f2⟩ := both_step p1 x1 HQ.out hap p2 x2
  clear hQ p1 p2 r2 r4
  go_wp2
  go_returns
  exact ⟨_, rfl, f1, f2.after k0⟩
set_option maxHeartbeats 800000 in
theorem writes_synclog (v u ub vk : Value) (d : DS) (F : Foot) (wh n m cl : Int) (b : List UInt8) (keep : List Int) (w : World) (h : Both w v u d F) (hb : Bs w ub b) (hk : Is w vk keep) (hne : b ≠ [] → ∀ x, ub.ownBlock = some x → x ∉ F.own) (hcap : (d.loose.length + 1) * 40 ≤ 140737488355328) :
    Calls Try.prog 65 #[v, u, .agg #[.int .i64 7, .int .i64 wh, .int .i64 n, .int .i64 m, ub, .int .i64 cl, vk]] w fun e w' => ∃ F', e = .returned (.tuple #[.int .i64 (wE d 7 n b), .int .i64 (wE d 7 n b), .bool (isW 7)]) ∧ Both w' v u (wD d 7 n b) F' ∧ NextP w w' F F' := by
  obtain ⟨A, B, hp, hq, hap, rfl⟩ := h
  obtain ⟨gv, rfl⟩ := hp.ptr
  obtain ⟨gu, rfl⟩ := hq.ptr
  obtain ⟨pb, cb, rfl, -⟩ := id hb
  obtain ⟨pk, ck, rfl, -⟩ := id hk
  have k0 := (Kept.refl [] w).alloc (.cells #[.int .i64 7, .int .i64 wh, .int .i64 n, .int .i64 m, .slice pb b.length cb, .int .i64 cl, .slice pk keep.length ck] 59)
  have bO := Blk.new w 59 [.int .i64 7, .int .i64 wh, .int .i64 n, .int .i64 m, .slice pb b.length cb, .int .i64 cl, .slice pk keep.length ck]
  have q0 := bO.cell (j := 0) rfl
  have q2 := bO.cell (j := 2) rfl
  have q4 := bO.cell (j := 4) rfl
  have nA : w.heap.size ∉ A.own := fun hm => by have := hp.lt _ (Foot.inOwn hm); omega
  have hP := fSyncLog _ d A  _ (hp.kept k0 (by simp))
  have hq1 := fun (w1 : World) (A' : Foot) (x1 : NextP (w.alloc (.cells #[.int .i64 7, .int .i64 wh, .int .i64 n, .int .i64 m, .slice pb b.length cb, .int .i64 cl, .slice pk keep.length ck] 59)) w1 A A') => qSyncLog _ d B w1 ((hq.kept k0 (by simp)).kept x1.1 (fun x hx => hap x (Foot.inOwn hx)))
  have HQ : Hid (QD (w.alloc (.cells #[.int .i64 7, .int .i64 wh, .int .i64 n, .int .i64 m, .slice pb b.length cb, .int .i64 cl, .slice pk keep.length ck] 59)) _ d B) := hq.kept k0 (by simp)
  have HC : Hid ((d.loose.length + 1) * 40 ≤ 140737488355328) := hcap
  clear hcap hp hq hb hk bO hne
  go_enter Try.func65, Try.ntmps65
  go_wp2_with fail
  refine hP.mono ?_
  rintro e w1 ⟨A', rfl, p1, x1⟩
  have r2 := x1.1.cell q2 nA
  have r4 := x1.1.cell q4 nA
  have hQ := hq1 w1 A' x1
  clear hP hq1 q0 q2 q4
  go_wp2_with fail
  refine hQ.mono ?_
  rintro e w2 ⟨B', rfl, p2, x2⟩
  obtain ⟨f1, f2⟩ := both_step p1 x1 HQ.out hap p2 x2
  clear hQ p1 p2 r2 r4
  go_wp2
  go_returns
  exact ⟨_, rfl, f1, f2.after k0⟩
set_option maxHeartbeats 800000 in
theorem writes_cut (v u ub vk : Value) (d : DS) (F : Foot) (wh n m cl : Int) (b : List UInt8) (keep : List Int) (w : World) (h : Both w v u d F) (hb : Bs w ub b) (hk : Is w vk keep) (hne : b ≠ [] → ∀ x, ub.ownBlock = some x → x ∉ F.own) (hcap : (d.loose.length + 1) * 40 ≤ 140737488355328) :
    Calls Try.prog 65 #[v, u, .agg #[.int .i64 8, .int .i64 wh, .int .i64 n, .int .i64 m, ub, .int .i64 cl, vk]] w fun e w' => ∃ F', e = .returned (.tuple #[.int .i64 (wE d 8 n b), .int .i64 (wE d 8 n b), .bool (isW 8)]) ∧ Both w' v u (wD d 8 n b) F' ∧ NextP w w' F F' := by
  obtain ⟨A, B, hp, hq, hap, rfl⟩ := h
  obtain ⟨gv, rfl⟩ := hp.ptr
  obtain ⟨gu, rfl⟩ := hq.ptr
  obtain ⟨pb, cb, rfl, -⟩ := id hb
  obtain ⟨pk, ck, rfl, -⟩ := id hk
  have k0 := (Kept.refl [] w).alloc (.cells #[.int .i64 8, .int .i64 wh, .int .i64 n, .int .i64 m, .slice pb b.length cb, .int .i64 cl, .slice pk keep.length ck] 59)
  have bO := Blk.new w 59 [.int .i64 8, .int .i64 wh, .int .i64 n, .int .i64 m, .slice pb b.length cb, .int .i64 cl, .slice pk keep.length ck]
  have q0 := bO.cell (j := 0) rfl
  have q2 := bO.cell (j := 2) rfl
  have q4 := bO.cell (j := 4) rfl
  have nA : w.heap.size ∉ A.own := fun hm => by have := hp.lt _ (Foot.inOwn hm); omega
  have hP := fCut _ d A n _ (hp.kept k0 (by simp))
  have hq1 := fun (w1 : World) (A' : Foot) (x1 : NextP (w.alloc (.cells #[.int .i64 8, .int .i64 wh, .int .i64 n, .int .i64 m, .slice pb b.length cb, .int .i64 cl, .slice pk keep.length ck] 59)) w1 A A') => qCut _ d B n w1 ((hq.kept k0 (by simp)).kept x1.1 (fun x hx => hap x (Foot.inOwn hx)))
  have HQ : Hid (QD (w.alloc (.cells #[.int .i64 8, .int .i64 wh, .int .i64 n, .int .i64 m, .slice pb b.length cb, .int .i64 cl, .slice pk keep.length ck] 59)) _ d B) := hq.kept k0 (by simp)
  have HC : Hid ((d.loose.length + 1) * 40 ≤ 140737488355328) := hcap
  clear hcap hp hq hb hk bO hne
  go_enter Try.func65, Try.ntmps65
  go_wp2_with fail
  refine hP.mono ?_
  rintro e w1 ⟨A', rfl, p1, x1⟩
  have r2 := x1.1.cell q2 nA
  have r4 := x1.1.cell q4 nA
  have hQ := hq1 w1 A' x1
  clear hP hq1 q0 q2 q4
  go_wp2_with fail
  refine hQ.mono ?_
  rintro e w2 ⟨B', rfl, p2, x2⟩
  obtain ⟨f1, f2⟩ := both_step p1 x1 HQ.out hap p2 x2
  clear hQ p1 p2 r2 r4
  go_wp2
  go_returns
  exact ⟨_, rfl, f1, f2.after k0⟩
theorem writes_none (v u ub vk : Value) (d : DS) (F : Foot) (wh n m cl : Int) (b : List UInt8) (keep : List Int) (w : World) (h : Both w v u d F) (hb : Bs w ub b) (hk : Is w vk keep) (hne : b ≠ [] → ∀ x, ub.ownBlock = some x → x ∉ F.own) (hcap : (d.loose.length + 1) * 40 ≤ 140737488355328) (K : Int) (h1 : ¬ K = 1) (h3 : ¬ K = 3) (h10 : ¬ K = 10) (h4 : ¬ K = 4) (h11 : ¬ K = 11) (h6 : ¬ K = 6) (h7 : ¬ K = 7) (h8 : ¬ K = 8) :
    Calls Try.prog 65 #[v, u, .agg #[.int .i64 K, .int .i64 wh, .int .i64 n, .int .i64 m, ub, .int .i64 cl, vk]] w fun e w' => ∃ F', e = .returned (.tuple #[.int .i64 (wE d K n b), .int .i64 (wE d K n b), .bool (isW K)]) ∧ Both w' v u (wD d K n b) F' ∧ NextP w w' F F' := by
  have e1 : wE d K n b = 0 := by unfold wE; rw [if_neg h1, if_neg h3, if_neg h10, if_neg h4, if_neg h11, if_neg h6, if_neg h7, if_neg h8]
  have e2 : wD d K n b = d := by unfold wD; rw [if_neg h1, if_neg h3, if_neg h10, if_neg h4, if_neg h11, if_neg h6, if_neg h7, if_neg h8]
  have e3 : isW K = false := by unfold isW; simp [h1, h3, h10, h4, h11, h6, h7, h8]
  rw [e1, e2, e3]
  obtain ⟨pb, cb, rfl, -⟩ := id hb
  obtain ⟨pk, ck, rfl, -⟩ := id hk
  have k0 := (Kept.refl [] w).alloc (.cells #[.int .i64 K, .int .i64 wh, .int .i64 n, .int .i64 m, .slice pb b.length cb, .int .i64 cl, .slice pk keep.length ck] 59)
  have bO := Blk.new w 59 [.int .i64 K, .int .i64 wh, .int .i64 n, .int .i64 m, .slice pb b.length cb, .int .i64 cl, .slice pk keep.length ck]
  have q0 := bO.cell (j := 0) rfl
  have fin := h.kept k0 (by simp)
  clear hcap hb hk bO hne h e1 e2 e3
  go_enter Try.func65, Try.ntmps65
  go_wp2
  go_returns
  exact ⟨_, rfl, fin, k0.mono (by simp), fun x hx => .inl hx, fun x hx => .inl hx⟩
theorem writes_any (v u ub vk : Value) (d : DS) (F : Foot) (wh n m cl : Int) (b : List UInt8) (keep : List Int) (w : World) (h : Both w v u d F) (hb : Bs w ub b) (hk : Is w vk keep) (hne : b ≠ [] → ∀ x, ub.ownBlock = some x → x ∉ F.own) (hcap : (d.loose.length + 1) * 40 ≤ 140737488355328) (K : Int) :
    Calls Try.prog 65 #[v, u, .agg #[.int .i64 K, .int .i64 wh, .int .i64 n, .int .i64 m, ub, .int .i64 cl, vk]] w fun e w' => ∃ F', e = .returned (.tuple #[.int .i64 (wE d K n b), .int .i64 (wE d K n b), .bool (isW K)]) ∧ Both w' v u (wD d K n b) F' ∧ NextP w w' F F' := by
  by_cases h1 : K = 1
  · subst h1; exact writes_page v u ub vk d F wh n m cl b keep w h hb hk hne hcap
  by_cases h3 : K = 3
  · subst h3; exact writes_pair v u ub vk d F wh n m cl b keep w h hb hk hne hcap
  by_cases h10 : K = 10
  · subst h10; exact writes_master v u ub vk d F wh n m cl b keep w h hb hk hne hcap
  by_cases h4 : K = 4
  · subst h4; exact writes_sync v u ub vk d F wh n m cl b keep w h hb hk hne hcap
  by_cases h11 : K = 11
  · subst h11; exact writes_syncm v u ub vk d F wh n m cl b keep w h hb hk hne hcap
  by_cases h6 : K = 6
  · subst h6; exact writes_append v u ub vk d F wh n m cl b keep w h hb hk hne hcap
  by_cases h7 : K = 7
  · subst h7; exact writes_synclog v u ub vk d F wh n m cl b keep w h hb hk hne hcap
  by_cases h8 : K = 8
  · subst h8; exact writes_cut v u ub vk d F wh n m cl b keep w h hb hk hne hcap
  exact writes_none v u ub vk d F wh n m cl b keep w h hb hk hne hcap K h1 h3 h10 h4 h11 h6 h7 h8
end Go.Proofs.Ytmipmiaflompmaa

/-
  OWN WORK. The laws of disk: reads.
-/
namespace Go.Proofs.Ytmipmiaflompmaa
open Go.RowKit
set_option linter.unusedVariables false

/-- what a call of 'reads' makes -/
def rD (d : DS) (k : Int) : DS := if k = 0 ∨ k = 2 ∨ k = 9 ∨ k = 5 then d.act else d
set_option maxHeartbeats 800000 in
theorem reads_page (v u ub vk : Value) (d : DS) (F : Foot) (wh n m cl : Int) (b : List UInt8) (keep : List Int) (w : World) (h : Both w v u d F) (hb : Bs w ub b) (hk : Is w vk keep) :
    Calls Try.prog 66 #[v, u, .agg #[.int .i64 0, .int .i64 wh, .int .i64 n, .int .i64 m, ub, .int .i64 cl, vk]] w fun e w' => ∃ F', e = .returned (.bool true) ∧ Both w' v u (rD d 0) F' ∧ NextP w w' F F' := by
  obtain ⟨A, B, hp, hq, hap, rfl⟩ := h
  obtain ⟨gv, rfl⟩ := hp.ptr
  obtain ⟨gu, rfl⟩ := hq.ptr
  obtain ⟨pb, cb, rfl, -⟩ := id hb
  obtain ⟨pk, ck, rfl, -⟩ := id hk
  have k0 := (Kept.refl [] w).alloc (.cells #[.int .i64 0, .int .i64 wh, .int .i64 n, .int .i64 m, .slice pb b.length cb, .int .i64 cl, .slice pk keep.length ck] 59)
  have bO := Blk.new w 59 [.int .i64 0, .int .i64 wh, .int .i64 n, .int .i64 m, .slice pb b.length cb, .int .i64 cl, .slice pk keep.length ck]
  have q0 := bO.cell (j := 0) rfl
  have q2 := bO.cell (j := 2) rfl
  have q3 := bO.cell (j := 3) rfl
  have nA : w.heap.size ∉ A.own := fun hm => by have := hp.lt _ (Foot.inOwn hm); omega
  have hP := fReadPage _ d A n _ (hp.kept k0 (by simp))
  have hq1 := fun (w1 : World) (A' : Foot) (x1 : NextP (w.alloc (.cells #[.int .i64 0, .int .i64 wh, .int .i64 n, .int .i64 m, .slice pb b.length cb, .int .i64 cl, .slice pk keep.length ck] 59)) w1 A A') => qRead _ d B 0 n w1 ((hq.kept k0 (by simp)).kept x1.1 (fun x hx => hap x (Foot.inOwn hx)))
  simp only [idxOf_page] at hq1
  have HQ : Hid (QD (w.alloc (.cells #[.int .i64 0, .int .i64 wh, .int .i64 n, .int .i64 m, .slice pb b.length cb, .int .i64 cl, .slice pk keep.length ck] 59)) _ d B) := hq.kept k0 (by simp)
  have hlB : ∀ x ∈ B, x < w.heap.size := hq.lt
  clear hp hq hb hk bO
  generalize readE d (pageIx d.np n) = E at *
  go_enter Try.func66, Try.ntmps66
  go_wp2_with fail
  refine hP.mono ?_
  rintro e w1 ⟨c1, A', rfl, o1, -, p1, x1⟩
  have r2 := x1.1.cell q2 nA
  have r3 := x1.1.cell q3 nA
  have hQ := hq1 w1 A' x1
  clear hP hq1 q0 q2 q3
  go_wp2_with fail
  refine hQ.mono ?_
  rintro e w2 ⟨c2, B', rfl, o2, -, p2, x2⟩
  obtain ⟨f1, f2⟩ := both_step p1 x1 HQ.out hap p2 x2
  have s1 : Bs w2 c1 _ := (Bs.ofOwn o1).keptOwn x2.1 (fun x hx hm => by have h1 := own_ge o1 x hx; have h2 := hlB x hm; have h3 := k0.size; omega)
  have hS := same_eq c1 c2 _ w2 s1 (Bs.ofOwn o2)
  obtain ⟨pc1, cc1, rfl⟩ := own_shape2 o1
  obtain ⟨pc2, cc2, rfl⟩ := own_shape2 o2
  clear hQ p1 p2 r2 r3 s1 o1 o2
  go_wp2_with fail
  refine hS.mono ?_
  rintro e w3 ⟨rfl, rfl⟩
  clear hS
  go_wp2
  go_ret
  exact ⟨_, by simp, f1, f2.after k0⟩
set_option maxHeartbeats 800000 in
theorem reads_pair (v u ub vk : Value) (d : DS) (F : Foot) (wh n m cl : Int) (b : List UInt8) (keep : List Int) (w : World) (h : Both w v u d F) (hb : Bs w ub b) (hk : Is w vk keep) :
    Calls Try.prog 66 #[v, u, .agg #[.int .i64 2, .int .i64 wh, .int .i64 n, .int .i64 m, ub, .int .i64 cl, vk]] w fun e w' => ∃ F', e = .returned (.bool true) ∧ Both w' v u (rD d 2) F' ∧ NextP w w' F F' := by
  obtain ⟨A, B, hp, hq, hap, rfl⟩ := h
  obtain ⟨gv, rfl⟩ := hp.ptr
  obtain ⟨gu, rfl⟩ := hq.ptr
  obtain ⟨pb, cb, rfl, -⟩ := id hb
  obtain ⟨pk, ck, rfl, -⟩ := id hk
  have k0 := (Kept.refl [] w).alloc (.cells #[.int .i64 2, .int .i64 wh, .int .i64 n, .int .i64 m, .slice pb b.length cb, .int .i64 cl, .slice pk keep.length ck] 59)
  have bO := Blk.new w 59 [.int .i64 2, .int .i64 wh, .int .i64 n, .int .i64 m, .slice pb b.length cb, .int .i64 cl, .slice pk keep.length ck]
  have q0 := bO.cell (j := 0) rfl
  have q2 := bO.cell (j := 2) rfl
  have q3 := bO.cell (j := 3) rfl
  have nA : w.heap.size ∉ A.own := fun hm => by have := hp.lt _ (Foot.inOwn hm); omega
  have hP := fReadPair _ d A  _ (hp.kept k0 (by simp))
  have hq1 := fun (w1 : World) (A' : Foot) (x1 : NextP (w.alloc (.cells #[.int .i64 2, .int .i64 wh, .int .i64 n, .int .i64 m, .slice pb b.length cb, .int .i64 cl, .slice pk keep.length ck] 59)) w1 A A') => qRead _ d B 1 0 w1 ((hq.kept k0 (by simp)).kept x1.1 (fun x hx => hap x (Foot.inOwn hx)))
  simp only [idxOf_pair] at hq1
  have HQ : Hid (QD (w.alloc (.cells #[.int .i64 2, .int .i64 wh, .int .i64 n, .int .i64 m, .slice pb b.length cb, .int .i64 cl, .slice pk keep.length ck] 59)) _ d B) := hq.kept k0 (by simp)
  have hlB : ∀ x ∈ B, x < w.heap.size := hq.lt
  clear hp hq hb hk bO
  generalize readE d (some 0) = E at *
  go_enter Try.func66, Try.ntmps66
  go_wp2_with fail
  refine hP.mono ?_
  rintro e w1 ⟨c1, A', rfl, o1, -, p1, x1⟩
  have r2 := x1.1.cell q2 nA
  have r3 := x1.1.cell q3 nA
  have hQ := hq1 w1 A' x1
  clear hP hq1 q0 q2 q3
  go_wp2_with fail
  refine hQ.mono ?_
  rintro e w2 ⟨c2, B', rfl, o2, -, p2, x2⟩
  obtain ⟨f1, f2⟩ := both_step p1 x1 HQ.out hap p2 x2
  have s1 : Bs w2 c1 _ := (Bs.ofOwn o1).keptOwn x2.1 (fun x hx hm => by have h1 := own_ge o1 x hx; have h2 := hlB x hm; have h3 := k0.size; omega)
  have hS := same_eq c1 c2 _ w2 s1 (Bs.ofOwn o2)
  obtain ⟨pc1, cc1, rfl⟩ := own_shape2 o1
  obtain ⟨pc2, cc2, rfl⟩ := own_shape2 o2
  clear hQ p1 p2 r2 r3 s1 o1 o2
  go_wp2_with fail
  refine hS.mono ?_
  rintro e w3 ⟨rfl, rfl⟩
  clear hS
  go_wp2
  go_ret
  exact ⟨_, by simp, f1, f2.after k0⟩
set_option maxHeartbeats 800000 in
theorem reads_master (v u ub vk : Value) (d : DS) (F : Foot) (wh n m cl : Int) (b : List UInt8) (keep : List Int) (w : World) (h : Both w v u d F) (hb : Bs w ub b) (hk : Is w vk keep) :
    Calls Try.prog 66 #[v, u, .agg #[.int .i64 9, .int .i64 wh, .int .i64 n, .int .i64 m, ub, .int .i64 cl, vk]] w fun e w' => ∃ F', e = .returned (.bool true) ∧ Both w' v u (rD d 9) F' ∧ NextP w w' F F' := by
  obtain ⟨A, B, hp, hq, hap, rfl⟩ := h
  obtain ⟨gv, rfl⟩ := hp.ptr
  obtain ⟨gu, rfl⟩ := hq.ptr
  obtain ⟨pb, cb, rfl, -⟩ := id hb
  obtain ⟨pk, ck, rfl, -⟩ := id hk
  have k0 := (Kept.refl [] w).alloc (.cells #[.int .i64 9, .int .i64 wh, .int .i64 n, .int .i64 m, .slice pb b.length cb, .int .i64 cl, .slice pk keep.length ck] 59)
  have bO := Blk.new w 59 [.int .i64 9, .int .i64 wh, .int .i64 n, .int .i64 m, .slice pb b.length cb, .int .i64 cl, .slice pk keep.length ck]
  have q0 := bO.cell (j := 0) rfl
  have q2 := bO.cell (j := 2) rfl
  have q3 := bO.cell (j := 3) rfl
  have nA : w.heap.size ∉ A.own := fun hm => by have := hp.lt _ (Foot.inOwn hm); omega
  have hP := fReadMaster _ d A n _ (hp.kept k0 (by simp))
  have hq1 := fun (w1 : World) (A' : Foot) (x1 : NextP (w.alloc (.cells #[.int .i64 9, .int .i64 wh, .int .i64 n, .int .i64 m, .slice pb b.length cb, .int .i64 cl, .slice pk keep.length ck] 59)) w1 A A') => qRead _ d B 2 n w1 ((hq.kept k0 (by simp)).kept x1.1 (fun x hx => hap x (Foot.inOwn hx)))
  simp only [idxOf_master] at hq1
  have HQ : Hid (QD (w.alloc (.cells #[.int .i64 9, .int .i64 wh, .int .i64 n, .int .i64 m, .slice pb b.length cb, .int .i64 cl, .slice pk keep.length ck] 59)) _ d B) := hq.kept k0 (by simp)
  have hlB : ∀ x ∈ B, x < w.heap.size := hq.lt
  clear hp hq hb hk bO
  generalize readE d (masterIx d.np n) = E at *
  go_enter Try.func66, Try.ntmps66
  go_wp2_with fail
  refine hP.mono ?_
  rintro e w1 ⟨c1, A', rfl, o1, -, p1, x1⟩
  have r2 := x1.1.cell q2 nA
  have r3 := x1.1.cell q3 nA
  have hQ := hq1 w1 A' x1
  clear hP hq1 q0 q2 q3
  go_wp2_with fail
  refine hQ.mono ?_
  rintro e w2 ⟨c2, B', rfl, o2, -, p2, x2⟩
  obtain ⟨f1, f2⟩ := both_step p1 x1 HQ.out hap p2 x2
  have s1 : Bs w2 c1 _ := (Bs.ofOwn o1).keptOwn x2.1 (fun x hx hm => by have h1 := own_ge o1 x hx; have h2 := hlB x hm; have h3 := k0.size; omega)
  have hS := same_eq c1 c2 _ w2 s1 (Bs.ofOwn o2)
  obtain ⟨pc1, cc1, rfl⟩ := own_shape2 o1
  obtain ⟨pc2, cc2, rfl⟩ := own_shape2 o2
  clear hQ p1 p2 r2 r3 s1 o1 o2
  go_wp2_with fail
  refine hS.mono ?_
  rintro e w3 ⟨rfl, rfl⟩
  clear hS
  go_wp2
  go_ret
  exact ⟨_, by simp, f1, f2.after k0⟩
set_option maxHeartbeats 800000 in
theorem reads_log (v u ub vk : Value) (d : DS) (F : Foot) (wh n m cl : Int) (b : List UInt8) (keep : List Int) (w : World) (h : Both w v u d F) (hb : Bs w ub b) (hk : Is w vk keep) :
    Calls Try.prog 66 #[v, u, .agg #[.int .i64 5, .int .i64 wh, .int .i64 n, .int .i64 m, ub, .int .i64 cl, vk]] w fun e w' => ∃ F', e = .returned (.bool true) ∧ Both w' v u (rD d 5) F' ∧ NextP w w' F F' := by
  obtain ⟨A, B, hp, hq, hap, rfl⟩ := h
  obtain ⟨gv, rfl⟩ := hp.ptr
  obtain ⟨gu, rfl⟩ := hq.ptr
  obtain ⟨pb, cb, rfl, -⟩ := id hb
  obtain ⟨pk, ck, rfl, -⟩ := id hk
  have k0 := (Kept.refl [] w).alloc (.cells #[.int .i64 5, .int .i64 wh, .int .i64 n, .int .i64 m, .slice pb b.length cb, .int .i64 cl, .slice pk keep.length ck] 59)
  have bO := Blk.new w 59 [.int .i64 5, .int .i64 wh, .int .i64 n, .int .i64 m, .slice pb b.length cb, .int .i64 cl, .slice pk keep.length ck]
  have q0 := bO.cell (j := 0) rfl
  have q2 := bO.cell (j := 2) rfl
  have q3 := bO.cell (j := 3) rfl
  have nA : w.heap.size ∉ A.own := fun hm => by have := hp.lt _ (Foot.inOwn hm); omega
  have hP := fReadLog _ d A n m _ (hp.kept k0 (by simp))
  have hq1 := fun (w1 : World) (A' : Foot) (x1 : NextP (w.alloc (.cells #[.int .i64 5, .int .i64 wh, .int .i64 n, .int .i64 m, .slice pb b.length cb, .int .i64 cl, .slice pk keep.length ck] 59)) w1 A A') => qReadLog _ d B n m w1 ((hq.kept k0 (by simp)).kept x1.1 (fun x hx => hap x (Foot.inOwn hx)))
  have HQ : Hid (QD (w.alloc (.cells #[.int .i64 5, .int .i64 wh, .int .i64 n, .int .i64 m, .slice pb b.length cb, .int .i64 cl, .slice pk keep.length ck] 59)) _ d B) := hq.kept k0 (by simp)
  have hlB : ∀ x ∈ B, x < w.heap.size := hq.lt
  clear hp hq hb hk bO
  generalize readLogE d n m = E at *
  go_enter Try.func66, Try.ntmps66
  go_wp2_with fail
  refine hP.mono ?_
  rintro e w1 ⟨c1, A', rfl, o1, -, p1, x1⟩
  have r2 := x1.1.cell q2 nA
  have r3 := x1.1.cell q3 nA
  have hQ := hq1 w1 A' x1
  clear hP hq1 q0 q2 q3
  go_wp2_with fail
  refine hQ.mono ?_
  rintro e w2 ⟨c2, B', rfl, o2, -, p2, x2⟩
  obtain ⟨f1, f2⟩ := both_step p1 x1 HQ.out hap p2 x2
  have s1 : Bs w2 c1 _ := (Bs.ofOwn o1).keptOwn x2.1 (fun x hx hm => by have h1 := own_ge o1 x hx; have h2 := hlB x hm; have h3 := k0.size; omega)
  have hS := same_eq c1 c2 _ w2 s1 (Bs.ofOwn o2)
  obtain ⟨pc1, cc1, rfl⟩ := own_shape2 o1
  obtain ⟨pc2, cc2, rfl⟩ := own_shape2 o2
  clear hQ p1 p2 r2 r3 s1 o1 o2
  go_wp2_with fail
  refine hS.mono ?_
  rintro e w3 ⟨rfl, rfl⟩
  clear hS
  go_wp2
  go_ret
  exact ⟨_, by simp, f1, f2.after k0⟩
theorem reads_none (v u ub vk : Value) (d : DS) (F : Foot) (wh n m cl : Int) (b : List UInt8) (keep : List Int) (w : World) (h : Both w v u d F) (hb : Bs w ub b) (hk : Is w vk keep) (K : Int) (h0 : ¬ K = 0) (h2 : ¬ K = 2) (h9 : ¬ K = 9) (h5 : ¬ K = 5) :
    Calls Try.prog 66 #[v, u, .agg #[.int .i64 K, .int .i64 wh, .int .i64 n, .int .i64 m, ub, .int .i64 cl, vk]] w fun e w' => ∃ F', e = .returned (.bool true) ∧ Both w' v u (rD d K) F' ∧ NextP w w' F F' := by
  have e2 : rD d K = d := by unfold rD; rw [if_neg (by omega)]
  rw [e2]
  obtain ⟨pb, cb, rfl, -⟩ := id hb
  obtain ⟨pk, ck, rfl, -⟩ := id hk
  have k0 := (Kept.refl [] w).alloc (.cells #[.int .i64 K, .int .i64 wh, .int .i64 n, .int .i64 m, .slice pb b.length cb, .int .i64 cl, .slice pk keep.length ck] 59)
  have bO := Blk.new w 59 [.int .i64 K, .int .i64 wh, .int .i64 n, .int .i64 m, .slice pb b.length cb, .int .i64 cl, .slice pk keep.length ck]
  have q0 := bO.cell (j := 0) rfl
  have fin := h.kept k0 (by simp)
  clear hb hk bO h e2
  go_enter Try.func66, Try.ntmps66
  go_wp2
  go_ret
  exact ⟨_, rfl, fin, k0.mono (by simp), fun x hx => .inl hx, fun x hx => .inl hx⟩
theorem reads_any (v u ub vk : Value) (d : DS) (F : Foot) (wh n m cl : Int) (b : List UInt8) (keep : List Int) (w : World) (h : Both w v u d F) (hb : Bs w ub b) (hk : Is w vk keep) (K : Int) :
    Calls Try.prog 66 #[v, u, .agg #[.int .i64 K, .int .i64 wh, .int .i64 n, .int .i64 m, ub, .int .i64 cl, vk]] w fun e w' => ∃ F', e = .returned (.bool true) ∧ Both w' v u (rD d K) F' ∧ NextP w w' F F' := by
  by_cases h0 : K = 0
  · subst h0; exact reads_page v u ub vk d F wh n m cl b keep w h hb hk
  by_cases h2 : K = 2
  · subst h2; exact reads_pair v u ub vk d F wh n m cl b keep w h hb hk
  by_cases h9 : K = 9
  · subst h9; exact reads_master v u ub vk d F wh n m cl b keep w h hb hk
  by_cases h5 : K = 5
  · subst h5; exact reads_log v u ub vk d F wh n m cl b keep w h hb hk
  exact reads_none v u ub vk d F wh n m cl b keep w h hb hk K h0 h2 h9 h5
end Go.Proofs.Ytmipmiaflompmaa

/-
  OWN WORK. The laws of disk: sameImages.
-/
namespace Go.Proofs.Ytmipmiaflompmaa
open Go.RowKit
set_option linter.unusedVariables false

theorem SeeIm.pageAt {w : World} {V : IV} {m : IM} (h : SeeIm w V m) {i : Nat} (hi : i < m.ps.length) : ∃ b o c v l, V.vp = .slice (some ⟨b, o, none⟩) m.ps.length c ∧ w.cell? ⟨b, o + i, none⟩ = some v ∧ m.ps[i]? = some l ∧ Bs w v l := by
  obtain ⟨p, c, e, h1, h2, h3, h4⟩ := h.vp
  have hl := h.len
  obtain ⟨v, hv⟩ : ∃ v, V.pv[i]? = some v := ⟨_, List.getElem?_eq_getElem (by omega)⟩
  obtain ⟨l, hll⟩ : ∃ l, m.ps[i]? = some l := ⟨_, List.getElem?_eq_getElem hi⟩
  cases p with
  | none => have := h4 rfl; omega
  | some a =>
    have hc := h3 a rfl i v hv
    have hs := spot_of_cell (h3 a rfl 0 V.pv[0] (List.getElem?_eq_getElem (by omega)))
    have hs' : a.spot = none := by
      unfold Addr.add at hs
      split at hs <;> simp_all
    rw [add_none hs'] at hc
    exact ⟨a.block, a.off, c, v, l, by rw [e, hl]; obtain ⟨b, o, s⟩ := a; simp at hs'; subst hs'; rfl, hc, hll, h.ps i v l hv hll⟩
set_option maxHeartbeats 3200000 in
theorem sameImages_eq (V U : IV) (m : IM) (w : World) (hV : SeeIm w V m) (hU : SeeIm w U m) :
    Calls Try.prog 21 #[V.agg, U.agg] w fun e w' => e = .returned (.bool true) ∧ Kept [] w w' := by
  have HV : Hid (SeeIm w V m) := hV
  have HU : Hid (SeeIm w U m) := hU
  obtain ⟨u0, v0, e0, l0, m0', -⟩ := hV.vp
  obtain ⟨u1, v1, e1, -⟩ := hV.pair
  obtain ⟨u2, v2, e2, -⟩ := hV.log
  obtain ⟨u3, v3, e3, -⟩ := hV.m0
  obtain ⟨u4, v4, e4, -⟩ := hV.m1
  obtain ⟨a0, b0, f0, -⟩ := hU.vp
  obtain ⟨a1, b1, f1, -⟩ := hU.pair
  obtain ⟨a2, b2, f2, -⟩ := hU.log
  obtain ⟨a3, b3, f3, -⟩ := hU.m0
  obtain ⟨a4, b4, f4, -⟩ := hU.m1
  rw [hV.len] at e0 l0
  rw [hU.len] at f0
  have hbig : m.ps.length ≤ 9223372036854775807 := by unfold maxLen at m0'; omega
  have HB : Hid (m.ps.length ≤ 9223372036854775807) := hbig
  clear l0 m0' hbig
  obtain ⟨w2, hw2⟩ : ∃ w2, w2 = (w.alloc (.cells #[V.vp, V.pair, V.log, V.m0, V.m1] 43)).alloc (.cells #[U.vp, U.pair, U.log, U.m0, U.m1] 43) := ⟨_, rfl⟩
  have k2 : Kept [] w w2 := by rw [hw2]; exact ((Kept.refl [] w).alloc _).alloc _
  have bV : Blk w2 w.heap.size 43 [V.vp, V.pair, V.log, V.m0, V.m1] := by
    rw [hw2]
    exact (Blk.new w _ _).kept ((Kept.refl [] _).alloc _) (by simp)
  have bU : Blk w2 (w.heap.size + 1) 43 [U.vp, U.pair, U.log, U.m0, U.m1] := by
    rw [hw2]
    have := Blk.new (w.alloc (.cells #[V.vp, V.pair, V.log, V.m0, V.m1] 43)) 43 [U.vp, U.pair, U.log, U.m0, U.m1]
    rwa [World.size_alloc] at this
  have hs1 := same_eq _ _ m.pair w2 (hV.pair.kept k2) (hU.pair.kept k2)
  have hs2 := same_eq _ _ m.log w2 (hV.log.kept k2) (hU.log.kept k2)
  have hs3 := same_eq _ _ m.m0 w2 (hV.m0.kept k2) (hU.m0.kept k2)
  have hs4 := same_eq _ _ m.m1 w2 (hV.m1.kept k2) (hU.m1.kept k2)
  obtain ⟨⟨i0, i1, i2, i3, i4⟩, -⟩ := bV.five
  obtain ⟨⟨j0, j1, j2, j3, j4⟩, -⟩ := bU.five
  have K2 : Hid (Kept [] w w2) := k2
  have HVP : Hid (V.vp = .slice u0 m.ps.length v0 ∧ U.vp = .slice a0 m.ps.length b0) := ⟨e0, f0⟩
  unfold IV.agg
  rw [e0, e1, e2, e3, e4, f0, f1, f2, f3, f4] at hw2
  rw [e0, e1, e2, e3, e4, f0, f1, f2, f3, f4]
  rw [e0] at i0
  rw [e1] at i1 hs1
  rw [e2] at i2 hs2
  rw [e3] at i3 hs3
  rw [e4] at i4 hs4
  rw [f0] at j0
  rw [f1] at j1 hs1
  rw [f2] at j2 hs2
  rw [f3] at j3 hs3
  rw [f4] at j4 hs4
  have HW2 : Hid (w2 = (w.alloc (.cells #[.slice u0 m.ps.length v0, .slice u1 m.pair.length v1, .slice u2 m.log.length v2, .slice u3 m.m0.length v3, .slice u4 m.m1.length v4] 43)).alloc (.cells #[.slice a0 m.ps.length b0, .slice a1 m.pair.length b1, .slice a2 m.log.length b2, .slice a3 m.m0.length b3, .slice a4 m.m1.length b4] 43)) := hw2
  rw [hw2] at i0 i1 i2 i3 i4 j0 j1 j2 j3 j4
  clear bV bU hV hU e0 e1 e2 e3 e4 f0 f1 f2 f3 f4 hw2 k2
  go_enter Try.func21, Try.ntmps21
  go_wp2_with fail
  rw [← HW2.out]
  refine hs1.mono ?_
  rintro e w2 ⟨rfl, rfl⟩
  rw [← HW2.out] at i0 i1 i2 i3 i4 j0 j1 j2 j3 j4
  go_wp2_with fail
  refine hs2.mono ?_
  rintro e w2 ⟨rfl, rfl⟩
  go_wp2_with fail
  refine hs3.mono ?_
  rintro e w2 ⟨rfl, rfl⟩
  go_wp2_with fail
  refine hs4.mono ?_
  rintro e w2 ⟨rfl, rfl⟩
  clear hs1 hs2 hs3 hs4 i1 i2 i3 i4 j1 j2 j3 j4
  go_wp2_with fail
  go_loopw [5] (fun i wr => ∃ t : Nat, t ≤ m.ps.length ∧ i = .int .i64 t ∧ Kept [] w2 wr) (fun i _ => m.ps.length - (intOf i).toNat)
  case atStart => exact ⟨0, Nat.zero_le _, rfl, Kept.refl _ _⟩
  case round =>
    obtain ⟨t, ht, rfl, kr⟩ := hrel
    have x0 := kr.cell i0 (by simp)
    have y0 := kr.cell j0 (by simp)
    by_cases hlt : t < m.ps.length
    · obtain ⟨gb, go, gc, gv, gl, q1, q2, q3, q4⟩ := HV.out.pageAt hlt
      obtain ⟨hb, ho, hc, hv, hl, r1, r2, r3, r4⟩ := HU.out.pageAt hlt
      rw [HVP.out.1] at q1
      rw [HVP.out.2] at r1
      cases q1
      cases r1
      obtain rfl : gl = hl := Option.some.inj (q3.symm.trans r3)
      have kk := K2.out.then kr
      have p1 := kk.cell q2 (by simp)
      have p2 := kk.cell r2 (by simp)
      have hs := fun (w' : World) (k : Kept [] w w') => same_eq gv hv gl w' (q4.kept k) (r4.kept k)
      obtain ⟨z1, z2, rfl, -⟩ := id q4
      obtain ⟨z3, z4, rfl, -⟩ := id r4
      have hlt' : (t : Int) < (m.ps.length : Int) := by omega
      have wk : IntKind.i64.wrap ((t : Int) + 1) = (t : Int) + 1 := wrap_i64_of (by omega) (by have := HB.out; omega)
      clear q2 q3 q4 r2 r3 r4
      go_wp2
      go_region_held3 (fun w' => w'.cell? ⟨w.heap.size, 0, none⟩ = some (.slice (some ⟨gb, go, none⟩) m.ps.length v0) ∧ w'.cell? ⟨w.heap.size + 1, 0, none⟩ = some (.slice (some ⟨hb, ho, none⟩) m.ps.length b0) ∧ w'.cell? ⟨gb, go + t, none⟩ = some (.slice z1 gl.length z2) ∧ w'.cell? ⟨hb, ho + t, none⟩ = some (.slice z3 gl.length z4))
        (first | (exact ⟨x0, y0, p1, p2⟩) | go_keep)
        (first
          | (go_at_call 20; refine (hs _ (by exact kk.drew)).mono ?_; rintro e w5 ⟨rfl, rfl⟩)
          | fail)
      clear hs
      go_wp2
      go_roundw
      case rel => exact ⟨t + 1, by omega, by go_num, kr.drew⟩
      case measure => simp [intOf]; omega
    · have hlt' : ¬ (t : Int) < (m.ps.length : Int) := by omega
      go_wp2
      go_ret
      exact ⟨rfl, K2.out.then kr⟩
end Go.Proofs.Ytmipmiaflompmaa

/-
  OWN WORK. The laws of disk: a book of disks.
-/
namespace Go.Proofs.Ytmipmiaflompmaa
open Go.RowKit
set_option linter.unusedVariables false

/-- two disks of a book, what they tell, their blocks -/
structure Ent where
  v : Value
  u : Value
  d : DS
  F : Foot
/-- neither turns what the other has -/
def Far (A B : Foot) : Prop := (∀ x ∈ A.own, x ∉ B.all) ∧ ∀ x ∈ B.own, x ∉ A.all
theorem Far.symm {A B : Foot} (h : Far A B) : Far B A := ⟨h.2, h.1⟩
theorem Far.next {w w' : World} {A B B' : Foot} (h : Far A B) (hA : ∀ x ∈ A.all, x < w.heap.size) (hx : NextP w w' B B') : Far A B' :=
  ⟨fun x hx1 hx2 => by
    rcases hx.all x hx2 with c | c
    · exact h.1 x hx1 c
    · have := hA x (Foot.inOwn hx1); omega, fun x hx1 hx2 => by
    rcases hx.2.1 x hx1 with c | c
    · exact h.2 x c hx2
    · have := hA x hx2; omega⟩
/-- the book at block g; all of it lies from base on -/
structure Book (base : Nat) (w : World) (g : Nat) (vD vR : Value) (E : List Ent) : Prop where
  blk : Blk w g 56 [vD, vR]
  rowD : w.ownsRow base 27 1 vD E.length (E.map (·.v))
  rowR : w.ownsRow base 76 1 vR E.length (E.map (·.u))
  both : ∀ e ∈ E, Both w e.v e.u e.d e.F
  apart : E.Pairwise fun a b => Far a.F b.F
  own : ∀ e ∈ E, g ∉ e.F.all ∧ (∀ x, vD.ownBlock = some x → x ∉ e.F.all) ∧ (∀ x, vR.ownBlock = some x → x ∉ e.F.all)
  low : base ≤ g ∧ ∀ e ∈ E, ∀ x ∈ e.F.all, base ≤ x
theorem own_differ {w : World} {b1 b2 e1 e2 n1 n2 : Nat} {v1 v2 : Value} {xs ys : List Value} (h1 : w.ownsRow b1 e1 1 v1 n1 xs) (h2 : w.ownsRow b2 e2 1 v2 n2 ys) (he : e1 ≠ e2) {x : Nat} (hx : v1.ownBlock = some x) : v2.ownBlock ≠ some x := by
  intro hy
  rcases h1.2 with ⟨rfl, _⟩ | ⟨g1, cap1, cur1, rfl, -, a1, -⟩
  · cases hx
  · rcases h2.2 with ⟨rfl, _⟩ | ⟨g2, cap2, cur2, rfl, -, a2, -⟩
    · cases hy
    · simp [Value.ownBlock] at hx hy
      subst hx
      subst hy
      rw [a1] at a2
      simp at a2
      exact he a2.2
theorem own_at {w : World} {base e n : Nat} {v : Value} {xs : List Value} (h : w.ownsRow base e 1 v n xs) (hn : 0 < n) : ∃ g c, v = .slice (some ⟨g, 0, none⟩) n c ∧ n ≤ c ∧ c ≤ maxLen ∧ ∀ (j : Nat) u, xs[j]? = some u → w.cell? ⟨g, j, none⟩ = some u := by
  rcases h.2 with ⟨-, e0⟩ | ⟨g, cap, cur, rfl, -, h2, h3, h4, -, h5⟩
  · omega
  · refine ⟨g, cap, rfl, h3, h4, fun j u hj => ?_⟩
    rw [← h5, List.getElem?_take] at hj
    split at hj
    · simp [World.cell?, h2]
      simpa using hj
    · cases hj
/-- a pair of disks turns -/
theorem Book.step {base g i : Nat} {w w' : World} {vD vR : Value} {E : List Ent} {e : Ent} {d' : DS} {F' : Foot} (h : Book base w g vD vR E) (hi : E[i]? = some e) (hB : Both w' e.v e.u d' F') (hx : NextP w w' e.F F') : Book base w' g vD vR (E.set i ⟨e.v, e.u, d', F'⟩) := by
  have he : e ∈ E := List.mem_of_getElem? hi
  obtain ⟨hil, hie⟩ := List.getElem?_eq_some_iff.1 hi
  have hb0 : base ≤ w.heap.size := Nat.le_trans h.low.1 (Nat.le_of_lt h.blk.lt)
  obtain ⟨o1, o2, o3⟩ := h.own e he
  have emap : ∀ (f : Ent → Value), f ⟨e.v, e.u, d', F'⟩ = f e → (E.set i ⟨e.v, e.u, d', F'⟩).map f = E.map f := fun f hf => by
    apply List.ext_getElem?
    intro j
    rw [List.getElem?_map, List.getElem?_map, List.getElem?_set]
    by_cases c : i = j
    · subst c
      rw [if_pos rfl, if_pos hil, hi]
      simp [hf]
    · rw [if_neg c]
  -- the others are apart from e
  have hap : ∀ j (a : Ent), E[j]? = some a → j ≠ i → Far a.F e.F := fun j a hj hne => by
    obtain ⟨hjl, hje⟩ := List.getElem?_eq_some_iff.1 hj
    rcases Nat.lt_or_gt_of_ne hne with c | c
    · have := (List.pairwise_iff_getElem.1 h.apart) j i hjl hil c
      rw [hje, hie] at this
      exact this
    · have := (List.pairwise_iff_getElem.1 h.apart) i j hil hjl c
      rw [hje, hie] at this
      exact this.symm
  have hap2 : ∀ j (a : Ent), E[j]? = some a → j ≠ i → Far a.F F' := fun j a hj hne => (hap j a hj hne).next (h.both a (List.mem_of_getElem? hj)).lt hx
  have mem : ∀ a ∈ E.set i ⟨e.v, e.u, d', F'⟩, a = ⟨e.v, e.u, d', F'⟩ ∨ ∃ j, j ≠ i ∧ E[j]? = some a := fun a ha => by
    obtain ⟨j, hj⟩ := List.getElem?_of_mem ha
    rw [List.getElem?_set] at hj
    by_cases c : i = j
    · rw [if_pos c] at hj
      rw [if_pos hil] at hj
      left
      exact (Option.some.inj hj).symm
    · rw [if_neg c] at hj
      exact .inr ⟨j, fun e => c e.symm, hj⟩
  refine ⟨h.blk.kept hx.1 (fun hm => o1 (Foot.inOwn hm)), ?_, ?_, fun a ha => ?_, ?_, fun a ha => ?_, h.low.1, fun a ha x hxa => ?_⟩
  · rw [List.length_set, emap _ rfl]
    exact own_of_kept h.rowD hx.1 (fun x h1 h2 => o2 x h1 (Foot.inOwn h2))
  · rw [List.length_set, emap _ rfl]
    exact own_of_kept h.rowR hx.1 (fun x h1 h2 => o3 x h1 (Foot.inOwn h2))
  · rcases mem a ha with rfl | ⟨j, hj, hja⟩
    · exact hB
    · exact (h.both a (List.mem_of_getElem? hja)).kept hx.1 (fun x hx1 hx2 => (hap j a hja hj).2 x hx1 hx2)
  · rw [List.pairwise_iff_getElem]
    intro j k hj hk hjk
    simp only [List.length_set] at hj hk
    rw [List.getElem_set, List.getElem_set]
    by_cases c1 : i = j
    · rw [if_pos c1, if_neg (by omega)]
      exact (hap2 k _ (List.getElem?_eq_getElem hk) (by omega)).symm
    · rw [if_neg c1]
      by_cases c2 : i = k
      · rw [if_pos c2]
        exact hap2 j _ (List.getElem?_eq_getElem hj) (fun e => c1 e.symm)
      · rw [if_neg c2]
        exact (List.pairwise_iff_getElem.1 h.apart) j k hj hk hjk
  · rcases mem a ha with rfl | ⟨j, hj, hja⟩
    · refine ⟨fun hm => ?_, fun x hx1 hm => ?_, fun x hx1 hm => ?_⟩
      · rcases hx.all g hm with c | c
        · exact o1 c
        · have := h.blk.lt; omega
      · rcases hx.all x hm with c | c
        · exact o2 x hx1 c
        · have := own_lt h.rowD x hx1; omega
      · rcases hx.all x hm with c | c
        · exact o3 x hx1 c
        · have := own_lt h.rowR x hx1; omega
    · exact h.own a (List.mem_of_getElem? hja)
  · rcases mem a ha with rfl | ⟨j, hj, hja⟩
    · rcases hx.all x hxa with c | c
      · exact h.low.2 e he x c
      · omega
    · exact h.low.2 a (List.mem_of_getElem? hja) x hxa
/-- nothing of it is touched -/
theorem Book.kept {base g : Nat} {w w' : World} {vD vR : Value} {E : List Ent} {S : List Nat} (h : Book base w g vD vR E) (k : Kept S w w') (hS : ∀ x ∈ S, x < base) : Book base w' g vD vR E := by
  have n1 := h.low
  refine ⟨h.blk.kept k (fun hm => by have := hS g hm; omega), own_of_kept h.rowD k (fun x hx hm => by have := own_ge h.rowD x hx; have := hS x hm; omega), own_of_kept h.rowR k (fun x hx hm => by have := own_ge h.rowR x hx; have := hS x hm; omega), fun e he => (h.both e he).kept k (fun x hx hm => by have := n1.2 e he x hm; have := hS x hx; omega), h.apart, h.own, h.low⟩
/-- where the pointers lie -/
theorem Book.at {base g i : Nat} {w : World} {vD vR : Value} {E : List Ent} {e : Ent} (h : Book base w g vD vR E) (hi : E[i]? = some e) :
    ∃ bD cD bR cR, vD = .slice (some ⟨bD, 0, none⟩) E.length cD ∧ vR = .slice (some ⟨bR, 0, none⟩) E.length cR ∧ w.cell? ⟨bD, i, none⟩ = some e.v ∧ w.cell? ⟨bR, i, none⟩ = some e.u ∧ w.cell? ⟨g, 0, none⟩ = some vD ∧ w.cell? ⟨g, 1, none⟩ = some vR := by
  obtain ⟨hil, hie⟩ := List.getElem?_eq_some_iff.1 hi
  obtain ⟨bD, cD, rfl, -, -, hD⟩ := own_at h.rowD (by omega)
  obtain ⟨bR, cR, rfl, -, -, hR⟩ := own_at h.rowR (by omega)
  refine ⟨bD, cD, bR, cR, rfl, rfl, ?_, ?_, h.blk.cell (j := 0) rfl, h.blk.cell (j := 1) rfl⟩
  · exact hD i _ (by rw [List.getElem?_map, hi]; rfl)
  · exact hR i _ (by rw [List.getElem?_map, hi]; rfl)
end Go.Proofs.Ytmipmiaflompmaa

/-
  OWN WORK. The laws of disk: stands.
-/
namespace Go.Proofs.Ytmipmiaflompmaa
open Go.RowKit
set_option linter.unusedVariables false

theorem QD.fields {w : World} {v : Value} {d : DS} {F : List Nat} (h : QD w v d F) : ∃ g, v = .pointer (some ⟨g, 0, none⟩) ∧ w.cell? ⟨g, 0, none⟩ = some (.int .i64 (d.np : Int)) ∧ w.cell? ⟨g, 1, none⟩ = some (.int .i64 (d.ns : Int)) ∧ w.cell? ⟨g, 2, none⟩ = some (.int .i64 (d.lm : Int)) ∧ (∃ p c, w.cell? ⟨g, 9, none⟩ = some (.slice p d.log.length c)) ∧ w.cell? ⟨g, 11, none⟩ = some (.int .i64 d.acts) ∧ w.cell? ⟨g, 13, none⟩ = some (.bool d.dead) := by
  obtain ⟨g, R, e, h, -⟩ := h
  obtain ⟨p, c, el, -⟩ := h.shapes
  have c9 := h.blk.cell (j := 9) rfl
  rw [el] at c9
  exact ⟨g, e, h.blk.cell (j := 0) rfl, h.blk.cell (j := 1) rfl, h.blk.cell (j := 2) rfl, ⟨p, c, c9⟩, h.blk.cell (j := 11) rfl, h.blk.cell (j := 13) rfl⟩
theorem OwnIm.see {w : World} {b : Nat} {V : IV} {m : IM} (h : OwnIm w b V m) : SeeIm w V m := by
  have hl := h.len
  have at' : ∀ (i : Nat) v l, V.rows[i]? = some v → m.all[i]? = some l → Bs w v l := fun i v l hv hl => Bs.ofOwn (h.fam.own i v l hv hl)
  refine ⟨?_, hl, fun i v l hv hll => ?_, at' 1 _ _ rfl rfl, at' 0 _ _ rfl rfl, ?_, ?_⟩
  · rcases h.row.2 with ⟨e, e0⟩ | ⟨g, cap, cur, e, -, h2, h3, h4, -, h5⟩
    · exact ⟨none, 0, by rw [e, e0], by omega, by unfold maxLen; omega, fun a ha => (by cases ha), fun _ => e0⟩
    · refine ⟨some ⟨g, 0, none⟩, cap, e, h3, h4, fun a ha i v hv => ?_, fun hn => (by cases hn)⟩
      cases ha
      rw [add_none rfl]
      have hi := (List.getElem?_eq_some_iff.1 hv).1
      have hc : cur[i]? = some v := by
        have : (cur.toList.take (V.pv.length * 1))[i]? = some v := by rw [h5]; exact hv
        rw [List.getElem?_take, if_pos (by omega)] at this
        simpa using this
      simp [World.cell?, h2, hc]
  · have hi := (List.getElem?_eq_some_iff.1 hv).1
    refine at' (i + 2) v l ?_ ?_
    · show (V.pv ++ [V.m0, V.m1])[i]? = some v
      rw [List.getElem?_append_left hi]; exact hv
    · show (m.ps ++ [m.m0, m.m1])[i]? = some l
      rw [List.getElem?_append_left (by omega)]; exact hll
  · refine at' (V.pv.length + 2) _ _ ?_ ?_
    · show (V.pv ++ [V.m0, V.m1])[V.pv.length]? = some V.m0
      simp
    · show (m.ps ++ [m.m0, m.m1])[V.pv.length]? = some m.m0
      rw [hl]; simp
  · refine at' (V.pv.length + 3) _ _ ?_ ?_
    · show (V.pv ++ [V.m0, V.m1])[V.pv.length + 1]? = some V.m1
      simp
    · show (m.ps ++ [m.m0, m.m1])[V.pv.length + 1]? = some m.m1
      rw [hl]; simp
set_option maxHeartbeats 6400000 in
theorem stands_any (base g k : Nat) (vD vR : Value) (E : List Ent) (e : Ent) (w : World) (h : Book base w g vD vR E) (hi : E[k]? = some e) :
    Calls Try.prog 40 #[.pointer (some ⟨g, 0, none⟩), .int .i64 (k : Int)] w fun r w' => r = .returned (.bool true) ∧ Kept [] w w' := by
  obtain ⟨bD, cD, bR, cR, rfl, rfl, d0, r0, g0, g1⟩ := h.at hi
  obtain ⟨v, u, d, F⟩ := e
  obtain ⟨A, B, hp, hq, -, -⟩ := h.both _ (List.mem_of_getElem? hi)
  simp only at hp hq d0 r0
  obtain ⟨gv, rfl⟩ := hp.ptr
  obtain ⟨gu, e1, f0, f1, f2, ⟨p9, q9, f9⟩, f11, f13⟩ := hq.fields
  subst e1
  have hkl : k < E.length := (List.getElem?_eq_some_iff.1 hi).1
  have hkl' : (k : Int) < (E.length : Int) := by omega
  have hk0 : (0 : Int) ≤ (k : Int) := by omega
  have HP : Hid (PF w (.pointer (some ⟨gv, 0, none⟩)) d A) := hp
  have HQ : Hid (QD w (.pointer (some ⟨gu, 0, none⟩)) d B) := hq
  clear hp hq hi h
  go_enter Try.func40, Try.ntmps40
  go_wp2
  go_region_held3 (fun w' => w'.cell? ⟨g, 0, none⟩ = some (.slice (some ⟨bD, 0, none⟩) E.length cD) ∧ w'.cell? ⟨g, 1, none⟩ = some (.slice (some ⟨bR, 0, none⟩) E.length cR) ∧ w'.cell? ⟨bD, k, none⟩ = some (.pointer (some ⟨gv, 0, none⟩)) ∧ w'.cell? ⟨bR, k, none⟩ = some (.pointer (some ⟨gu, 0, none⟩)))
    (first | (exact ⟨g0, g1, d0, r0⟩) | go_keep) (fail)
  clear g0 g1 d0 r0
  go_wp2_with fail
  refine (fImage _ d A _ (HP.out.kept (Kept.refl [] w).drew (by simp))).mono ?_
  rintro e w1 ⟨V1, rfl, hV1, k1⟩
  go_wp2_with fail
  refine (fLasts _ d A _ ((HP.out.kept (Kept.refl [] w).drew (by simp)).kept k1 (by simp))).mono ?_
  rintro e w2 ⟨V2, rfl, hV2, k2⟩
  obtain ⟨vp1, pv1, pair1, log1, m01, m11⟩ := V1
  obtain ⟨u0, v0, u1, v1, u2, v2, u3, v3, u4, v4, x0, x1, x2, x3, x4⟩ := hV1.shapes
  simp only at x0 x1 x2 x3 x4
  subst x0 x1 x2 x3 x4
  obtain ⟨vp2, pv2, pair2, log2, m02, m12⟩ := V2
  obtain ⟨a0, b0, a1, b1, a2, b2, a3, b3, a4, b4, y0, y1, y2, y3, y4⟩ := hV2.shapes
  simp only at y0 y1 y2 y3 y4
  subst y0 y1 y2 y3 y4
  unfold IV.agg
  dsimp only
  go_wp2_with fail
  obtain ⟨w4, hw4⟩ : ∃ w4, w4 = (w2.alloc (.cells #[.slice u0 pv1.length v0, .slice u1 d.image.pair.length v1, .slice u2 d.image.log.length v2, .slice u3 d.image.m0.length v3, .slice u4 d.image.m1.length v4] 43)).alloc (.cells #[.slice a0 pv2.length b0, .slice a1 d.lasts.pair.length b1, .slice a2 d.lasts.log.length b2, .slice a3 d.lasts.m0.length b3, .slice a4 d.lasts.m1.length b4] 43) := ⟨_, rfl⟩
  have k4 : Kept [] w2 w4 := by rw [hw4]; exact ((Kept.refl [] w2).alloc _).alloc _
  have kw : Kept [] w w4 := (((Kept.refl [] w).drew.then k1).then k2).then k4
  have bV : Blk w4 w2.heap.size 43 [.slice u0 pv1.length v0, .slice u1 d.image.pair.length v1, .slice u2 d.image.log.length v2, .slice u3 d.image.m0.length v3, .slice u4 d.image.m1.length v4] := by
    rw [hw4]
    exact (Blk.new w2 _ _).kept ((Kept.refl [] _).alloc _) (by simp)
  have bU : Blk w4 (w2.heap.size + 1) 43 [.slice a0 pv2.length b0, .slice a1 d.lasts.pair.length b1, .slice a2 d.lasts.log.length b2, .slice a3 d.lasts.m0.length b3, .slice a4 d.lasts.m1.length b4] := by
    rw [hw4]
    have := Blk.new (w2.alloc (.cells #[.slice u0 pv1.length v0, .slice u1 d.image.pair.length v1, .slice u2 d.image.log.length v2, .slice u3 d.image.m0.length v3, .slice u4 d.image.m1.length v4] 43)) 43 [.slice a0 pv2.length b0, .slice a1 d.lasts.pair.length b1, .slice a2 d.lasts.log.length b2, .slice a3 d.lasts.m0.length b3, .slice a4 d.lasts.m1.length b4]
    rwa [World.size_alloc] at this
  obtain ⟨⟨i0, i1, i2, i3, i4⟩, -⟩ := bV.five
  obtain ⟨⟨j0, j1, j2, j3, j4⟩, -⟩ := bU.five
  have x0 := kw.cell f0 (by simp)
  have x1 := kw.cell f1 (by simp)
  have x2 := kw.cell f2 (by simp)
  have x9 := kw.cell f9 (by simp)
  have x11 := kw.cell f11 (by simp)
  have x13 := kw.cell f13 (by simp)
  have P4 : Hid (PF w4 (.pointer (some ⟨gv, 0, none⟩)) d A) := HP.out.kept kw (by simp)
  have Q4 : Hid (QD w4 (.pointer (some ⟨gu, 0, none⟩)) d B) := HQ.out.kept kw (by simp)
  have S1 : Hid (SeeIm w4 ⟨.slice u0 pv1.length v0, pv1, .slice u1 d.image.pair.length v1, .slice u2 d.image.log.length v2, .slice u3 d.image.m0.length v3, .slice u4 d.image.m1.length v4⟩ d.image) := (hV1.see.kept k2).kept k4
  have S2 : Hid (SeeIm w4 ⟨.slice a0 pv2.length b0, pv2, .slice a1 d.lasts.pair.length b1, .slice a2 d.lasts.log.length b2, .slice a3 d.lasts.m0.length b3, .slice a4 d.lasts.m1.length b4⟩ d.lasts) := hV2.see.kept k4
  have KW : Hid (Kept [] w w4) := kw
  have kk : Kept [] w4 w4.drew := (Kept.refl [] w4).drew
  rw [← hw4]
  clear hV1 hV2 k1 k2 k4 bV bU f0 f1 f2 f9 f11 f13 HP HQ hw4 kw hkl hkl' hk0
  generalize w2.heap.size = z2 at *
  have tok : True := trivial
  go_region_held3 (fun w' => w'.cell? ⟨gu, 0, none⟩ = some (.int .i64 (d.np : Int)) ∧ w'.cell? ⟨gu, 1, none⟩ = some (.int .i64 (d.ns : Int)) ∧ w'.cell? ⟨gu, 2, none⟩ = some (.int .i64 (d.lm : Int)) ∧ w'.cell? ⟨gu, 9, none⟩ = some (.slice p9 d.log.length q9) ∧ w'.cell? ⟨gu, 11, none⟩ = some (.int .i64 d.acts) ∧ w'.cell? ⟨gu, 13, none⟩ = some (.bool d.dead) ∧ w'.cell? ⟨z2, 0, none⟩ = some (.slice u0 pv1.length v0) ∧ w'.cell? ⟨z2, 1, none⟩ = some (.slice u1 d.image.pair.length v1) ∧ w'.cell? ⟨z2, 2, none⟩ = some (.slice u2 d.image.log.length v2) ∧ w'.cell? ⟨z2, 3, none⟩ = some (.slice u3 d.image.m0.length v3) ∧ w'.cell? ⟨z2, 4, none⟩ = some (.slice u4 d.image.m1.length v4) ∧ w'.cell? ⟨z2 + 1, 0, none⟩ = some (.slice a0 pv2.length b0) ∧ w'.cell? ⟨z2 + 1, 1, none⟩ = some (.slice a1 d.lasts.pair.length b1) ∧ w'.cell? ⟨z2 + 1, 2, none⟩ = some (.slice a2 d.lasts.log.length b2) ∧ w'.cell? ⟨z2 + 1, 3, none⟩ = some (.slice a3 d.lasts.m0.length b3) ∧ w'.cell? ⟨z2 + 1, 4, none⟩ = some (.slice a4 d.lasts.m1.length b4))
    (first
      | (with_reducible exact ⟨kk.cell x0 (by simp), kk.cell x1 (by simp), kk.cell x2 (by simp), kk.cell x9 (by simp), kk.cell x11 (by simp), kk.cell x13 (by simp), kk.cell i0 (by simp), kk.cell i1 (by simp), kk.cell i2 (by simp), kk.cell i3 (by simp), kk.cell i4 (by simp), kk.cell j0 (by simp), kk.cell j1 (by simp), kk.cell j2 (by simp), kk.cell j3 (by simp), kk.cell j4 (by simp)⟩)
      | fail)
    (first
      | (go_at_call 26; refine (fActs _ d A _ (P4.out.kept kk (by simp))).mono ?_; rintro e w5 ⟨rfl, kn⟩; replace kk := kk.then kn; clear kn)
      | (go_at_call 25; refine (fDead _ d A _ (P4.out.kept kk (by simp))).mono ?_; rintro e w6 ⟨rfl, kn⟩; replace kk := kk.then kn; clear kn)
      | (go_at_call 43; refine (fLogLen _ d A _ (P4.out.kept kk (by simp))).mono ?_; rintro e w7 ⟨rfl, kn⟩; replace kk := kk.then kn; clear kn)
      | (go_at_call 47; refine (fShape _ d A _ (P4.out.kept kk (by simp))).mono ?_; rintro e w8 ⟨rfl, kn⟩; replace kk := kk.then kn; clear kn)
      | (go_at_call 34; refine (qImage _ d B _ (Q4.out.kept kk (by simp))).mono ?_; rintro e w9 ⟨V3, rfl, hV3, kn⟩; replace kk := kk.then kn; clear kn)
      | (go_at_call 35; refine (qLasts _ d B _ (Q4.out.kept kk (by simp))).mono ?_; rintro e w10 ⟨V4, rfl, hV4, kn⟩; replace kk := kk.then kn; clear kn)
      | (go_at_call 21; clear tok; refine (sameImages_eq ⟨.slice u0 pv1.length v0, pv1, .slice u1 d.image.pair.length v1, .slice u2 d.image.log.length v2, .slice u3 d.image.m0.length v3, .slice u4 d.image.m1.length v4⟩ V3 d.image _ (by exact S1.out.kept kk) (by exact hV3.see)).mono ?_; rintro e w11 ⟨rfl, kn⟩; replace kk := kk.then kn; clear kn)
      | (go_at_call 21; refine (sameImages_eq ⟨.slice a0 pv2.length b0, pv2, .slice a1 d.lasts.pair.length b1, .slice a2 d.lasts.log.length b2, .slice a3 d.lasts.m0.length b3, .slice a4 d.lasts.m1.length b4⟩ V4 d.lasts _ (by exact S2.out.kept kk) (by exact hV4.see)).mono ?_; rintro e w12 ⟨rfl, kn⟩; replace kk := kk.then kn; clear kn)
      | fail)
  have kf := KW.out.then kk
  clear S1 S2 P4 Q4 kk
  go_wp2
  go_ret
  exact ⟨by simp, kf⟩
end Go.Proofs.Ytmipmiaflompmaa

/-
  OWN WORK. The laws of disk: written, lies.
-/
namespace Go.Proofs.Ytmipmiaflompmaa
open Go.RowKit
set_option linter.unusedVariables false

/-- the place that 'written' and 'lies' speak of: 0 the last page, 1 the pair, 2 and 3 the masters -/
def placeK (np p : Nat) : Nat := if p = 0 then np else if p = 1 then 0 else np + 1 + (p - 2)
theorem placeK_lt {np p : Nat} (hn : 1 ≤ np) (hp : p < 4) : placeK np p < np + 3 := by
  unfold placeK
  split
  · omega
  · split <;> omega
set_option maxRecDepth 20000 in
set_option maxHeartbeats 1600000 in
theorem written_any (v ub : Value) (d : DS) (F : Foot) (p : Nat) (b : List UInt8) (w : World) (hp : p < 4) (h : PF w v d F) (hb : Bs w ub b) (hne : b ≠ [] → ∀ x, ub.ownBlock = some x → x ∉ F.own) (hcap : (d.loose.length + 1) * 40 ≤ 140737488355328) :
    Calls Try.prog 12 #[v, .int .i64 (p : Int), ub] w fun e w' => ∃ F', e = .returned (.int .i64 (writeE d (some (placeK d.np p)) b)) ∧ PF w' v (d.write (some (placeK d.np p)) b) F' ∧ NextP w w' F F' := by
  obtain ⟨gv, rfl⟩ := h.ptr
  obtain ⟨pb, cb, rfl, -⟩ := id hb
  have hnp := h.ok.np
  rcases (by omega : p = 0 ∨ p = 1 ∨ p = 2 ∨ p = 3) with rfl | rfl | rfl | rfl
  · have hfd : ∀ w : World, (Instr.field 23 (.agg #[.int .i64 (d.np : Int), .int .i64 (d.ns : Int), .int .i64 (d.lm : Int)]) 0).run Try.prog w = .ok (.int .i64 (d.np : Int)) w := fun _ => by kernel_rfl
    have hS := fShape _ d F w h
    obtain ⟨q, hq⟩ : ∃ q, q = d.np - 1 := ⟨_, rfl⟩
    have ex : pageIx d.np (q : Int) = some (placeK d.np 0) := by
      unfold pageIx placeK
      rw [if_pos (by omega), if_pos rfl]
      congr 1
      omega
    have ew : IntKind.i64.wrap ((d.np : Int) - 1) = (q : Int) := by rw [show (d.np : Int) - 1 = (q : Int) by omega]; exact wrap_i64_of (by omega) (by omega)
    have hW := fun (w1 : World) (k : Kept [] w w1) => fWritePage _ d F (q : Int) (.slice pb b.length cb) b w1 (h.kept k (by simp)) (hb.kept k) hne hcap
    rw [ex] at hW
    clear h hb hne hcap hnp ex hq
    go_enter Try.func12, Try.ntmps12
    go_wp2_with fail
    refine hS.mono ?_
    rintro r w1 ⟨rfl, k1⟩
    go_wp2_with fail
    refine (hW w1 k1).mono ?_
    rintro r w2 ⟨F', rfl, p2, x2⟩
    have fin : NextP w w2 F F' := x2.after k1
    clear hW hS
    go_wp2
    go_ret
    exact ⟨_, rfl, p2, fin⟩
  · have hW := fWritePair _ d F (.slice pb b.length cb) b w h hb hne hcap
    clear h hb hne hcap hnp
    go_enter Try.func12, Try.ntmps12
    go_wp2_with fail
    refine hW.mono ?_
    rintro r w2 ⟨F', rfl, p2, x2⟩
    clear hW
    go_wp2
    go_ret
    exact ⟨_, rfl, p2, x2⟩
  · have hW := fWriteMaster _ d F 0 (.slice pb b.length cb) b w h hb hne hcap
    rw [show masterIx d.np 0 = some (placeK d.np 2) from rfl] at hW
    clear h hb hne hcap hnp
    go_enter Try.func12, Try.ntmps12
    go_wp2_with fail
    refine hW.mono ?_
    rintro r w2 ⟨F', rfl, p2, x2⟩
    clear hW
    go_wp2
    go_ret
    exact ⟨_, rfl, p2, x2⟩
  · have hW := fWriteMaster _ d F 1 (.slice pb b.length cb) b w h hb hne hcap
    rw [show masterIx d.np 1 = some (placeK d.np 3) from rfl] at hW
    clear h hb hne hcap hnp
    go_enter Try.func12, Try.ntmps12
    go_wp2_with fail
    refine hW.mono ?_
    rintro r w2 ⟨F', rfl, p2, x2⟩
    clear hW
    go_wp2
    go_ret
    exact ⟨_, rfl, p2, x2⟩
end Go.Proofs.Ytmipmiaflompmaa

/-
  OWN WORK. The laws of disk: lies.
-/
namespace Go.Proofs.Ytmipmiaflompmaa
open Go.RowKit
set_option linter.unusedVariables false

/-- what lies at a place of an image, as a value -/
def placeV (V : IV) (p : Nat) (v : Value) : Prop := if p = 0 then V.pv[V.pv.length - 1]? = some v else v = if p = 1 then V.pair else if p = 2 then V.m0 else V.m1
theorem SeeIm.pageAt' {w : World} {V : IV} {m : IM} (h : SeeIm w V m) {i : Nat} (hi : i < m.ps.length) : ∃ b o c v l, V.vp = .slice (some ⟨b, o, none⟩) m.ps.length c ∧ w.cell? ⟨b, o + i, none⟩ = some v ∧ m.ps[i]? = some l ∧ Bs w v l ∧ V.pv[i]? = some v := by
  obtain ⟨b, o, c, v, l, h1, h2, h3, h4⟩ := h.pageAt hi
  obtain ⟨v', hv⟩ : ∃ v, V.pv[i]? = some v := ⟨_, List.getElem?_eq_getElem (by have := h.len; omega)⟩
  obtain ⟨p, c', e, -, -, h5, -⟩ := h.vp
  rw [h1, h.len] at e
  cases e
  have := h5 _ rfl i v' hv
  rw [add_none rfl] at this
  have e2 : v' = v := Option.some.inj (this.symm.trans h2)
  exact ⟨b, o, c, v, l, h1, h2, h3, h4, e2 ▸ hv⟩
set_option maxRecDepth 20000 in
set_option maxHeartbeats 1600000 in
theorem lies_any (V : IV) (m : IM) (p : Nat) (w : World) (hp : p < 4) (hV : SeeIm w V m) (hn : 1 ≤ m.ps.length) :
    Calls Try.prog 18 #[V.agg, .int .i64 (p : Int)] w fun e w' => ∃ v, e = .returned v ∧ placeV V p v ∧ Kept [] w w' := by
  have HV : Hid (SeeIm w V m) := hV
  obtain ⟨u0, v0, e0, l0, m0', -⟩ := hV.vp
  obtain ⟨u1, v1, e1, -⟩ := hV.pair
  obtain ⟨u2, v2, e2, -⟩ := hV.log
  obtain ⟨u3, v3, e3, -⟩ := hV.m0
  obtain ⟨u4, v4, e4, -⟩ := hV.m1
  rw [hV.len] at e0 l0
  have hbig : m.ps.length ≤ 9223372036854775807 := by unfold maxLen at m0'; omega
  obtain ⟨w2, hw2⟩ : ∃ w2, w2 = w.alloc (.cells #[V.vp, V.pair, V.log, V.m0, V.m1] 43) := ⟨_, rfl⟩
  have k2 : Kept [] w w2 := by rw [hw2]; exact (Kept.refl [] w).alloc _
  have bV : Blk w2 w.heap.size 43 [V.vp, V.pair, V.log, V.m0, V.m1] := by
    rw [hw2]
    exact Blk.new w _ _
  obtain ⟨⟨i0, i1, i2, i3, i4⟩, -⟩ := bV.five
  obtain ⟨q, hq⟩ : ∃ q, q = m.ps.length - 1 := ⟨_, rfl⟩
  have hql : q < m.ps.length := by omega
  have wq : IntKind.i64.wrap ((m.ps.length : Int) - 1) = (q : Int) := by rw [show (m.ps.length : Int) - 1 = (q : Int) by omega]; exact wrap_i64_of (by omega) (by omega)
  have hq' : (q : Int) < (m.ps.length : Int) := by omega
  obtain ⟨gb, go, gc, gv, gl, q1, q2, q3, q4, q5⟩ := hV.pageAt' hql
  obtain ⟨z1, z2, rfl, -⟩ := id q4
  have q2' := k2.cell q2 (by simp)
  have hlast : placeV V 0 (.slice z1 gl.length z2) := by
    unfold placeV
    rw [if_pos rfl, show V.pv.length - 1 = q by have := hV.len; omega]
    exact q5
  have h1 : placeV V 1 V.pair := by unfold placeV; simp
  have h2 : placeV V 2 V.m0 := by unfold placeV; simp
  have h3 : placeV V 3 V.m1 := by unfold placeV; simp
  rw [e1] at h1
  rw [e3] at h2
  rw [e4] at h3
  unfold IV.agg
  rw [q1, e1, e2, e3, e4] at hw2
  rw [q1, e1, e2, e3, e4]
  rw [q1] at i0
  rw [e1] at i1
  rw [e3] at i3
  rw [e4] at i4
  have H1 : Hid (placeV V 0 (.slice z1 gl.length z2)) := hlast
  have H2 : Hid (placeV V 1 (.slice u1 m.pair.length v1)) := h1
  have H3 : Hid (placeV V 2 (.slice u3 m.m0.length v3)) := h2
  have H4 : Hid (placeV V 3 (.slice u4 m.m1.length v4)) := h3
  have K2 : Hid (Kept [] w w2) := k2
  rw [hw2] at i0 i1 i3 i4 q2' K2
  clear hlast h1 h2 h3 k2 hw2 bV hV e0 e1 e2 e3 e4 q1 q2 q3 q4 q5 hq hql hbig m0' l0 i2 hn
  rcases (by omega : p = 0 ∨ p = 1 ∨ p = 2 ∨ p = 3) with rfl | rfl | rfl | rfl
  · go_enter Try.func18, Try.ntmps18
    go_wp2
    go_ret
    exact ⟨_, rfl, H1.out, K2.out⟩
  · go_enter Try.func18, Try.ntmps18
    go_wp2
    go_ret
    exact ⟨_, rfl, H2.out, K2.out⟩
  · go_enter Try.func18, Try.ntmps18
    go_wp2
    go_ret
    exact ⟨_, rfl, H3.out, K2.out⟩
  · go_enter Try.func18, Try.ntmps18
    go_wp2
    go_ret
    exact ⟨_, rfl, H4.out, K2.out⟩
end Go.Proofs.Ytmipmiaflompmaa

/-
  OWN WORK. Plain disks: what a crash that keeps all, one that keeps nothing, and three syncs leave.
-/
namespace Go.Proofs.Ytmipmiaflompmaa
set_option linter.unusedVariables false

theorem crash_ones (xs : List (Nat × List UInt8)) : ∀ (i : Nat) (rows : List (List UInt8)), crashRows [1] xs i rows = laid rows xs := by
  induction xs with
  | nil => intro i rows; rfl
  | cons x xs ih =>
    intro i rows
    show crashRows [1] xs (i + 1) (crashLay rows x (keepAt [1] i)) = laid (layR rows x.1 x.2 x.2.length) xs
    have h1 : keepAt [1] i = 1 := by
      unfold keepAt
      rw [show i % ([1] : List Int).length = 0 by simp; omega]
      rfl
    rw [ih, h1]
    rfl
theorem crash_zero (xs : List (Nat × List UInt8)) : ∀ (i : Nat) (rows : List (List UInt8)), crashRows [] xs i rows = rows := by
  induction xs with
  | nil => intro i rows; rfl
  | cons x xs ih =>
    intro i rows
    show crashRows [] xs (i + 1) (crashLay rows x (keepAt [] i)) = rows
    have h1 : keepAt [] i = 0 := by simp [keepAt, List.getD]
    rw [ih, h1]
    rfl
theorem restN_neg (m : Nat) : restN (-1) (m + 1) = m := by
  unfold restN
  have : (-1 : Int) % ((m + 1 : Nat) : Int) = (m : Int) := by
    rw [Int.neg_emod]
    split
    · rename_i h
      have := Int.le_of_dvd (by omega) h
      have : m = 0 := by omega
      subst this
      rfl
    · rcases Nat.eq_zero_or_pos m with e | e
      · subst e; simp at *
      · rw [Int.emod_eq_of_lt (by omega) (by omega)]
        simp; omega
  rw [this]
  rfl
theorem restN_zero (m : Nat) : restN 0 m = 0 := by simp [restN]
theorem DS.Ok.allLog {d : DS} (h : d.Ok) : crashLog d (-1) = d.log.length := by
  unfold crashLog
  rw [restN_neg]
  have := h.lasted
  omega
theorem crash_all_image {d : DS} (h : d.Ok) : (d.crash (-1) [1]).image = d.image ∧ (d.crash (-1) [1]).lasts = d.image := by
  have hl := h.allLog
  have e1 : (d.crash (-1) [1]).rows = d.seen := crash_ones _ _ _
  have e2 : (d.crash (-1) [1]).log = d.log := by
    show d.log.take (crashLog d (-1)) = d.log
    rw [hl, List.take_length]
  have e3 : (d.crash (-1) [1]).lasted = d.log.length := hl
  refine ⟨?_, ?_⟩
  · show imOf d.np (laid (d.crash (-1) [1]).rows []) (d.crash (-1) [1]).log = imOf d.np d.seen d.log
    rw [e1, e2]
    rfl
  · show imOf d.np (d.crash (-1) [1]).rows ((d.crash (-1) [1]).log.take (d.crash (-1) [1]).lasted) = imOf d.np d.seen d.log
    rw [e1, e2, e3, List.take_length]
theorem crash_none_image {d : DS} (h : d.Ok) : (d.crash 0 []).image = d.lasts ∧ (d.crash 0 []).lasts = d.lasts := by
  have hl : crashLog d 0 = d.lasted := by unfold crashLog; rw [restN_zero]; omega
  have e1 : (d.crash 0 []).rows = d.rows := crash_zero _ _ _
  have e2 : (d.crash 0 []).log = d.log.take d.lasted := by
    show d.log.take (crashLog d 0) = _
    rw [hl]
  have e3 : (d.crash 0 []).lasted = d.lasted := hl
  refine ⟨?_, ?_⟩
  · show imOf d.np (laid (d.crash 0 []).rows []) (d.crash 0 []).log = imOf d.np d.rows (d.log.take d.lasted)
    rw [e1, e2]
    rfl
  · show imOf d.np (d.crash 0 []).rows ((d.crash 0 []).log.take (d.crash 0 []).lasted) = imOf d.np d.rows (d.log.take d.lasted)
    rw [e1, e2, e3, List.take_take, Nat.min_self]
theorem layR_comm2 (rows : List (List UInt8)) {k k' : Nat} (b b' : List UInt8) (n n' : Nat) (h : k ≠ k') : layR (layR rows k b n) k' b' n' = layR (layR rows k' b' n') k b n := by
  unfold layR
  have g1 : (rows.set k (over (rows.getD k []) 0 (b.take n))).getD k' [] = rows.getD k' [] := by simp [List.getD, List.getElem?_set_ne h]
  have g2 : (rows.set k' (over (rows.getD k' []) 0 (b'.take n'))).getD k [] = rows.getD k [] := by simp [List.getD, List.getElem?_set_ne (Ne.symm h)]
  rw [g1, g2]
  exact List.set_comm _ _ h
theorem laid_layR (ys : List (Nat × List UInt8)) (k : Nat) (b : List UInt8) (n : Nat) : ∀ rows : List (List UInt8), (∀ y ∈ ys, y.1 ≠ k) → laid (layR rows k b n) ys = layR (laid rows ys) k b n := by
  induction ys with
  | nil => intro rows _; rfl
  | cons y ys ih =>
    intro rows h
    show laid (layR (layR rows k b n) y.1 y.2 y.2.length) ys = layR (laid (layR rows y.1 y.2 y.2.length) ys) k b n
    rw [layR_comm2 rows b y.2 n y.2.length (Ne.symm (h y (by simp))), ih _ (fun z hz => h z (by simp [hz]))]
theorem laid_split (f : Nat → Bool) (xs : List (Nat × List UInt8)) : ∀ rows : List (List UInt8), laid rows xs = laid (laid rows (xs.filter fun x => f x.1)) (xs.filter fun x => !f x.1) := by
  induction xs with
  | nil => intro rows; rfl
  | cons x xs ih =>
    intro rows
    show laid (layR rows x.1 x.2 x.2.length) xs = _
    rw [ih]
    cases hx : f x.1 with
    | true =>
      rw [List.filter_cons_of_pos (by simpa using hx), List.filter_cons_of_neg (by simp [hx])]
      rfl
    | false =>
      rw [List.filter_cons_of_neg (by simp [hx]), List.filter_cons_of_pos (by simp [hx])]
      show laid (laid (layR rows x.1 x.2 x.2.length) (xs.filter fun x => f x.1)) _ = laid (layR (laid rows (xs.filter fun x => f x.1)) x.1 x.2 x.2.length) _
      rw [laid_layR]
      intro y hy e
      have := (List.mem_filter.1 hy).2
      rw [e, hx] at this
      cases this
theorem act_free {d : DS} (h1 : d.dead = false) (h2 : d.stop = 0) : d.alive = true ∧ d.act = { d with acts := IntKind.i64.wrap (d.acts + 1) } := by
  refine ⟨by simp [DS.alive, h1, h2], ?_⟩
  unfold DS.act
  rw [if_neg (by simp [h1]), if_neg (by omega), if_neg (by omega)]
/-- the three syncs of a copy -/
def DS.synced (d : DS) : DS := ((d.copy.sync true).sync false).syncLog
theorem synced_eq (d : DS) : d.synced = { d with rows := d.seen, loose := [], lasted := d.log.length, acts := 3, stop := 0, dead := false } := by
  unfold DS.synced
  obtain ⟨a1, b1⟩ := act_free (d := d.copy) rfl rfl
  have e1 : d.copy.sync true = { d.copy with rows := laid d.rows (d.loose.filter fun x => isMaster d.np x.1 == true), loose := d.loose.filter (fun x => !(isMaster d.np x.1 == true)), acts := 1 } := by
    unfold DS.sync
    rw [if_pos a1, b1]
    rfl
  rw [e1]
  obtain ⟨a2, b2⟩ := act_free (d := { d.copy with rows := laid d.rows (d.loose.filter fun x => isMaster d.np x.1 == true), loose := d.loose.filter (fun x => !(isMaster d.np x.1 == true)), acts := 1 }) rfl rfl
  have e2 : DS.sync { d.copy with rows := laid d.rows (d.loose.filter fun x => isMaster d.np x.1 == true), loose := d.loose.filter (fun x => !(isMaster d.np x.1 == true)), acts := 1 } false = { d.copy with rows := d.seen, loose := [], acts := 2 } := by
    unfold DS.sync
    rw [if_pos a2, b2]
    have r1 : laid (laid d.rows (d.loose.filter fun x => isMaster d.np x.1 == true)) ((d.loose.filter fun x => !(isMaster d.np x.1 == true)).filter fun x => isMaster d.np x.1 == false) = d.seen := by
      unfold DS.seen
      rw [laid_split (fun k => isMaster d.np k == true) d.loose d.rows, List.filter_filter]
      congr 1
      apply List.filter_congr
      intro x _
      cases isMaster d.np x.1 <;> rfl
    have r2 : (d.loose.filter fun x => !(isMaster d.np x.1 == true)).filter (fun x => !(isMaster d.np x.1 == false)) = [] := by
      rw [List.filter_filter, List.filter_eq_nil_iff]
      intro x _
      cases isMaster d.np x.1 <;> simp
    show ({ d.copy with rows := laid (laid d.rows (d.loose.filter fun x => isMaster d.np x.1 == true)) ((d.loose.filter fun x => !(isMaster d.np x.1 == true)).filter fun x => isMaster d.np x.1 == false), loose := (d.loose.filter fun x => !(isMaster d.np x.1 == true)).filter (fun x => !(isMaster d.np x.1 == false)), acts := 2 } : DS) = _
    rw [r1, r2]
  rw [e2]
  obtain ⟨a3, b3⟩ := act_free (d := { d.copy with rows := d.seen, loose := [], acts := 2 }) rfl rfl
  unfold DS.syncLog
  rw [if_pos a3, b3]
  rfl
theorem synced_image (d : DS) : d.synced.image = d.image ∧ d.synced.lasts = d.image ∧ d.synced.acts = 3 := by
  rw [synced_eq]
  refine ⟨rfl, ?_, rfl⟩
  show imOf d.np d.seen (d.log.take d.log.length) = imOf d.np d.seen d.log
  rw [List.take_length]
end Go.Proofs.Ytmipmiaflompmaa

/-
  OWN WORK. Plain disks: one write over bytes that last, and what a crash makes of it.
-/
namespace Go.Proofs.Ytmipmiaflompmaa
set_option linter.unusedVariables false

theorem layR_set {rows : List (List UInt8)} {k : Nat} {l b : List UInt8} (hk : rows[k]? = some l) (n : Nat) (hl : b.length = l.length) : layR rows k b n = rows.set k (b.take n ++ l.drop n) := by
  unfold layR
  congr 1
  have hg : rows.getD k [] = l := by simp [List.getD, hk]
  rw [hg]
  unfold over
  by_cases h : n ≤ b.length
  · simp [List.length_take, Nat.min_eq_left h]
  · rw [List.take_zero, List.nil_append, List.take_of_length_le (l := b) (by omega), Nat.zero_add, hl, List.drop_eq_nil_of_le (Nat.le_refl _), List.drop_eq_nil_of_le (by omega)]
/-- how many of the new bytes a crash that keeps K leaves -/
def tearN (size : Nat) (K : Int) : Nat := if K = 1 then size else if 2 ≤ K then restN (K - 1) (size + 1) else 0
theorem write_free {d : DS} {k : Nat} {b : List UInt8} (h1 : d.dead = false) (h2 : d.stop = 0) (hb : b.length = sizeK d.np d.ns k) : writeE d (some k) b = 0 ∧ d.write (some k) b = { d with loose := d.loose ++ [(k, b)], acts := IntKind.i64.wrap (d.acts + 1) } := by
  obtain ⟨a, e⟩ := act_free h1 h2
  refine ⟨by simp [writeE, a, hb], ?_⟩
  unfold DS.write
  simp [a, hb, e]
theorem sync_free {d : DS} (m : Bool) (h1 : d.dead = false) (h2 : d.stop = 0) : aliveE d = 0 ∧ d.sync m = { d with rows := laid d.rows (d.loose.filter fun x => isMaster d.np x.1 == m), loose := d.loose.filter fun x => !(isMaster d.np x.1 == m), acts := IntKind.i64.wrap (d.acts + 1) } := by
  obtain ⟨a, e⟩ := act_free h1 h2
  refine ⟨by simp [aliveE, a], ?_⟩
  unfold DS.sync
  rw [if_pos a, e]
/-- behind the two writes -/
theorem two_writes {d : DS} {k : Nat} {old new l : List UInt8} (h1 : d.dead = false) (h2 : d.stop = 0) (hl : d.loose = []) (ha : d.acts = 0) (hk : d.rows[k]? = some l) (hll : l.length = sizeK d.np d.ns k) (ho : old.length = sizeK d.np d.ns k) (hn : new.length = sizeK d.np d.ns k) :
    writeE d (some k) old = 0 ∧ aliveE (d.write (some k) old) = 0 ∧ aliveE ((d.write (some k) old).sync false) = 0 ∧ writeE (((d.write (some k) old).sync false).sync true) (some k) new = 0 ∧
    ((((d.write (some k) old).sync false).sync true).write (some k) new) = { d with rows := d.rows.set k old, loose := [(k, new)], acts := 4 } := by
  obtain ⟨a1, b1⟩ := write_free (d := d) (k := k) (b := old) h1 h2 ho
  rw [hl, ha] at b1
  have w1 : IntKind.i64.wrap (0 + 1) = 1 := by decide
  have w2 : IntKind.i64.wrap (1 + 1) = 2 := by decide
  have w3 : IntKind.i64.wrap (2 + 1) = 3 := by decide
  have w4 : IntKind.i64.wrap (3 + 1) = 4 := by decide
  rw [w1, List.nil_append] at b1
  rw [b1]
  have hs : layR d.rows k old old.length = d.rows.set k old := by
    rw [layR_set hk _ (by omega), List.take_length, List.drop_eq_nil_of_le (by omega), List.append_nil]
  have fin : ∀ (e : DS), e = { d with rows := d.rows.set k old, loose := [], acts := 3 } → writeE e (some k) new = 0 ∧ e.write (some k) new = { d with rows := d.rows.set k old, loose := [(k, new)], acts := 4 } := by
    rintro e rfl
    obtain ⟨a4, b4⟩ := write_free (d := { d with rows := d.rows.set k old, loose := [], acts := 3 }) (k := k) (b := new) h1 h2 hn
    refine ⟨a4, b4.trans ?_⟩
    show ({ d with rows := d.rows.set k old, loose := [(k, new)], acts := IntKind.i64.wrap (3 + 1) } : DS) = _
    rw [w4]
  obtain ⟨a2, b2⟩ := sync_free (d := { d with loose := [(k, old)], acts := 1 }) false h1 h2
  rw [b2]
  obtain ⟨a3, b3⟩ := sync_free (d := { d with rows := laid d.rows ([(k, old)].filter fun x : Nat × List UInt8 => isMaster d.np x.1 == false), loose := [(k, old)].filter fun x : Nat × List UInt8 => !(isMaster d.np x.1 == false), acts := IntKind.i64.wrap (1 + 1) }) true h1 h2
  obtain ⟨a4, b4⟩ := fin _ (b3.trans (by
    show ({ d with rows := _, loose := _, acts := IntKind.i64.wrap (IntKind.i64.wrap (1 + 1) + 1) } : DS) = _
    rw [w2, w3, ← hs]
    cases hm : isMaster d.np k <;> simp [List.filter, hm, laid]))
  exact ⟨a1, a2, a3, a4, b4⟩
/-- what lasts, what is read, what a crash leaves -/
theorem torn {d : DS} {k : Nat} {old new l : List UInt8} (K : Int) (hlog : d.log = []) (hls : d.lasted = 0) (hk : d.rows[k]? = some l) (ho : new.length = old.length) :
    ({ d with rows := d.rows.set k old, loose := [(k, new)], acts := 4 } : DS).lasts = imOf d.np (d.rows.set k old) [] ∧
    ({ d with rows := d.rows.set k old, loose := [(k, new)], acts := 4 } : DS).image = imOf d.np (d.rows.set k new) [] ∧
    (({ d with rows := d.rows.set k old, loose := [(k, new)], acts := 4 } : DS).crash 0 [K]).lasts = imOf d.np (d.rows.set k (new.take (tearN new.length K) ++ old.drop (tearN new.length K))) [] ∧
    (({ d with rows := d.rows.set k old, loose := [(k, new)], acts := 4 } : DS).crash 0 [K]).image = imOf d.np (d.rows.set k (new.take (tearN new.length K) ++ old.drop (tearN new.length K))) [] := by
  have hk' : (d.rows.set k old)[k]? = some old := by
    rw [List.getElem?_set_self]
    exact (List.getElem?_eq_some_iff.1 hk).1
  have hL : ∀ n, layR (d.rows.set k old) k new n = d.rows.set k (new.take n ++ old.drop n) := by
    intro n
    rw [layR_set hk' n ho, List.set_set]
  have hr : crashRows [K] [(k, new)] 0 (d.rows.set k old) = d.rows.set k (new.take (tearN new.length K) ++ old.drop (tearN new.length K)) := by
    show crashLay (d.rows.set k old) (k, new) (keepAt [K] 0) = _
    have hK : keepAt [K] 0 = K := rfl
    rw [hK]
    unfold crashLay tearN
    split
    · exact hL _
    · split
      · exact hL _
      · simp
  refine ⟨?_, ?_, ?_, ?_⟩
  · show imOf d.np (d.rows.set k old) (d.log.take d.lasted) = _
    rw [hlog, List.take_nil]
  · show imOf d.np (layR (d.rows.set k old) k new new.length) d.log = _
    rw [hL, hlog, List.take_length, List.drop_eq_nil_of_le (by omega), List.append_nil]
  · show imOf d.np (crashRows [K] [(k, new)] 0 (d.rows.set k old)) ((d.log.take _).take _) = _
    rw [hr, hlog, List.take_nil, List.take_nil]
  · show imOf d.np (laid (crashRows [K] [(k, new)] 0 (d.rows.set k old)) []) (d.log.take _) = _
    rw [hr, hlog, List.take_nil]
    rfl
end Go.Proofs.Ytmipmiaflompmaa

/-
  OWN WORK. A Two that came in (DiskTears); what lies at a place, in plain words.
-/
namespace Go.Proofs.Ytmipmiaflompmaa
open Go.ChangeShapes Go.WideShapes Go.ChangeAt Go.RowKit Go.Deep
set_option linter.unusedVariables false

theorem twos_open {H : Type} {enc : TypeId × Value → H} {W : World} {t : TypeId} {f0 f1 f2 f3 : Field} {cs : Array Value} {d : DataW H} {p : List MemPlace} (ht : Try.prog.underlying t = some (.struct #[f0, f1, f2, f3])) (hsz : cs.size = 4)
    (o0 : f0.offset = 0) (o1 : f1.offset = 1) (o2 : f2.offset = 2) (o3 : f3.offset = 3) (c0 : Try.prog.cellsOf f0.type = 1) (c1 : Try.prog.cellsOf f1.type = 1) (c2 : Try.prog.cellsOf f2.type = 1) (c3 : Try.prog.cellsOf f3.type = 1)
    (t0 : Try.prog.underlying f0.type = some (.int .u8)) (t1 : Try.prog.underlying f1.type = some (.int .u8)) (t2 : Try.prog.underlying f2.type = some (.int .i64)) (t3 : Try.prog.underlying f3.type = some (.int .i64))
    (h : DataW.Trod enc Try.prog W 0 (fun _ => true) true t (.agg cs) d p) : ∃ (a b : UInt8) (c e : Int), cs = #[.int .u8 (a.toNat : Int), .int .u8 (b.toNat : Int), .int .i64 c, .int .i64 e] ∧ IntKind.i64.wrap c = c ∧ IntKind.i64.wrap e = e := by
  obtain ⟨fuel, hf⟩ := h
  obtain ⟨xs, k, hk, hxy, _, hxl, hff⟩ := DataW.trod_struct ht hf
  obtain ⟨y0, y1, y2, y3, rfl⟩ := four_of (show xs.length = 4 from hxl)
  obtain ⟨v0, v1, v2, v3, hv⟩ := four_of (show cs.toList.length = 4 by simpa using hsz)
  have q0 := hff 0 f0 rfl
  have q1 := hff 1 f1 rfl
  have q2 := hff 2 f2 rfl
  have q3 := hff 3 f3 rfl
  simp [Value.cells, hv, o0, o1, o2, o3, c0, c1, c2, c3] at q0 q1 q2 q3
  obtain ⟨z0, e0, -, g0⟩ := DataW.trod_int t0 q0
  obtain ⟨z1, e1, -, g1⟩ := DataW.trod_int t1 q1
  obtain ⟨z2, e2, -, g2⟩ := DataW.trod_int t2 q2
  obtain ⟨z3, e3, -, g3⟩ := DataW.trod_int t3 q3
  simp at e0 e1 e2 e3
  subst e0 e1 e2 e3
  refine ⟨UInt8.ofNat z0.toNat, UInt8.ofNat z1.toNat, z2, z3, ?_, ?_, ?_⟩
  · rw [byte_wf g0, byte_wf g1, ← Array.toArray_toList (xs := cs), hv]
  · exact i64_wf g2
  · exact i64_wf g3
/-- what lies at a place of an image -/
def placeL (m : IM) (p : Nat) : List UInt8 := if p = 0 then m.ps.getD (m.ps.length - 1) [] else if p = 1 then m.pair else if p = 2 then m.m0 else m.m1
theorem SeeIm.place {w : World} {V : IV} {m : IM} (h : SeeIm w V m) {p : Nat} {v : Value} (hn : 1 ≤ m.ps.length) (hv : placeV V p v) : Bs w v (placeL m p) := by
  unfold placeV at hv
  unfold placeL
  by_cases h0 : p = 0
  · rw [if_pos h0] at hv ⊢
    rw [h.len] at hv
    have hl : m.ps[m.ps.length - 1]? = some (m.ps.getD (m.ps.length - 1) []) := by
      rw [List.getD, List.getElem?_eq_getElem (by omega)]
      rfl
    exact h.ps _ _ _ hv hl
  · rw [if_neg h0] at hv ⊢
    subst hv
    by_cases h1 : p = 1
    · rw [if_pos h1, if_pos h1]; exact h.pair
    · rw [if_neg h1, if_neg h1]
      by_cases h2 : p = 2
      · rw [if_pos h2, if_pos h2]; exact h.m0
      · rw [if_neg h2, if_neg h2]; exact h.m1
theorem placeL_im {np p : Nat} {rows : List (List UInt8)} (log : List UInt8) (hn : 1 ≤ np) (hp : p < 4) (hl : rows.length = np + 3) : placeL (imOf np rows log) p = rows.getD (placeK np p) [] := by
  rcases (by omega : p = 0 ∨ p = 1 ∨ p = 2 ∨ p = 3) with rfl | rfl | rfl | rfl
  · show ((rows.drop 1).take np).getD (((rows.drop 1).take np).length - 1) [] = rows.getD np []
    have e : ((rows.drop 1).take np).length = np := by simp; omega
    rw [e, List.getD, List.getD, List.getElem?_take, if_pos (by omega), List.getElem?_drop, show 1 + (np - 1) = np by omega]
  · rfl
  · rfl
  · rfl
theorem placeL_set {np p : Nat} {rows : List (List UInt8)} (x log : List UInt8) (hn : 1 ≤ np) (hp : p < 4) (hl : rows.length = np + 3) : placeL (imOf np (rows.set (placeK np p) x) log) p = x := by
  rw [placeL_im log hn hp (by simpa using hl), List.getD, List.getElem?_set_self (by rw [hl]; exact placeK_lt hn hp)]
  rfl
end Go.Proofs.Ytmipmiaflompmaa

/-
  OWN WORK. An image of one's own, one of whose rows is written over.
-/
namespace Go.Proofs.Ytmipmiaflompmaa
open Go.RowKit
set_option linter.unusedVariables false

theorem Fam.change {w w' : World} {base i : Nat} {vs : List Value} {ls : List (List UInt8)} {v : Value} {x : List UInt8} (h : Fam w base vs ls) (hi : vs[i]? = some v) (k : Kept v.ownBlock.toList w w') (o : w'.ownsRow base 5 1 v x.length (u8s x)) : Fam w' base vs (ls.set i x) := by
  refine ⟨by rw [List.length_set]; exact h.len, fun j u l hu hl => ?_, h.apart⟩
  rw [List.getElem?_set] at hl
  by_cases e : i = j
  · subst e
    rw [if_pos rfl] at hl
    obtain rfl : v = u := Option.some.inj (hi.symm.trans hu)
    split at hl
    · cases hl; exact o
    · cases hl
  · rw [if_neg e] at hl
    refine own_of_kept (h.own j u l hu hl) k fun y hy hm => ?_
    have hv : v.ownBlock = some y := by simpa using hm
    rcases Nat.lt_or_gt_of_ne e with c | c
    · exact h.apart i j v u y c hi hu hv hy
    · exact h.apart j i u v y c hu hi hy hv
/-- the image with other bytes at a place -/
def placeSet (m : IM) (p : Nat) (x : List UInt8) : IM := if p = 0 then { m with ps := m.ps.set (m.ps.length - 1) x } else if p = 1 then { m with pair := x } else if p = 2 then { m with m0 := x } else { m with m1 := x }
/-- which of an image's rows lies at a place -/
def placeI (n p : Nat) : Nat := if p = 0 then n + 1 else if p = 1 then 1 else if p = 2 then n + 2 else n + 3
theorem placeV_rows {V : IV} {p : Nat} {v : Value} (hn : 1 ≤ V.pv.length) (hp : p < 4) (h : placeV V p v) : V.rows[placeI V.pv.length p]? = some v := by
  rcases (by omega : p = 0 ∨ p = 1 ∨ p = 2 ∨ p = 3) with rfl | rfl | rfl | rfl
  · have h' : V.pv[V.pv.length - 1]? = some v := h
    obtain ⟨n, e⟩ : ∃ n, V.pv.length = n + 1 := ⟨V.pv.length - 1, by omega⟩
    show (V.log :: V.pair :: (V.pv ++ [V.m0, V.m1]))[V.pv.length + 1]? = some v
    rw [e] at h' ⊢
    show (V.pv ++ [V.m0, V.m1])[n]? = some v
    rw [List.getElem?_append_left (by omega)]
    exact h'
  · have h' : v = V.pair := h
    subst h'
    rfl
  · have h' : v = V.m0 := h
    subst h'
    show (V.pv ++ [V.m0, V.m1])[V.pv.length]? = some V.m0
    rw [List.getElem?_append_right (Nat.le_refl _), Nat.sub_self]
    rfl
  · have h' : v = V.m1 := h
    subst h'
    show (V.pv ++ [V.m0, V.m1])[V.pv.length + 1]? = some V.m1
    rw [List.getElem?_append_right (by omega), show V.pv.length + 1 - V.pv.length = 1 by omega]
    rfl
theorem placeSet_all {m : IM} {p : Nat} (x : List UInt8) (hn : 1 ≤ m.ps.length) (hp : p < 4) : m.all.set (placeI m.ps.length p) x = (placeSet m p x).all := by
  rcases (by omega : p = 0 ∨ p = 1 ∨ p = 2 ∨ p = 3) with rfl | rfl | rfl | rfl
  · show (m.log :: m.pair :: (m.ps ++ [m.m0, m.m1])).set (m.ps.length + 1) x = m.log :: m.pair :: (m.ps.set (m.ps.length - 1) x ++ [m.m0, m.m1])
    obtain ⟨n, e⟩ : ∃ n, m.ps.length = n + 1 := ⟨m.ps.length - 1, by omega⟩
    rw [e]
    show m.log :: m.pair :: (m.ps ++ [m.m0, m.m1]).set n x = m.log :: m.pair :: (m.ps.set n x ++ [m.m0, m.m1])
    rw [List.set_append_left _ _ (by omega)]
  · rfl
  · show m.log :: m.pair :: (m.ps ++ [m.m0, m.m1]).set m.ps.length x = m.log :: m.pair :: (m.ps ++ [x, m.m1])
    rw [List.set_append_right _ _ (Nat.le_refl _), Nat.sub_self]
    rfl
  · show m.log :: m.pair :: (m.ps ++ [m.m0, m.m1]).set (m.ps.length + 1) x = m.log :: m.pair :: (m.ps ++ [m.m0, x])
    rw [List.set_append_right _ _ (by omega), show m.ps.length + 1 - m.ps.length = 1 by omega]
    rfl
theorem placeSet_len (m : IM) (p : Nat) (x : List UInt8) : (placeSet m p x).ps.length = m.ps.length := by
  unfold placeSet
  split
  · simp
  · split
    · rfl
    · split <;> rfl
theorem own_far {w : World} {b1 b2 e1 e2 n1 n2 : Nat} {u v : Value} {xs ys : List Value} (o1 : w.ownsRow b1 e1 1 u n1 xs) (o2 : w.ownsRow b2 e2 1 v n2 ys) (hne : e1 ≠ e2) (y : Nat) (hu : u.ownBlock = some y) : v.ownBlock ≠ some y := by
  intro hv
  rcases o1.2 with ⟨rfl, _⟩ | ⟨g1, cap1, cur1, rfl, -, h1, -⟩
  · cases hu
  · rcases o2.2 with ⟨rfl, _⟩ | ⟨g2, cap2, cur2, rfl, -, h2, -⟩
    · cases hv
    · have e1' : g1 = y := by simpa [Value.ownBlock] using hu
      have e2' : g2 = y := by simpa [Value.ownBlock] using hv
      subst e1'
      subst e2'
      rw [h1] at h2
      cases h2
      exact hne rfl
theorem OwnIm.change {w w' : World} {base p : Nat} {V : IV} {m : IM} {v : Value} {x : List UInt8} (h : OwnIm w base V m) (hn : 1 ≤ m.ps.length) (hp : p < 4) (hv : placeV V p v) (k : Kept v.ownBlock.toList w w') (o : w'.ownsRow base 5 1 v x.length (u8s x)) : OwnIm w' base V (placeSet m p x) := by
  have hr := placeV_rows (by rw [h.len]; exact hn) hp hv
  have hl := h.len
  rw [hl] at hr
  refine ⟨?_, ?_, by rw [placeSet_len]; exact hl⟩
  · rw [← placeSet_all x hn hp]
    exact h.fam.change hr k o
  · refine own_of_kept h.row k fun y hy hm => ?_
    have hvy : v.ownBlock = some y := by simpa using hm
    have hi := (List.getElem?_eq_some_iff.1 hr).1
    obtain ⟨l, hll⟩ : ∃ l, m.all[placeI m.ps.length p]? = some l := ⟨_, List.getElem?_eq_getElem (by rw [← h.fam.len]; exact hi)⟩
    exact own_far h.row (h.fam.own _ _ _ hr hll) (by decide) y hy hvy
theorem imOf_set {np p : Nat} {rows : List (List UInt8)} (x log : List UInt8) (hn : 1 ≤ np) (hp : p < 4) (hl : rows.length = np + 3) : imOf np (rows.set (placeK np p) x) log = placeSet (imOf np rows log) p x := by
  have e : ((rows.drop 1).take np).length = np := by simp; omega
  rcases (by omega : p = 0 ∨ p = 1 ∨ p = 2 ∨ p = 3) with rfl | rfl | rfl | rfl
  · show ({ ps := ((rows.set np x).drop 1).take np, pair := (rows.set np x).getD 0 [], log := log, m0 := (rows.set np x).getD (np + 1) [], m1 := (rows.set np x).getD (np + 2) [] } : IM) = { ps := ((rows.drop 1).take np).set (((rows.drop 1).take np).length - 1) x, pair := rows.getD 0 [], log := log, m0 := rows.getD (np + 1) [], m1 := rows.getD (np + 2) [] }
    rw [e]
    have a1 : ((rows.set np x).drop 1).take np = ((rows.drop 1).take np).set (np - 1) x := by
      rw [List.drop_set, if_neg (by omega), List.take_set]
    have a2 : ∀ j, j ≠ np → (rows.set np x).getD j [] = rows.getD j [] := fun j hj => by rw [List.getD, List.getD, List.getElem?_set_ne (Ne.symm hj)]
    rw [a1, a2 0 (by omega), a2 (np + 1) (by omega), a2 (np + 2) (by omega)]
  · show ({ ps := ((rows.set 0 x).drop 1).take np, pair := (rows.set 0 x).getD 0 [], log := log, m0 := (rows.set 0 x).getD (np + 1) [], m1 := (rows.set 0 x).getD (np + 2) [] } : IM) = { ps := (rows.drop 1).take np, pair := x, log := log, m0 := rows.getD (np + 1) [], m1 := rows.getD (np + 2) [] }
    cases rows with
    | nil => simp at hl
    | cons a t => rfl
  · show ({ ps := ((rows.set (np + 1) x).drop 1).take np, pair := (rows.set (np + 1) x).getD 0 [], log := log, m0 := (rows.set (np + 1) x).getD (np + 1) [], m1 := (rows.set (np + 1) x).getD (np + 2) [] } : IM) = { ps := (rows.drop 1).take np, pair := rows.getD 0 [], log := log, m0 := x, m1 := rows.getD (np + 2) [] }
    have a1 : ((rows.set (np + 1) x).drop 1).take np = (rows.drop 1).take np := by
      rw [List.drop_set, if_neg (by omega), List.take_set, List.set_eq_of_length_le (by rw [e]; omega)]
    have a2 : ∀ j, j ≠ np + 1 → (rows.set (np + 1) x).getD j [] = rows.getD j [] := fun j hj => by rw [List.getD, List.getD, List.getElem?_set_ne (Ne.symm hj)]
    have a3 : (rows.set (np + 1) x).getD (np + 1) [] = x := by rw [List.getD, List.getElem?_set_self (by omega)]; rfl
    rw [a1, a2 0 (by omega), a3, a2 (np + 2) (by omega)]
  · show ({ ps := ((rows.set (np + 2) x).drop 1).take np, pair := (rows.set (np + 2) x).getD 0 [], log := log, m0 := (rows.set (np + 2) x).getD (np + 1) [], m1 := (rows.set (np + 2) x).getD (np + 2) [] } : IM) = { ps := (rows.drop 1).take np, pair := rows.getD 0 [], log := log, m0 := rows.getD (np + 1) [], m1 := x }
    have a1 : ((rows.set (np + 2) x).drop 1).take np = (rows.drop 1).take np := by
      rw [List.drop_set, if_neg (by omega), List.take_set, List.set_eq_of_length_le (by rw [e]; omega)]
    have a2 : ∀ j, j ≠ np + 2 → (rows.set (np + 2) x).getD j [] = rows.getD j [] := fun j hj => by rw [List.getD, List.getD, List.getElem?_set_ne (Ne.symm hj)]
    have a3 : (rows.set (np + 2) x).getD (np + 2) [] = x := by rw [List.getD, List.getElem?_set_self (by omega)]; rfl
    rw [a1, a2 0 (by omega), a3, a2 (np + 1) (by omega)]
end Go.Proofs.Ytmipmiaflompmaa

/-
  OWN WORK. DiskTears: the sizes of the places, and the blank disk that it begins with.
-/
namespace Go.Proofs.Ytmipmiaflompmaa
open Go.RowKit
set_option linter.unusedVariables false

/-- how many bytes a place of DiskTears has -/
def placeSz (ns p : Nat) : Nat := if p = 0 then 24 + 16 * ns else if p = 1 then 40 + 16 * ns else 40
theorem placeSz_eq {np ns p : Nat} (hn : 1 ≤ np) (hp : p < 4) : sizeK np ns (placeK np p) = placeSz ns p := by
  rcases (by omega : p = 0 ∨ p = 1 ∨ p = 2 ∨ p = 3) with rfl | rfl | rfl | rfl
  · show sizeK np ns np = 24 + 16 * ns
    unfold sizeK pgB
    rw [if_neg (by omega), if_pos (Nat.le_refl _)]
  · show sizeK np ns 0 = 40 + 16 * ns
    unfold sizeK pgB
    rw [if_pos rfl]
    omega
  · show sizeK np ns (np + 1) = 40
    unfold sizeK
    rw [if_neg (by omega), if_neg (by omega)]
  · show sizeK np ns (np + 2) = 40
    unfold sizeK
    rw [if_neg (by omega), if_neg (by omega)]
theorem placeSz_le {ns p : Nat} (h : ns ≤ 8) : placeSz ns p ≤ 168 := by
  unfold placeSz
  split
  · omega
  · split <;> omega
/-- all that DiskTears asks of the plain disk -/
theorem tears_plain {np ns lm p : Nat} (K : Int) (old new : UInt8) (h1 : 1 ≤ np ∧ np ≤ 16) (h2 : 1 ≤ ns ∧ ns ≤ 8) (h3 : 1024 ≤ lm ∧ lm ≤ 65536) (hp : p < 4) (k sz : Nat) (hk : k = placeK np p) (hsz : sz = placeSz ns p) (d d4 : DS) (hd : d = DS.blank np ns lm) (h4 : d4 = (((d.write (some k) (List.replicate sz old)).sync false).sync true).write (some k) (List.replicate sz new)) :
    writeE d (some k) (List.replicate sz old) = 0 ∧ aliveE (d.write (some k) (List.replicate sz old)) = 0 ∧ aliveE ((d.write (some k) (List.replicate sz old)).sync false) = 0 ∧ writeE (((d.write (some k) (List.replicate sz old)).sync false).sync true) (some k) (List.replicate sz new) = 0 ∧
    d4.lasts = placeSet (imOf np (blankRows np ns) []) p (List.replicate sz old) ∧ d4.image = placeSet (imOf np (blankRows np ns) []) p (List.replicate sz new) ∧
    (d4.crash 0 [K]).lasts = placeSet (imOf np (blankRows np ns) []) p (List.replicate (tearN sz K) new ++ List.replicate (sz - tearN sz K) old) ∧ (d4.crash 0 [K]).image = (d4.crash 0 [K]).lasts := by
  have hok := DS.Ok.ofBlank h1 h2 h3
  have hlen : (blankRows np ns).length = np + 3 := hok.len
  have hkl : k < np + 3 := by rw [hk]; exact placeK_lt h1.1 hp
  have hs : sizeK np ns k = sz := by rw [hk, hsz]; exact placeSz_eq h1.1 hp
  obtain ⟨l, hl⟩ : ∃ l, (blankRows np ns)[k]? = some l := ⟨_, List.getElem?_eq_getElem (by omega)⟩
  have hll : l.length = sizeK np ns k := hok.row k l hl
  subst hd
  obtain ⟨a1, a2, a3, a4, e⟩ := two_writes (d := DS.blank np ns lm) (k := k) (old := List.replicate sz old) (new := List.replicate sz new) (l := l) rfl rfl rfl rfl hl hll (by rw [List.length_replicate]; exact hs.symm) (by rw [List.length_replicate]; exact hs.symm)
  rw [e] at h4
  obtain ⟨t1, t2, t3, t4⟩ := torn (d := DS.blank np ns lm) (k := k) (old := List.replicate sz old) (new := List.replicate sz new) (l := l) K rfl rfl hl (by simp)
  rw [← h4] at t1 t2 t3 t4
  have hset : ∀ x, imOf (DS.blank np ns lm).np ((DS.blank np ns lm).rows.set k x) [] = placeSet (imOf np (blankRows np ns) []) p x := fun x => by rw [hk]; exact imOf_set x [] h1.1 hp hlen
  have htn : tearN sz K ≤ sz := by
    unfold tearN
    split
    · exact Nat.le_refl _
    · split
      · exact restN_lt _ _
      · omega
  rw [hset] at t1 t2 t3
  refine ⟨a1, a2, a3, a4, t1, t2, ?_, ?_⟩
  · rw [t3, List.length_replicate, List.take_replicate, List.drop_replicate, Nat.min_eq_left htn]
  · rw [t4, hset, t3]
end Go.Proofs.Ytmipmiaflompmaa

