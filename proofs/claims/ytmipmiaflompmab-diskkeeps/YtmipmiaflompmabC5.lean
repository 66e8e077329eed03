import Derived.Test.YtmipmiaflompmabC4
/-
  OWN WORK. The program's disk: Load.
-/
namespace Go.Proofs.Ytmipmiaflompmab
open Go.RowKit
set_option linter.unusedVariables false

theorem Pls.lens {w : World} {base n : Nat} {v : Value} {pv : List Value} {ls : List (List UInt8)} (h : Pls w base v n pv ls) : Lens pv (ls.map List.length) := by
  refine ⟨by rw [List.length_map]; exact h.fam.len, fun i u k hu hk => ?_⟩
  rw [List.getElem?_map] at hk
  obtain ⟨l, hl, rfl⟩ := Option.map_eq_some_iff.1 hk
  exact own_shape2 (h.fam.own i u l hu hl)
theorem SeeIm.all {w : World} {V : IV} {m : IM} (h : SeeIm w V m) : ∀ (i : Nat) u l, (V.pv ++ [V.pair, V.m0, V.m1])[i]? = some u → (m.ps ++ [m.pair, m.m0, m.m1])[i]? = some l → Bs w u l := fun i u l hu hl => by
  have hlen := h.len
  by_cases c : i < V.pv.length
  · rw [List.getElem?_append_left c] at hu
    rw [List.getElem?_append_left (by omega)] at hl
    exact h.ps i u l hu hl
  · rw [List.getElem?_append_right (by omega)] at hu
    rw [List.getElem?_append_right (by omega), ← hlen] at hl
    generalize i - V.pv.length = j at *
    rcases j with _ | _ | _ | j
    · simp at hu hl; subst hu; subst hl; exact h.pair
    · simp at hu hl; subst hu; subst hl; exact h.m0
    · simp at hu hl; subst hu; subst hl; exact h.m1
    · simp at hu
theorem SeeIm.lens {w : World} {V : IV} {m : IM} (h : SeeIm w V m) : Lens (V.pv ++ [V.pair, V.m0, V.m1]) (m.ps.map List.length ++ [m.pair.length, m.m0.length, m.m1.length]) := by
  refine ⟨by simp [h.len], fun i u k hu hk => ?_⟩
  have e : m.ps.map List.length ++ [m.pair.length, m.m0.length, m.m1.length] = (m.ps ++ [m.pair, m.m0, m.m1]).map List.length := by simp
  rw [e, List.getElem?_map] at hk
  obtain ⟨l, hl, rfl⟩ := Option.map_eq_some_iff.1 hk
  obtain ⟨p, c, e, -⟩ := h.all i u l hu hl
  exact ⟨p, c, e⟩
set_option maxHeartbeats 6400000 in
theorem pLoad (a b c : Int) (V : IV) (m : IM) (w : World) (hV : SeeIm w V m) (hcap : (V.pv.length + 3) * 24 ≤ 140737488355328) :
    Calls Try.prog 6 #[.agg #[.int .i64 a, .int .i64 b, .int .i64 c], V.agg] w fun e w' => ∃ u, e = .returned (.tuple #[u, .int .i64 (loadE a b c m)]) ∧ Made (PD []) w w' u (loadD a b c m) (loadE a b c m) := by
  obtain ⟨u0, v0, e0, -⟩ := id hV.vp
  obtain ⟨u1, v1, e1, -⟩ := id hV.pair
  obtain ⟨u2, v2, e2, -⟩ := id hV.log
  obtain ⟨u3, v3, e3, -⟩ := id hV.m0
  obtain ⟨u4, v4, e4, -⟩ := id hV.m1
  obtain ⟨vp, pv, pair, log, m0, m1⟩ := V
  simp only at e0 e1 e2 e3 e4 hcap
  subst e0 e1 e2 e3 e4
  obtain ⟨w0, hw0⟩ : ∃ w0, w0 = (w.alloc (.cells #[.int .i64 a, .int .i64 b, .int .i64 c] 23)).alloc (.cells #[.slice u0 pv.length v0, .slice u1 m.pair.length v1, .slice u2 m.log.length v2, .slice u3 m.m0.length v3, .slice u4 m.m1.length v4] 28) := ⟨_, rfl⟩
  have k0 : Kept [] w w0 := by rw [hw0]; exact ((Kept.refl [] w).alloc _).alloc _
  have bS : Blk w0 w.heap.size 23 [.int .i64 a, .int .i64 b, .int .i64 c] := by rw [hw0]; exact (Blk.new w _ _).kept ((Kept.refl [] _).alloc _) (by simp)
  have bI : Blk w0 (w.heap.size + 1) 28 [.slice u0 pv.length v0, .slice u1 m.pair.length v1, .slice u2 m.log.length v2, .slice u3 m.m0.length v3, .slice u4 m.m1.length v4] := by
    rw [hw0]
    have := Blk.new (w.alloc (.cells #[.int .i64 a, .int .i64 b, .int .i64 c] 23)) 28 [.slice u0 pv.length v0, .slice u1 m.pair.length v1, .slice u2 m.log.length v2, .slice u3 m.m0.length v3, .slice u4 m.m1.length v4]
    rwa [World.size_alloc] at this
  have hS0 := hV.kept k0
  have s0 := bS.cell (j := 0) rfl
  have s1 := bS.cell (j := 1) rfl
  have s2 := bS.cell (j := 2) rfl
  have hmb := mayBe_any a b c w0
  have HW0 : Hid (w0 = (w.alloc (.cells #[.int .i64 a, .int .i64 b, .int .i64 c] 23)).alloc (.cells #[.slice u0 pv.length v0, .slice u1 m.pair.length v1, .slice u2 m.log.length v2, .slice u3 m.m0.length v3, .slice u4 m.m1.length v4] 28)) := hw0
  have HI : Hid (Blk w0 (w.heap.size + 1) 28 [.slice u0 pv.length v0, .slice u1 m.pair.length v1, .slice u2 m.log.length v2, .slice u3 m.m0.length v3, .slice u4 m.m1.length v4]) := bI
  have HV : Hid (SeeIm w0 ⟨.slice u0 pv.length v0, pv, .slice u1 m.pair.length v1, .slice u2 m.log.length v2, .slice u3 m.m0.length v3, .slice u4 m.m1.length v4⟩ m) := hS0
  have hpl := fun W (k : Kept [] w0 W) => placesOf_any ⟨.slice u0 pv.length v0, pv, .slice u1 m.pair.length v1, .slice u2 m.log.length v2, .slice u3 m.m0.length v3, .slice u4 m.m1.length v4⟩ m W (hS0.kept k) hcap
  unfold IV.agg at hpl ⊢
  dsimp only at hpl ⊢
  cases h : shapeOk a b c with
  | false =>
    have hE : loadE a b c m = 60 := by unfold loadE; rw [h]; rfl
    rw [h] at hmb
    rw [hE]
    rw [hw0] at s0 s1 s2 hmb
    clear h hE hw0 bS bI hS0 hpl hV hcap
    go_enter Try.func6, Try.ntmps6
    go_wp2_with fail
    refine hmb.mono ?_
    rintro e w1 ⟨rfl, k1⟩
    clear hmb
    rw [← HW0.out] at k1
    go_wp2
    go_ret2
    exact ⟨_, rfl, .inr ⟨by omega, rfl, k0.then k1⟩⟩
  | true =>
    rw [h] at hmb
    obtain ⟨np, ns, lm, rfl, rfl, rfl, h1, h2, h3⟩ := shapeOk_nat h
    have hE : loadE (np : Int) (ns : Int) (lm : Int) m = if imOk np ns lm m = true then 0 else 62 := by
      unfold loadE
      rw [if_pos h]
      rfl
    have eD : loadD (np : Int) (ns : Int) (lm : Int) m = DS.load np ns lm m := by simp [loadD]
    rw [eD]
    rw [hE]
    obtain ⟨E, hEE⟩ : ∃ E : Int, E = (if imOk np ns lm m = true then 0 else 62) := ⟨_, rfl⟩
    rw [← hEE]
    have HEE : Hid (E = (if imOk np ns lm m = true then 0 else 62)) := hEE
    clear hEE
    have HS : Hid ((1 ≤ np ∧ np ≤ 16) ∧ (1 ≤ ns ∧ ns ≤ 8) ∧ (1024 ≤ lm ∧ lm ≤ 65536)) := ⟨h1, h2, h3⟩
    have hbl := fun W => pblank_any np ns lm W h1 h2.2
    rw [hw0] at s0 s1 s2 hmb
    clear h hE hw0 bS bI hS0 hV hcap eD h1 h2 h3
    go_enter Try.func6, Try.ntmps6
    go_wp2_with fail
    refine hmb.mono ?_
    rintro e w1 ⟨rfl, k1⟩
    clear hmb
    have d0 := k1.cell s0 (by simp)
    have d1 := k1.cell s1 (by simp)
    have d2 := k1.cell s2 (by simp)
    rw [← HW0.out] at k1
    obtain ⟨⟨i0, i1, i2, i3, i4⟩, -⟩ := (HI.out.kept k1 (by simp)).five
    have hpl1 := hpl w1 k1
    clear s0 s1 s2 hpl
    go_wp2_with fail
    refine hpl1.mono ?_
    clear hpl1
    rintro e w2 ⟨vq, rfl, o2, k2⟩
    obtain ⟨gq, cq, rfl, -⟩ := own_at8 o2 (by omega)
    have d0' := k2.cell d0 (by simp)
    have d1' := k2.cell d1 (by simp)
    have d2' := k2.cell d2 (by simp)
    have hb2 := hbl w2
    clear d0 d1 d2 i0 i1 i3 i4 hbl
    go_wp2_with fail
    refine hb2.mono ?_
    clear hb2
    rintro e w3 ⟨vb, pb, rfl, hP3, k3⟩
    obtain ⟨gb, cb, rfl, -⟩ := own_at8 hP3.row (by omega)
    have o3 := own_of_kept o2 k3 (by simp)
    have heq := eqFunc_any (.slice (some ⟨gq, 0, none⟩) (pv.length + 3) cq) (.slice (some ⟨gb, 0, none⟩) (np + 3) cb) _ _ (pv.length + 3) (np + 3) _ pb _ _ w3 o3 hP3.row ((HV.out.kept ((k1.then k2).then k3)).lens) hP3.lens (by omega) (by omega)
    have elen : (prows np (blankRows np ns)).map List.length = List.replicate np (pgB ns) ++ [16 + pgB ns, 40, 40] := by
      rw [show prows np (blankRows np ns) = List.replicate np (zer (pgB ns)) ++ [zer (16 + pgB ns), zer 40, zer 40] from prows_parts (by simp)]
      simp [zer]
    rw [elen] at heq
    have hz0 := imOk_lens np ns lm m
    obtain ⟨y, hy⟩ : ∃ y, y = decide (m.ps.map List.length ++ [m.pair.length, m.m0.length, m.m1.length] = List.replicate np (pgB ns) ++ [16 + pgB ns, 40, 40]) := ⟨_, rfl⟩
    rw [← hy] at heq hz0
    clear hy elen hP3 o3
    have f0 := k3.cell d0' (by simp)
    have f1 := k3.cell d1' (by simp)
    have f2 := k3.cell d2' (by simp)
    have KQ : Hid (Kept [] w0 w2 ∧ Kept [] w2 w3 ∧ w2.ownsRow w1.heap.size 25 1 (.slice (some ⟨gq, 0, none⟩) (pv.length + 3) cq) (pv.length + 3) (pv ++ [.slice u1 m.pair.length v1, .slice u3 m.m0.length v3, .slice u4 m.m1.length v4])) := ⟨k1.then k2, k3, o2⟩
    have j2 := k3.cell (k2.cell i2 (by simp)) (by simp)
    clear k1 k2 k3 d0' d1' d2' i2 o2
    cases y with
    | false =>
      rw [Bool.false_and] at hz0
      have hE2 : E = 62 := by rw [HEE.out, hz0]; rfl
      subst hE2
      go_wp2_with fail
      refine heq.mono ?_
      rintro e w4 ⟨rfl, k4⟩
      clear heq f0 f1 f2 j2
      go_wp2
      go_ret2
      exact ⟨_, rfl, .inr ⟨by simp, rfl, ((k0.then KQ.out.1).then KQ.out.2.1).then k4⟩⟩
    | true =>
      rw [Bool.true_and] at hz0
      by_cases hlg : m.log.length ≤ lm
      · rw [decide_eq_true hlg] at hz0
        have hE2 : E = 0 := by rw [HEE.out, hz0]; rfl
        subst hE2
        have HOK : Hid (imOk np ns lm m = true) := hz0
        have hlg' : ¬ (lm : Int) < (m.log.length : Int) := by omega
        go_wp2_with fail
        refine heq.mono ?_
        rintro e w4 ⟨rfl, k4⟩
        clear heq
        have g0 := k4.cell f0 (by simp)
        have g1 := k4.cell f1 (by simp)
        have g2 := k4.cell f2 (by simp)
        have l2 := k4.cell j2 (by simp)
        have kk : Kept [] w0 w4 := (KQ.out.1.then KQ.out.2.1).then k4
        have hpn : pv.length = np := by
          have h9 := HOK.out
          unfold imOk at h9
          simp only [Bool.and_eq_true, decide_eq_true_eq] at h9
          have := HV.out.len
          simp only at this
          omega
        have hok := DS.Ok.ofLoad HS.out.1 HS.out.2.1 HS.out.2.2 HOK.out
        have hrw : w4.ownsRow w1.heap.size 25 1 (.slice (some ⟨gq, 0, none⟩) (pv.length + 3) cq) (np + 3) (pv ++ [.slice u1 m.pair.length v1, .slice u3 m.m0.length v3, .slice u4 m.m1.length v4]) := by
          have := own_of_kept KQ.out.2.2 (KQ.out.2.1.then k4) (by simp)
          rw [hpn] at this ⊢
          exact this
        have hps : m.ps.length = np := by have := HV.out.len; simp only at this; omega
        have epr : prows np m.rows = m.ps ++ [m.pair, m.m0, m.m1] := prows_parts hps
        have hsee := HV.out.kept kk
        have hcop := fun W (k : Kept [] w4 W) => pcopied_any (.slice (some ⟨gq, 0, none⟩) (pv.length + 3) cq) w1.heap.size (np + 3) (pv ++ [.slice u1 m.pair.length v1, .slice u3 m.m0.length v3, .slice u4 m.m1.length v4]) (m.ps ++ [m.pair, m.m0, m.m1]) W (own_of_kept hrw k (by simp)) (by simp [hps]) (fun i u l hu hl => (hsee.all i u l hu hl).kept k) (by rw [← epr]; exact prows_short hok.len hok.row hok.ns.2) (by have := HS.out.1; omega) (by omega)
        have hla := fun (vp : Value) (pv' : List Value) (W : World) (k : Kept [] w4 W) (hP : Pls W w.heap.size vp (np + 3) pv' (m.ps ++ [m.pair, m.m0, m.m1])) => lasting_any (DS.load np ns lm m) w.heap.size vp (.slice u2 m.log.length v2) pv' W hok ⟨rfl, rfl, rfl⟩ ⟨rfl, rfl⟩ (by show Pls W _ vp (np + 3) pv' (prows np m.rows); rw [epr]; exact hP) (Nat.le_trans k0.size (Nat.le_trans kk.size k.size)) (hsee.log.kept k)
        have HLA : Hid (∀ (vp : Value) (pv' : List Value) (W : World), Kept [] w4 W → Pls W w.heap.size vp (np + 3) pv' (m.ps ++ [m.pair, m.m0, m.m1]) → Calls Try.prog 31 #[.agg #[.int .i64 (np : Int), .int .i64 (ns : Int), .int .i64 (lm : Int)], vp, .slice u2 m.log.length v2] W fun e w' => ∃ u, e = .returned u ∧ (∃ F, PD [] w' u (DS.load np ns lm m) F ∧ (∀ x ∈ F, w.heap.size ≤ x)) ∧ Kept [] W w') := hla
        have HSZ : Hid (w.heap.size ≤ w4.heap.size) := (show w.heap.size ≤ w4.heap.size from Nat.le_trans k0.size kk.size)
        have KK : Hid (Kept [] w w4) := k0.then kk
        clear hla hsee epr hps hrw hok hpn kk k4 f0 f1 f2 j2 hz0 hlg
        have kx : Kept [] w4 w4.drew := (Kept.refl [] w4).drew
        go_upto_region 6 with fail
        go_region_held3 (fun w' => w'.cell? ⟨w.heap.size, 0, none⟩ = some (.int .i64 (np : Int)) ∧ w'.cell? ⟨w.heap.size, 1, none⟩ = some (.int .i64 (ns : Int)) ∧ w'.cell? ⟨w.heap.size, 2, none⟩ = some (.int .i64 (lm : Int)) ∧ w'.cell? ⟨w.heap.size + 1, 2, none⟩ = some (.slice u2 m.log.length v2))
          (first
            | (with_reducible exact ⟨kx.cell g0 (by simp), kx.cell g1 (by simp), kx.cell g2 (by simp), kx.cell l2 (by simp)⟩)
            | fail)
          (first
            | (go_at_call 32; refine (hcop _ kx).mono ?_; rintro e w5 ⟨v5, p5, rfl, r5, k5⟩; have r5' := r5.mono (show w.heap.size ≤ w4.heap.size from HSZ.out); replace kx := kx.then k5; obtain ⟨g5, c5, rfl, -⟩ := own_at8 r5.row (by omega))
            | (go_at_call 31; refine (HLA.out _ p5 _ kx r5').mono ?_; rintro e w6 ⟨u, rfl, ⟨F, hD, hF⟩, k6⟩; replace kx := kx.then k6; obtain ⟨gu, rfl⟩ := hD.ptr)
            | fail)
        have FIN : Hid (Born (PD []) w w6 (.pointer (some ⟨gu, 0, none⟩)) (DS.load np ns lm m)) := ⟨F, hD, hF, KK.out.then kx⟩
        clear hD hF kx k5 k6 r5 r5' HLA hcop g0 g1 g2 l2
        go_wp2
        go_ret2
        exact ⟨_, rfl, .inl ⟨rfl, FIN.out⟩⟩
      · rw [decide_eq_false hlg] at hz0
        have hE2 : E = 62 := by rw [HEE.out, hz0]; rfl
        subst hE2
        have hlg' : (lm : Int) < (m.log.length : Int) := by omega
        go_wp2_with fail
        refine heq.mono ?_
        rintro e w4 ⟨rfl, k4⟩
        clear heq
        have g2 := k4.cell f2 (by simp)
        have l2 := k4.cell j2 (by simp)
        clear f0 f1 f2 j2
        go_wp2
        go_ret2
        exact ⟨_, rfl, .inr ⟨by simp, rfl, ((k0.then KQ.out.1).then KQ.out.2.1).then k4⟩⟩
end Go.Proofs.Ytmipmiaflompmab

/-
  OWN WORK. The program's disk: Copy. (The loose writes never change: a copy has the same ones.)
-/
namespace Go.Proofs.Ytmipmiaflompmab
open Go.RowKit
set_option linter.unusedVariables false

theorem clone_any (v : Value) (b0 n : Nat) (fs : List Value) (w : World) (hrow : w.ownsRow b0 85 1 v n fs) (h1 : ∀ u ∈ fs, u.oneCell' = true) (hcap : n * 40 ≤ 140737488355328) :
    Calls Try.prog 62 #[v] w fun e w' => ∃ v', e = .returned v' ∧ w'.ownsRow w.heap.size 85 1 v' n fs ∧ Kept [] w w' := by
  have heq : ∀ (w : World) (a : Option Addr) (n c : Nat), (binOp .eql 81 (.slice a n c) (.slice none 0 0)).run Try.prog w = .ok (.bool a.isNone) w := fun w a n c => Lib.run_eql_slice_nil w _ _ a n c 0 0 Try.underlying81
  have hlen : fs.length = n := by have := hrow.1; omega
  obtain ⟨p, c, rfl⟩ := own_shape2 hrow
  rcases hrow.2 with ⟨e1, e0⟩ | ⟨g, cap, cur, e1, hlt, h2, h3, h4, h5, h6⟩
  · cases e1
    have hf : fs = [] := List.length_eq_zero_iff.1 (by omega)
    subst hf
    clear hrow h1 hcap
    go_enter Try.func62, Try.ntmps62
    go_wp2
    go_ret
    exact ⟨_, rfl, World.ownsRow_nil _ _ _ _, Kept.refl _ _⟩
  · cases e1
    have kb := (Kept.refl [] w).alloc (.cells #[] 85)
    have ob : (w.alloc (.cells #[] 85)).ownsRow w.heap.size 85 1 (.slice (some ⟨w.heap.size, 0, none⟩) 0 0) 0 [] := World.ownsRow_made w #[] 0 (Nat.le_refl _) (by decide) rfl
    have hnews : ∀ (j : Nat) u, fs[j]? = some u → (w.alloc (.cells #[] 85)).cell? ((⟨g, 0, none⟩ : Addr).add j) = some u := fun j u hj => by
      rw [add_none rfl, Nat.zero_add]
      exact kb.cell (own_cell hrow hj).1 (by simp)
    have HC : Hid (n * 40 ≤ 140737488355328) := hcap
    clear hrow h2 h5 h6 hcap hlt h3 h4
    go_enter Try.func62, Try.ntmps62
    go_wp2_with (at_builtin; refine wpList_append_own2 rfl (.tmp 5) (.tmp 6) 81 rfl w.heap.size 85 Try.underlying81 .nilFunc 8 (by kernel_rfl) rfl _ _ _ (by rfl) ob ⟨g, 0, none⟩ n c fs (by rfl) hlen hnews h1 (by have := HC.out; unfold maxLen; omega) (by have := HC.out; omega) (by simp) ?_; intro v5 w5 o5 g5 at5; obtain ⟨p5, c5, rfl⟩ := own_shape2 o5)
    go_ret
    exact ⟨_, rfl, by simpa using o5, kb.grown g5 fun k hk => .inr (own_ge ob k hk)⟩
/-- a disk made of its parts, the loose writes another disk's -/
theorem PR.make2 {W : World} {base g : Nat} {d : DS} {vl vr vf vlog : Value} {pl pr fs : List Value} {Z : List Nat} (hok : d.Ok) (hd : d.stop = 0 ∧ d.dead = false)
    (hL : Pls W base vl (d.np + 3) pl (prows d.np d.rows)) (hR : Pls W base vr (d.np + 3) pr (prows d.np d.seen)) (hF : W.ownsRow base 85 1 vf d.loose.length fs) (hlo : ∀ (i : Nat) f x, fs[i]? = some f → d.loose[i]? = some x → Lo d.np Z W f x.1 x.2) (hZ : ∀ x ∈ Z, x < base)
    (hlog : W.ownsRow base 5 1 vlog d.log.length (u8s d.log))
    (a1 : ∀ x ∈ blocks pl, x ∉ blocks pr) (a2 : ∀ x, vlog.ownBlock = some x → x ∉ blocks pl ∧ x ∉ blocks pr) (a3 : ∀ x, vl.ownBlock = some x → vr.ownBlock ≠ some x)
    (hb : Blk W g 83 ((⟨vl, pl, vr, pr, vf, fs, vlog, 0, Z⟩ : PDat).cells d)) (hg : base ≤ g) :
    PD Z W (.pointer (some ⟨g, 0, none⟩)) d ((⟨vl, pl, vr, pr, vf, fs, vlog, 0, Z⟩ : PDat).foot g) ∧ ∀ x ∈ (⟨vl, pl, vr, pr, vf, fs, vlog, 0, Z⟩ : PDat).foot g, base ≤ x := by
  obtain ⟨d2, d3⟩ := hd
  have f1 : Fam W base (pl ++ pr) (prows d.np d.rows ++ prows d.np d.seen) := hL.fam.join hR.fam a1
  have f2 : Fam W base (vlog :: (pl ++ pr)) (d.log :: (prows d.np d.rows ++ prows d.np d.seen)) := (Fam.one hlog).join f1 (fun x hx hm => by
    obtain ⟨k, v, hv, hx⟩ := blocks_mem hx
    rcases k with _ | k
    · simp at hv; subst hv
      obtain ⟨j, u, hu, hux⟩ := blocks_mem hm
      have hu : (pl ++ pr)[j]? = some u := hu
      rcases Nat.lt_or_ge j pl.length with c | c
      · rw [List.getElem?_append_left c] at hu
        exact (a2 x hx).1 (mem_blocks hu hux)
      · rw [List.getElem?_append_right c] at hu
        exact (a2 x hx).2 (mem_blocks hu hux)
    · simp at hv)
  have hge : ∀ x ∈ (⟨vl, pl, vr, pr, vf, fs, vlog, 0, Z⟩ : PDat).foot g, base ≤ x := fun x hx => by
    unfold PDat.foot at hx
    simp only [List.mem_cons, List.mem_append, Option.mem_toList, PDat.rows] at hx
    rcases hx with c | ((c | c) | c) | c
    · rw [c]; exact hg
    · exact own_ge hL.row x c
    · exact own_ge hR.row x c
    · exact own_ge hF x c
    · exact (f2.not8 c).2.1
  have hlt := hb.lt
  refine ⟨⟨g, _, rfl, ⟨hok, hb, f2.mono (Nat.zero_le _), own_mono hL.row (Nat.zero_le _), own_mono hR.row (Nat.zero_le _), own_mono hF (Nat.zero_le _), hlo, a3, ?_, wrap_i64_of (by show (-9223372036854775808 : Int) ≤ 0; omega) (by show (0 : Int) < _; omega), fun x hx => ⟨fun hm => by have := hge x hm; have := hZ x hx; omega, by have := hZ x hx; omega⟩⟩, rfl, rfl⟩, hge⟩
  intro _; rw [d2]; rfl
theorem Lo.one {np : Nat} {Z : List Nat} {w : World} {f : Value} {k : Nat} {b : List UInt8} (h : Lo np Z w f k b) : f.oneCell' = true := by
  obtain ⟨gp, gb, vb, rfl, -⟩ := h
  rfl
set_option maxHeartbeats 3200000 in
theorem pCopy (Z : List Nat) (v : Value) (d : DS) (F : List Nat) (w : World) (h : PD Z w v d F) (hcap : d.loose.length * 40 ≤ 140737488355328) :
    Calls Try.prog 46 #[v] w fun e w' => ∃ u, e = .returned u ∧ Born (PD Z) w w' u d.copy := by
  obtain ⟨g, R, rfl, h, rfl, rfl⟩ := h
  have hL := fun W (k : Kept [] w W) => pcopied_any R.vl 0 (d.np + 3) R.pl (prows d.np d.rows) W (own_of_kept h.rowL k (by simp)) (prows_length _ _) (fun i u l hu hl => (h.bsL i u l hu hl).kept k) (prows_short h.ok.len h.ok.row h.ok.ns.2) (by have := h.ok.np; omega) (by omega)
  have hR := fun W (k : Kept [] w W) => pcopied_any R.vr 0 (d.np + 3) R.pr (prows d.np d.seen) W (own_of_kept h.rowR k (by simp)) (prows_length _ _) (fun i u l hu hl => (h.bsR i u l hu hl).kept k) (prows_short h.ok.seenLen h.ok.seen h.ok.ns.2) (by have := h.ok.np; omega) (by omega)
  have hone : ∀ u ∈ R.fs, u.oneCell' = true := fun u hu => by
    obtain ⟨i, hi⟩ := List.getElem?_of_mem hu
    have hl : i < d.loose.length := by have := h.rowF.1; have := (List.getElem?_eq_some_iff.1 hi).1; omega
    exact (h.loose i u _ hi (List.getElem?_eq_getElem hl)).one
  have hC := fun W (k : Kept [] w W) => clone_any R.vf 0 d.loose.length R.fs W (own_of_kept h.rowF k (by simp)) hone hcap
  obtain ⟨plg, clg, elg, hbl, -⟩ := h.shapes
  have hO := fun W (k : Kept [] w W) => pown_any R.vlog d.log W (hbl.kept k) (by have := h.ok.log; have := h.ok.lm; omega)
  obtain ⟨gL, cL, eL, -⟩ := own_at8 h.rowL (by omega)
  obtain ⟨gR, cR, eR, -⟩ := own_at8 h.rowR (by omega)
  obtain ⟨pF, cF, eF⟩ := own_shape2 h.rowF
  have c0 := h.blk.cell (j := 0) rfl
  have c1 := h.blk.cell (j := 1) rfl
  have c2 := h.blk.cell (j := 2) rfl
  have c3 := h.blk.cell (j := 3) (v := R.vl) rfl
  have c4 := h.blk.cell (j := 4) (v := R.vr) rfl
  have c5 := h.blk.cell (j := 5) (v := R.vf) rfl
  have c6 := h.blk.cell (j := 6) (v := R.vlog) rfl
  have c7 := h.blk.cell (j := 7) rfl
  rw [eL] at c3 hL
  rw [eR] at c4 hR
  rw [eF] at c5 hC
  rw [elg] at c6 hO
  have HP : Hid (PR w g d R) := h
  have kx : Kept [] w w.drew := (Kept.refl [] w).drew
  clear h hbl hone hcap
  go_enter Try.func46, Try.ntmps46
  go_upto_region 1 with fail
  have tok : True := trivial
  go_region_held3 (fun w' => w'.cell? ⟨g, 0, none⟩ = some (.int .i64 (d.np : Int)) ∧ w'.cell? ⟨g, 1, none⟩ = some (.int .i64 (d.ns : Int)) ∧ w'.cell? ⟨g, 2, none⟩ = some (.int .i64 (d.lm : Int)) ∧ w'.cell? ⟨g, 3, none⟩ = some (.slice (some ⟨gL, 0, none⟩) (d.np + 3) cL) ∧ w'.cell? ⟨g, 4, none⟩ = some (.slice (some ⟨gR, 0, none⟩) (d.np + 3) cR) ∧ w'.cell? ⟨g, 5, none⟩ = some (.slice pF d.loose.length cF) ∧ w'.cell? ⟨g, 6, none⟩ = some (.slice plg d.log.length clg) ∧ w'.cell? ⟨g, 7, none⟩ = some (.int .i64 (d.lasted : Int)))
    (first
      | (with_reducible exact ⟨kx.cell c0 (by simp), kx.cell c1 (by simp), kx.cell c2 (by simp), kx.cell c3 (by simp), kx.cell c4 (by simp), kx.cell c5 (by simp), kx.cell c6 (by simp), kx.cell c7 (by simp)⟩)
      | (with_reducible exact ⟨(kx.alloc _).cell c0 (by simp), (kx.alloc _).cell c1 (by simp), (kx.alloc _).cell c2 (by simp), (kx.alloc _).cell c3 (by simp), (kx.alloc _).cell c4 (by simp), (kx.alloc _).cell c5 (by simp), (kx.alloc _).cell c6 (by simp), (kx.alloc _).cell c7 (by simp)⟩)
      | fail)
    (first
      | (go_at_call 32; clear tok; refine (hL _ kx).mono ?_; rintro e w1 ⟨v1, p1, rfl, r1, k1⟩; have s1 := kx.size; replace kx := kx.then k1; obtain ⟨g1, d1, rfl, -⟩ := own_at8 r1.row (by omega))
      | (go_at_call 32; refine (hR _ kx).mono ?_; rintro e w2 ⟨v2, p2, rfl, r2, k2⟩; have s2 := kx.size; replace kx := kx.then k2; obtain ⟨g2, d2, rfl, -⟩ := own_at8 r2.row (by omega))
      | (go_at_call 62; refine (hC _ kx).mono ?_; rintro e w3 ⟨v3, rfl, r3, k3⟩; have s3 := kx.size; replace kx := kx.then k3; obtain ⟨p3, d3, rfl⟩ := own_shape2 r3)
      | (go_at_call 60; refine (hO _ kx).mono ?_; rintro e w4 ⟨v4, rfl, r4, k4⟩; have s4 := kx.size; replace kx := kx.then k4; obtain ⟨p4, d4, rfl⟩ := own_shape2 r4)
      | fail)
  have h := HP.out
  have z1 := k1.size
  have z2 := k2.size
  have z3 := k3.size
  have z4 := k4.size
  obtain ⟨W, hW⟩ : ∃ W, W = w4.alloc (.cells #[.int .i64 (d.np : Int), .int .i64 (d.ns : Int), .int .i64 (d.lm : Int), .slice (some ⟨g1, 0, none⟩) (d.np + 3) d1, .slice (some ⟨g2, 0, none⟩) (d.np + 3) d2, .slice p3 d.loose.length d3, .slice p4 d.log.length d4, .int .i64 (d.lasted : Int), .int .i64 0, .int .i64 0, .bool false] 83) := ⟨_, rfl⟩
  have kW : Kept [] w4 W := by rw [hW]; exact (Kept.refl [] w4).alloc _
  have bW : Blk W w4.heap.size 83 ((⟨.slice (some ⟨g1, 0, none⟩) (d.np + 3) d1, p1, .slice (some ⟨g2, 0, none⟩) (d.np + 3) d2, p2, .slice p3 d.loose.length d3, R.fs, .slice p4 d.log.length d4, 0, R.Z⟩ : PDat).cells d.copy) := by rw [hW]; exact Blk.new w4 _ _
  have q1 := (r1.kept (((k2.then k3).then k4).then kW)).mono s1
  have q2 := (r2.kept ((k3.then k4).then kW)).mono s2
  have q3 := own_mono (own_of_kept r3 (k4.then kW) (by simp)) s3
  have q4 := own_mono (own_of_kept r4 kW (by simp)) s4
  have b1 : ∀ x ∈ blocks p1, x < w1.heap.size := fun x hx => (r1.fam.not8 hx).2.2
  have b2 : ∀ x ∈ blocks p2, w1.heap.size ≤ x ∧ x < w2.heap.size := fun x hx => ⟨(r2.fam.not8 hx).2.1, (r2.fam.not8 hx).2.2⟩
  have fin := PR.make2 (W := W) (base := w.heap.size) (g := w4.heap.size) (d := d.copy) (Z := R.Z) h.ok.copy ⟨rfl, rfl⟩ q1 q2 q3 (fun i f x hf hx => (h.loose i f x hf hx).kept (kx.then kW) (by simp)) (fun x hx => (h.frz x hx).2) q4
    (fun x hx hm => by have := b1 x hx; have := (b2 x hm).1; omega) (fun x hx => by have := own_ge r4 x hx; exact ⟨fun hm => by have := b1 x hm; omega, fun hm => by have := (b2 x hm).2; omega⟩) (fun x hx hm => by have h1 := own_lt r1.row x hx; have h2 := own_ge r2.row x hm; omega) bW (by omega)
  have FIN : Hid (Born (PD R.Z) w W (.pointer (some ⟨w4.heap.size, 0, none⟩)) d.copy) := ⟨_, fin.1, fin.2, kx.then kW⟩
  have HWW : Hid (W = w4.alloc (.cells #[.int .i64 (d.np : Int), .int .i64 (d.ns : Int), .int .i64 (d.lm : Int), .slice (some ⟨g1, 0, none⟩) (d.np + 3) d1, .slice (some ⟨g2, 0, none⟩) (d.np + 3) d2, .slice p3 d.loose.length d3, .slice p4 d.log.length d4, .int .i64 (d.lasted : Int), .int .i64 0, .int .i64 0, .bool false] 83)) := hW
  clear fin q1 q2 q3 q4 bW kW hW b1 b2 r1 r2 r3 r4 k1 k2 k3 k4 kx c0 c1 c2 c3 c4 c5 c6 c7 h hL hR hC hO s1 s2 s3 s4 z1 z2 z3 z4
  go_wp2
  rw [← HWW.out]
  go_ret
  exact ⟨_, rfl, FIN.out⟩
end Go.Proofs.Ytmipmiaflompmab

/-
  OWN WORK. The program's disk: Crash.
-/
namespace Go.Proofs.Ytmipmiaflompmab
open Go.RowKit
set_option linter.unusedVariables false

theorem pnext_any (vk : Value) (keep : List Int) (i : Nat) (w : World) (hk : Is w vk keep) (hi : i < 9223372036854775807) :
    Calls Try.prog 38 #[vk, .int .i64 (i : Int)] w fun e w' => e = .returned (.int .i64 (keepAt keep i)) ∧ w' = w := by
  obtain ⟨pk, ck, rfl, -⟩ := id hk
  by_cases hkl : keep.length = 0
  · have ek : keepAt keep i = 0 := by
      have : keep = [] := List.length_eq_zero_iff.1 hkl
      subst this
      rfl
    rw [ek, hkl]
    clear hk hi ek
    go_enter Try.func38, Try.ntmps38
    go_wp2
    go_ret
    exact ⟨rfl, rfl⟩
  · obtain ⟨kb, ko, kc, eK, -, hkc⟩ := hk.pos (by omega)
    cases eK
    have hkl0 : ¬ (keep.length : Int) = 0 := by omega
    have hmod : i % keep.length < keep.length := Nat.mod_lt _ (by omega)
    obtain ⟨kk, hkk⟩ : ∃ x, keep[i % keep.length]? = some x := ⟨_, List.getElem?_eq_getElem hmod⟩
    have ek : keepAt keep i = kk := by unfold keepAt; simp [List.getD, hkk]
    have kc0 := hkc _ _ hkk
    obtain ⟨j, hj⟩ : ∃ j, j = i % keep.length := ⟨_, rfl⟩
    rw [← hj] at hmod hkk kc0
    have hmod' : (j : Int) < (keep.length : Int) := by omega
    have hjk : j ≤ i := by rw [hj]; exact Nat.mod_le _ _
    have r1 : (i : Int) % (keep.length : Int) = (j : Int) := by rw [hj]; rfl
    have r2 : (i : Int).tmod (keep.length : Int) = (j : Int) := by rw [Int.tmod_eq_emod_of_nonneg (by omega), r1]
    have r3 : IntKind.i64.wrap (j : Int) = (j : Int) := wrap_i64_of (by omega) (by omega)
    rw [ek]
    clear hk hi ek hjk hj r1 hkk hkc hmod
    go_enter Try.func38, Try.ntmps38
    go_wp2
    go_ret
    exact ⟨rfl, rfl⟩
theorem Pls.lays {w w' : World} {base n j : Nat} {v u : Value} {pv : List Value} {ls : List (List UInt8)} {l : List UInt8} (h : Pls w base v n pv ls) (hu : pv[j]? = some u) (ho : w'.ownsRow base 5 1 u l.length (u8s l)) (k : Kept u.ownBlock.toList w w') : Pls w' base v n pv (ls.set j l) :=
  ⟨own_of_kept h.row k (fun y hy hm => (h.fam.not8 (mem_blocks hu (by simpa using hm))).1 (own_not8 h.row (by decide) y hy)), Fam.set h.fam j u l hu k ho⟩
set_option maxHeartbeats 6400000 in
theorem pCrash (Z : List Nat) (v : Value) (d : DS) (F : List Nat) (c : Int) (vk : Value) (keep : List Int) (w : World) (h : PD Z w v d F) (hk : Is w vk keep) :
    Calls Try.prog 14 #[v, .agg #[.int .i64 c, vk]] w fun e w' => ∃ u, e = .returned u ∧ Born (PD []) w w' u (d.crash c keep) := by
  obtain ⟨g, R, rfl, h, rfl, rfl⟩ := h
  obtain ⟨pk, ck, rfl, -⟩ := id hk
  obtain ⟨w0, hw0⟩ : ∃ w0, w0 = w.alloc (.cells #[.int .i64 c, .slice pk keep.length ck] 50) := ⟨_, rfl⟩
  have k0 : Kept [] w w0 := by rw [hw0]; exact (Kept.refl [] w).alloc _
  have bC : Blk w0 w.heap.size 50 [.int .i64 c, .slice pk keep.length ck] := by rw [hw0]; exact Blk.new w _ _
  have h0 := h.kept k0 (by simp) (by simp)
  have hcop := pcopied_any R.vl 0 (d.np + 3) R.pl (prows d.np d.rows) w0 h0.rowL (prows_length _ _) h0.bsL (prows_short h.ok.len h.ok.row h.ok.ns.2) (by have := h.ok.np; omega) (by omega)
  obtain ⟨gL, cL, eL, -⟩ := own_at8 h0.rowL (by omega)
  obtain ⟨pF, cF, eF⟩ := own_shape2 h0.rowF
  obtain ⟨plg, clg, elg, hbl, -⟩ := h0.shapes
  have c3 := h0.blk.cell (j := 3) (v := R.vl) rfl
  have c5 := h0.blk.cell (j := 5) (v := R.vf) rfl
  rw [eL] at c3 hcop
  rw [eF] at c5
  have q1 := bC.cell (j := 1) rfl
  have HK : Hid (Is w0 (.slice pk keep.length ck) keep) := hk.kept k0
  have H0 : Hid (PR w0 g d R) := h0
  have HB : Hid (Blk w0 w.heap.size 50 [.int .i64 c, .slice pk keep.length ck] ∧ Kept [] w w0) := ⟨bC, k0⟩
  have HW0 : Hid (w0 = w.alloc (.cells #[.int .i64 c, .slice pk keep.length ck] 50)) := hw0
  have HE : Hid (R.vl = .slice (some ⟨gL, 0, none⟩) (d.np + 3) cL ∧ R.vf = .slice pF d.loose.length cF ∧ R.vlog = .slice plg d.log.length clg) := ⟨eL, eF, elg⟩
  have HLN : Hid (d.loose.length ≤ maxLen) := (show d.loose.length ≤ maxLen by
    rcases h0.rowF.2 with ⟨-, e0⟩ | ⟨g9, cap9, cur9, -, -, -, h3, h4, -⟩
    · omega
    · omega)
  rw [hw0] at c3 hcop
  clear h h0 hk hw0 k0 bC eL eF elg hbl
  go_enter Try.func14, Try.ntmps14
  go_wp2_with fail
  refine hcop.mono ?_
  clear hcop
  rintro e w1 ⟨vp, pv, rfl, hP, k1⟩
  rw [← HW0.out] at hP k1
  clear c3
  obtain ⟨gP, cP, rfl, -⟩ := own_at8 hP.row (by omega)
  have z5 := k1.cell c5 (by simp)
  clear c5 q1
  have HP0 : Hid (Pls w1 w0.heap.size (.slice (some ⟨gP, 0, none⟩) (d.np + 3) cP) (d.np + 3) pv (prows d.np (crashRows keep (d.loose.take 0) 0 d.rows)) ∧ Kept [] w0 w1) := ⟨hP, k1⟩
  have hl63 : (d.loose.length : Int) ≤ 9223372036854775807 := by have := HLN.out; unfold maxLen at this; omega
  clear hP k1
  go_wp2
  go_loopw [19] (fun i wr => ∃ k : Nat, k ≤ d.loose.length ∧ i = .int .i64 k ∧ Hid (Pls wr w0.heap.size (.slice (some ⟨gP, 0, none⟩) (d.np + 3) cP) (d.np + 3) pv (prows d.np (crashRows keep (d.loose.take k) 0 d.rows)) ∧ Kept [] w0 wr)) (fun i _ => d.loose.length - (intOf i).toNat)
  case atStart => exact ⟨0, Nat.zero_le _, rfl, HP0⟩
  case round =>
    obtain ⟨k, hk, rfl, st⟩ := hrel
    by_cases hlt : k < d.loose.length
    · have hr := H0.out.kept st.out.2 (by simp) (by simp)
      have hfl : R.fs.length = d.loose.length := by have := hr.rowF.1; omega
      obtain ⟨f, hf⟩ : ∃ f, R.fs[k]? = some f := ⟨_, List.getElem?_eq_getElem (by omega)⟩
      obtain ⟨x, hx⟩ : ∃ x, d.loose[k]? = some x := ⟨_, List.getElem?_eq_getElem hlt⟩
      obtain ⟨xk, xb⟩ := x
      obtain ⟨gp, gb, vb, rfl, cap, hgp, hgb, hvb⟩ := hr.loose k f _ hf hx
      simp only at cap hgp hgb hvb
      obtain ⟨hxk, hxb⟩ := hr.ok.loose _ (List.mem_of_getElem? hx)
      simp only at hxk hxb
      have hrF := hr.rowF
      obtain ⟨gf, cf', ef', -⟩ := own_at8 hrF (by omega)
      rw [HE.out.2.1] at ef' hrF
      cases ef'
      have yf := (own_cell hrF hf).1
      unfold theWrite at yf
      have hpj := pix_lt hxk
      have hpl : pv.length = d.np + 3 := by have := st.out.1.row.1; omega
      obtain ⟨u, hu⟩ : ∃ u, pv[pix d.np xk]? = some u := ⟨_, List.getElem?_eq_getElem (by omega)⟩
      have hcu := (own_cell st.out.1.row hu).1
      obtain ⟨hsz, hrl⟩ := crashRows_sized keep (d.loose.take k) 0 d.rows hr.ok.row fun x hx => (hr.ok.loose x (List.mem_of_mem_take hx)).2
      rw [hr.ok.len] at hrl
      have hgd : (crashRows keep (d.loose.take k) 0 d.rows)[xk]? = some ((crashRows keep (d.loose.take k) 0 d.rows).getD xk []) := by
        rw [List.getD_eq_getElem?_getD, List.getElem?_eq_getElem (by rw [hrl]; exact hxk)]; rfl
      have hlen := hsz xk _ hgd
      have hou := st.out.1.fam.own (pix d.np xk) u _ hu (prows_at (crashRows keep (d.loose.take k) 0 d.rows) hxk)
      have b168 : xb.length ≤ 1000 := by rw [hxb]; have := sizeK_le d.np d.ns xk hr.ok.ns.2; omega
      have hkw : IntKind.i64.wrap (keepAt keep k) = keepAt keep k := by
        unfold keepAt
        rw [List.getD_eq_getElem?_getD]
        cases e : keep[k % keep.length]? with
        | none => exact wrap_i64_of (by show (-9223372036854775808 : Int) ≤ 0; omega) (by show (0 : Int) < _; omega)
        | some y => exact HK.out.wrap (List.mem_of_getElem? e)
      have ufar : ∀ y, u.ownBlock = some y → w0.heap.size ≤ y := fun y hy => own_ge hou y hy
      have zlt : ∀ y ∈ R.Z, y < w0.heap.size := fun y hy => (H0.out.frz y hy).2
      have hlay := write1_lays gp gb (pix d.np xk) vb xb gP (d.np + 3) cP w0.heap.size u _ (keepAt keep k) wr cap hpj (by have := hr.ok.np; omega) hcu hou (by rw [hxb, hlen]) (by rw [hlen]; exact sizeK_pos _ _ _) b168 hkw (fun y hy => ⟨fun e => by have := ufar y hy; have := zlt _ hgp; omega, fun e => by subst e; exact (st.out.1.fam.not8 (mem_blocks hu hy)).1 (own_not8 st.out.1.row (by decide) y rfl), fun e => by have := ufar y hy; have := zlt _ hgb; omega⟩)
      have hnx := pnext_any (.slice pk keep.length ck) keep k wr (HK.out.kept st.out.2) (by omega)
      have e4 : (over ((crashRows keep (d.loose.take k) 0 d.rows).getD xk []) 0 (xb.take (keepN (keepAt keep k) xb.length))).length = ((crashRows keep (d.loose.take k) 0 d.rows).getD xk []).length := over0_length (by rw [hxb, hlen]; exact Nat.le_refl _)
      rw [← e4] at hlay
      have ST : Hid (∀ (w4 : World), w4.ownsRow w0.heap.size 5 1 u (over ((crashRows keep (d.loose.take k) 0 d.rows).getD xk []) 0 (xb.take (keepN (keepAt keep k) xb.length))).length (u8s (over ((crashRows keep (d.loose.take k) 0 d.rows).getD xk []) 0 (xb.take (keepN (keepAt keep k) xb.length)))) → Kept u.ownBlock.toList wr w4 → Pls w4 w0.heap.size (.slice (some ⟨gP, 0, none⟩) (d.np + 3) cP) (d.np + 3) pv (prows d.np (crashRows keep (d.loose.take (k + 1)) 0 d.rows)) ∧ Kept [] w0 w4) := fun w4 o4 k4 => by
        refine ⟨?_, st.out.2.trans k4 (fun y hy => .inr (ufar y (by simpa using hy)))⟩
        rw [crash_take hx, crashLay_keep, prows_layR hrl hxk]
        exact st.out.1.lays hu o4 k4
      have hk' : (k : Int) < (d.loose.length : Int) := by omega
      have hk0 : (0 : Int) ≤ (k : Int) := by omega
      have wk : IntKind.i64.wrap ((k : Int) + 1) = (k : Int) + 1 := wrap_i64_of (by omega) (by omega)
      have y1 := st.out.2.cell (HB.out.1.cell (j := 1) rfl) (by simp)
      generalize keepAt keep k = kv at *
      clear hou hgd hlen hrl hsz hcu hu ufar zlt cap hvb hgp hgb hrF hx hf hxb hpl st hr e4 hkw b168 hpj hxk hfl
      go_wp2_with fail
      refine hnx.mono ?_
      rintro e w3 ⟨rfl, rfl⟩
      go_wp2_with fail
      refine hlay.mono ?_
      rintro e w4 ⟨rfl, o4, k4⟩
      have st4 := ST.out w4 o4 k4
      clear hlay hnx o4 k4 ST
      go_wp2
      go_roundw
      case rel => exact ⟨k + 1, by omega, by go_num, st4⟩
      case measure => simp [intOf]; omega
    · obtain rfl : k = d.loose.length := by omega
      have hk' : ¬ (d.loose.length : Int) < (d.loose.length : Int) := by omega
      have hr := H0.out.kept st.out.2 (by simp) (by simp)
      have hll := hr.ok.log
      have hlt := hr.ok.lasted
      have hlm := hr.ok.lm
      obtain ⟨q, hq⟩ : ∃ q, q = d.log.length - d.lasted := ⟨_, rfl⟩
      have e1 : IntKind.i64.wrap ((d.log.length : Int) - (d.lasted : Int)) = (q : Int) := by rw [show ((d.log.length : Int) - (d.lasted : Int)) = (q : Int) by omega]; exact wrap_i64_of (by omega) (by omega)
      have e2 : IntKind.i64.wrap ((q : Int) + 1) = (q : Int) + 1 := wrap_i64_of (by omega) (by omega)
      have hre := fun w' => prest_any c (q + 1) w' (by omega) (by omega)
      simp only [show (((q + 1 : Nat) : Int)) = (q : Int) + 1 by omega] at hre
      have hr1 := restN_lt c q
      obtain ⟨L, hL⟩ : ∃ L, L = crashLog d c := ⟨_, rfl⟩
      have eL : L = d.lasted + restN c (q + 1) := by rw [hL, hq]; rfl
      obtain ⟨rr, hrr⟩ : ∃ rr, rr = restN c (q + 1) := ⟨_, rfl⟩
      rw [← hrr] at hre hr1 eL
      have e3 : IntKind.i64.wrap ((d.lasted : Int) + (rr : Int)) = (L : Int) := by rw [show (d.lasted : Int) + (rr : Int) = (L : Int) by omega]; exact wrap_i64_of (by omega) (by omega)
      have hLl : L ≤ d.log.length := by omega
      have y0 := hr.blk.cell (j := 0) rfl
      have y1 := hr.blk.cell (j := 1) rfl
      have y2 := hr.blk.cell (j := 2) rfl
      have y6 := hr.blk.cell (j := 6) (v := R.vlog) rfl
      have y7 := hr.blk.cell (j := 7) rfl
      obtain ⟨-, -, -, hbl, -⟩ := hr.shapes
      rw [HE.out.2.2] at y6 hbl
      have yq := st.out.2.cell (HB.out.1.cell (j := 0) rfl) (by simp)
      obtain ⟨-, hcut, -, hbL, -⟩ := hbl.cuts (P := Try.prog) 25 5 Try.underlying25 (by kernel_rfl) L hLl
      have i0 : (0 : Int) ≤ (L : Int) := by omega
      have hla := fun W (kW : Kept [] wr W) => lasting_any (d.crash c keep) w0.heap.size (.slice (some ⟨gP, 0, none⟩) (d.np + 3) cP) (.slice plg L clg) pv W (hr.ok.crash c keep) ⟨rfl, rfl, rfl⟩ ⟨rfl, (by show crashLog d c = (d.log.take (crashLog d c)).length; rw [← hL, List.length_take]; omega)⟩ (by have := st.out.1.kept kW; rw [List.take_length] at this; exact this) (Nat.le_trans st.out.2.size kW.size) (by show Bs W _ (d.log.take (crashLog d c)); rw [← hL]; exact hbL.kept kW)
      have HLA : Hid (∀ W : World, Kept [] wr W → Calls Try.prog 31 #[.agg #[.int .i64 (d.np : Int), .int .i64 (d.ns : Int), .int .i64 (d.lm : Int)], .slice (some ⟨gP, 0, none⟩) (d.np + 3) cP, .slice plg L clg] W fun e w' => ∃ u, e = .returned u ∧ (∃ F, PD [] w' u (d.crash c keep) F ∧ (∀ x ∈ F, w0.heap.size ≤ x)) ∧ Kept [] W w') := hla
      have KK : Hid (Kept [] w wr ∧ w.heap.size ≤ w0.heap.size) := ⟨HB.out.2.then st.out.2, HB.out.2.size⟩
      clear hr hll hlt hlm hq hL eL hrr hr1 hbl hla st hbL hLl
      go_upto_region 7 with fail
      go_region_held3 (fun w' => w'.cell? ⟨g, 6, none⟩ = some (.slice plg d.log.length clg) ∧ w'.cell? ⟨g, 7, none⟩ = some (.int .i64 (d.lasted : Int)) ∧ w'.cell? ⟨w.heap.size, 0, none⟩ = some (.int .i64 c))
        (first
          | (with_reducible exact ⟨y6, y7, yq⟩)
          | (with_reducible exact ⟨(Kept.refl [] wr).drew.cell y6 (by simp), (Kept.refl [] wr).drew.cell y7 (by simp), (Kept.refl [] wr).drew.cell yq (by simp)⟩)
          | go_keep)
        (first
          | (go_at_call 39; refine (hre _).mono ?_; rintro e w5 ⟨rfl, rfl⟩)
          | fail)
      clear hre e1 e2 e3
      have kx : Kept [] wr wr.drew.drew := (Kept.refl [] wr).drew.drew
      go_upto_region 8 with fail
      go_region_held3 (fun w' => w'.cell? ⟨g, 0, none⟩ = some (.int .i64 (d.np : Int)) ∧ w'.cell? ⟨g, 1, none⟩ = some (.int .i64 (d.ns : Int)) ∧ w'.cell? ⟨g, 2, none⟩ = some (.int .i64 (d.lm : Int)) ∧ w'.cell? ⟨g, 6, none⟩ = some (.slice plg d.log.length clg))
        (first
          | (with_reducible exact ⟨kx.cell y0 (by simp), kx.cell y1 (by simp), kx.cell y2 (by simp), kx.cell y6 (by simp)⟩)
          | fail)
        (first
          | (go_at_call 31; refine (HLA.out _ kx).mono ?_; rintro e w6 ⟨u, rfl, ⟨F, hD, hF⟩, k6'⟩; replace kx := kx.then k6'; obtain ⟨gu, rfl⟩ := hD.ptr)
          | fail)
      have FIN : Hid (Born (PD []) w w6 (.pointer (some ⟨gu, 0, none⟩)) (d.crash c keep)) := ⟨F, hD, fun x hx => Nat.le_trans KK.out.2 (hF x hx), KK.out.1.then kx⟩
      clear hD hF kx k6' HLA y0 y1 y2 y6 y7 yq hcut
      go_wp2
      go_ret
      exact ⟨_, rfl, FIN.out⟩
end Go.Proofs.Ytmipmiaflompmab

/-
  OWN WORK. The program's disk, by its pointer and its foot: the blocks that are its own, and those that never change (its loose writes' own cells; a copy has them too). One form for all calls.
-/
namespace Go.Proofs.Ytmipmiaflompmab
open Go.RowKit
set_option linter.unusedVariables false

structure Foot where
  own : List Nat
  frz : List Nat
def Foot.all (F : Foot) : List Nat := F.own ++ F.frz
theorem Foot.mem_all {F : Foot} {x : Nat} : x ∈ F.all ↔ x ∈ F.own ∨ x ∈ F.frz := by unfold Foot.all; exact List.mem_append
theorem Foot.inOwn {F : Foot} {x : Nat} (h : x ∈ F.own) : x ∈ F.all := Foot.mem_all.2 (.inl h)
theorem Foot.inFrz {F : Foot} {x : Nat} (h : x ∈ F.frz) : x ∈ F.all := Foot.mem_all.2 (.inr h)
/-- a disk of the program's at v tells d; F: its foot -/
def PF (w : World) (v : Value) (d : DS) (F : Foot) : Prop := PD F.frz w v d F.own
/-- the own blocks of F turn, and F' is what is had then -/
def NextP (w w' : World) (F F' : Foot) : Prop := Kept F.own w w' ∧ (∀ x ∈ F'.own, x ∈ F.own ∨ w.heap.size ≤ x) ∧ ∀ x ∈ F'.frz, x ∈ F.frz ∨ w.heap.size ≤ x
theorem NextP.of {w w' : World} {F F' : List Nat} {Z Z' : List Nat} (h : Next w w' F F') (hz : Frz w Z Z') : NextP w w' ⟨F, Z⟩ ⟨F', Z'⟩ := ⟨h.1, h.2, hz⟩
theorem NextP.all {w w' : World} {F F' : Foot} (h : NextP w w' F F') : ∀ x ∈ F'.all, x ∈ F.all ∨ w.heap.size ≤ x := fun x hx => by
  rcases Foot.mem_all.1 hx with c | c
  · rcases h.2.1 x c with e | e
    · exact .inl (Foot.inOwn e)
    · exact .inr e
  · rcases h.2.2 x c with e | e
    · exact .inl (Foot.inFrz e)
    · exact .inr e
theorem NextP.after {w w1 w2 : World} {F F' : Foot} (h : NextP w1 w2 F F') (k : Kept [] w w1) : NextP w w2 F F' :=
  ⟨(k.mono (by simp)).trans h.1 (fun x hx => .inl hx), fun x hx => by have := k.size; rcases h.2.1 x hx with c | c; exact .inl c; exact .inr (by omega), fun x hx => by have := k.size; rcases h.2.2 x hx with c | c; exact .inl c; exact .inr (by omega)⟩
theorem NextP.trans {w w1 w2 : World} {F F' F'' : Foot} (h : NextP w w1 F F') (k : NextP w1 w2 F' F'') : NextP w w2 F F'' :=
  ⟨h.1.trans k.1 (fun x hx => h.2.1 x hx), fun x hx => by have := h.1.size; rcases k.2.1 x hx with c | c; exact h.2.1 x c; exact .inr (by omega), fun x hx => by have := h.1.size; rcases k.2.2 x hx with c | c; exact h.2.2 x c; exact .inr (by omega)⟩
theorem NextP.then {w w1 w2 : World} {F F' : Foot} (h : NextP w w1 F F') (k : Kept [] w1 w2) : NextP w w2 F F' :=
  ⟨h.1.trans k (by simp), h.2.1, h.2.2⟩
theorem PF.ptr {w : World} {v : Value} {d : DS} {F : Foot} (h : PF w v d F) : IsPtr v := PD.ptr h
theorem PF.ok {w : World} {v : Value} {d : DS} {F : Foot} (h : PF w v d F) : d.Ok := PD.ok h
theorem PF.lt {w : World} {v : Value} {d : DS} {F : Foot} (h : PF w v d F) : ∀ x ∈ F.all, x < w.heap.size := fun x hx => by
  rcases Foot.mem_all.1 hx with c | c
  · exact PD.lt h x c
  · exact (PD.frz h x c).2
theorem PF.own {w : World} {v : Value} {d : DS} {F : Foot} (h : PF w v d F) : ∀ x ∈ F.frz, x ∉ F.own := fun x hx => (PD.frz h x hx).1
theorem PF.kept {w w' : World} {v : Value} {d : DS} {F : Foot} {S : List Nat} (h : PF w v d F) (k : Kept S w w') (hS : ∀ x ∈ S, x ∉ F.all) : PF w' v d F := PD.kept h k (fun x hx hm => hS x hx (Foot.inOwn hm)) (fun x hx hm => hS x hx (Foot.inFrz hm))
/-- a disk made anew: what never changes of it lies in Z -/
def BornP (w w' : World) (v : Value) (d : DS) (Z : List Nat) : Prop := ∃ F : Foot, PF w' v d F ∧ (∀ x ∈ F.own, w.heap.size ≤ x) ∧ Kept [] w w' ∧ ∀ x ∈ F.frz, x ∈ Z
theorem BornP.of {w w' : World} {v : Value} {d : DS} {Z : List Nat} (h : Born (PD Z) w w' v d) : BornP w w' v d Z := by
  obtain ⟨F, h1, h2, h3⟩ := h
  exact ⟨⟨F, Z⟩, h1, h2, h3, fun x hx => hx⟩
def MadeP (w w' : World) (v : Value) (d : DS) (e : Int) : Prop := (e = 0 ∧ BornP w w' v d []) ∨ (e ≠ 0 ∧ v = .pointer none ∧ Kept [] w w')
theorem MadeP.of {w w' : World} {v : Value} {d : DS} {e : Int} (h : Made (PD []) w w' v d e) : MadeP w w' v d e := by
  rcases h with ⟨h1, h2⟩ | h
  · exact .inl ⟨h1, BornP.of h2⟩
  · exact .inr h
theorem fWritePage (v : Value) (d : DS) (F : Foot) (n : Int) (ub : Value) (b : List UInt8) (w : World) (h : PF w v d F) (hu : Bs w ub b) (hne : b ≠ [] → ∀ x, ub.ownBlock = some x → x ∉ F.own) (hcap : (d.loose.length + 1) * 40 ≤ 140737488355328) :
    Calls Try.prog 20 #[v, .int .i64 n, ub] w fun e w' => ∃ F', e = .returned (.int .i64 (writeE d (pageIx d.np n) b)) ∧ PF w' v (d.write (pageIx d.np n) b) F' ∧ NextP w w' F F' := by
  refine (pWritePage F.frz v d F.own n ub b w h hu hne hcap).mono ?_
  rintro e w' ⟨F', Z', h1, h2, h3, h4⟩
  exact ⟨⟨F', Z'⟩, h1, h2, NextP.of h3 h4⟩
theorem fWritePair (v : Value) (d : DS) (F : Foot) (ub : Value) (b : List UInt8) (w : World) (h : PF w v d F) (hu : Bs w ub b) (hne : b ≠ [] → ∀ x, ub.ownBlock = some x → x ∉ F.own) (hcap : (d.loose.length + 1) * 40 ≤ 140737488355328) :
    Calls Try.prog 64 #[v, ub] w fun e w' => ∃ F', e = .returned (.int .i64 (writeE d (some 0) b)) ∧ PF w' v (d.write (some 0) b) F' ∧ NextP w w' F F' := by
  refine (pWritePair F.frz v d F.own ub b w h hu hne hcap).mono ?_
  rintro e w' ⟨F', Z', h1, h2, h3, h4⟩
  exact ⟨⟨F', Z'⟩, h1, h2, NextP.of h3 h4⟩
theorem fWriteMaster (v : Value) (d : DS) (F : Foot) (n : Int) (ub : Value) (b : List UInt8) (w : World) (h : PF w v d F) (hu : Bs w ub b) (hne : b ≠ [] → ∀ x, ub.ownBlock = some x → x ∉ F.own) (hcap : (d.loose.length + 1) * 40 ≤ 140737488355328) :
    Calls Try.prog 65 #[v, .int .i64 n, ub] w fun e w' => ∃ F', e = .returned (.int .i64 (writeE d (masterIx d.np n) b)) ∧ PF w' v (d.write (masterIx d.np n) b) F' ∧ NextP w w' F F' := by
  refine (pWriteMaster F.frz v d F.own n ub b w h hu hne hcap).mono ?_
  rintro e w' ⟨F', Z', h1, h2, h3, h4⟩
  exact ⟨⟨F', Z'⟩, h1, h2, NextP.of h3 h4⟩
theorem fSync (v : Value) (d : DS) (F : Foot) (w : World) (h : PF w v d F) (hcap : d.loose.length * 40 ≤ 140737488355328) :
    Calls Try.prog 66 #[v] w fun e w' => ∃ F', e = .returned (.int .i64 (aliveE d)) ∧ PF w' v (d.sync false) F' ∧ NextP w w' F F' := by
  refine (pSync F.frz v d F.own w h hcap).mono ?_
  rintro e w' ⟨F', h1, h2, h3⟩
  exact ⟨⟨F', F.frz⟩, h1, h2, NextP.of h3 (Frz.refl _ _)⟩
theorem fSyncMasters (v : Value) (d : DS) (F : Foot) (w : World) (h : PF w v d F) (hcap : d.loose.length * 40 ≤ 140737488355328) :
    Calls Try.prog 68 #[v] w fun e w' => ∃ F', e = .returned (.int .i64 (aliveE d)) ∧ PF w' v (d.sync true) F' ∧ NextP w w' F F' := by
  refine (pSyncMasters F.frz v d F.own w h hcap).mono ?_
  rintro e w' ⟨F', h1, h2, h3⟩
  exact ⟨⟨F', F.frz⟩, h1, h2, NextP.of h3 (Frz.refl _ _)⟩
theorem fAppend (v : Value) (d : DS) (F : Foot) (ub : Value) (b : List UInt8) (w : World) (h : PF w v d F) (hu : Bs w ub b) (hne : b ≠ [] → ∀ x, ub.ownBlock = some x → x ∉ F.own) :
    Calls Try.prog 22 #[v, ub] w fun e w' => ∃ F', e = .returned (.int .i64 (appendE d b)) ∧ PF w' v (d.append b) F' ∧ NextP w w' F F' := by
  refine (pAppend F.frz v d F.own ub b w h hu hne).mono ?_
  rintro e w' ⟨F', h1, h2, h3⟩
  exact ⟨⟨F', F.frz⟩, h1, h2, NextP.of h3 (Frz.refl _ _)⟩
theorem fSyncLog (v : Value) (d : DS) (F : Foot) (w : World) (h : PF w v d F) :
    Calls Try.prog 70 #[v] w fun e w' => ∃ F', e = .returned (.int .i64 (aliveE d)) ∧ PF w' v (d.syncLog) F' ∧ NextP w w' F F' := by
  refine (pSyncLog F.frz v d F.own w h).mono ?_
  rintro e w' ⟨F', h1, h2, h3⟩
  exact ⟨⟨F', F.frz⟩, h1, h2, NextP.of h3 (Frz.refl _ _)⟩
theorem fCut (v : Value) (d : DS) (F : Foot) (n : Int) (w : World) (h : PF w v d F) :
    Calls Try.prog 72 #[v, .int .i64 n] w fun e w' => ∃ F', e = .returned (.int .i64 (cutE d n)) ∧ PF w' v (d.cut n) F' ∧ NextP w w' F F' := by
  refine (pCut F.frz v d F.own n w h).mono ?_
  rintro e w' ⟨F', h1, h2, h3⟩
  exact ⟨⟨F', F.frz⟩, h1, h2, NextP.of h3 (Frz.refl _ _)⟩
theorem fStop (v : Value) (d : DS) (F : Foot) (n : Int) (w : World) (h : PF w v d F) (hw : IntKind.i64.wrap n = n) :
    Calls Try.prog 44 #[v, .int .i64 n] w fun e w' => ∃ F', (∃ r, e = .returned r) ∧ PF w' v (d.halts n) F' ∧ NextP w w' F F' := by
  refine (pStop F.frz v d F.own n w h hw).mono ?_
  rintro e w' ⟨F', h1, h2, h3⟩
  exact ⟨⟨F', F.frz⟩, h1, h2, NextP.of h3 (Frz.refl _ _)⟩
theorem fReadPage (v : Value) (d : DS) (F : Foot) (n : Int) (w : World) (h : PF w v d F) :
    Calls Try.prog 19 #[v, .int .i64 n] w fun e w' => ∃ c F', e = .returned (.tuple #[c, .int .i64 (readE d (pageIx d.np n))]) ∧ w'.ownsRow w.heap.size 5 1 c (readL d (pageIx d.np n)).length (u8s (readL d (pageIx d.np n))) ∧ (∀ x, c.ownBlock = some x → x ∉ F'.all) ∧ PF w' v d.act F' ∧ NextP w w' F F' := by
  refine (pReadPage F.frz v d F.own n w h).mono ?_
  rintro e w' ⟨c, F', h1, h2, h3, h4, h5⟩
  exact ⟨c, ⟨F', F.frz⟩, h1, h2, fun x hx hm => (Foot.mem_all.1 hm).elim (h3 x hx) (fun hz => by have := own_ge h2 x hx; have := (PD.frz h x hz).2; omega), h4, NextP.of h5 (Frz.refl _ _)⟩
theorem fReadPair (v : Value) (d : DS) (F : Foot) (w : World) (h : PF w v d F) :
    Calls Try.prog 75 #[v] w fun e w' => ∃ c F', e = .returned (.tuple #[c, .int .i64 (readE d (some 0))]) ∧ w'.ownsRow w.heap.size 5 1 c (readL d (some 0)).length (u8s (readL d (some 0))) ∧ (∀ x, c.ownBlock = some x → x ∉ F'.all) ∧ PF w' v d.act F' ∧ NextP w w' F F' := by
  refine (pReadPair F.frz v d F.own w h).mono ?_
  rintro e w' ⟨c, F', h1, h2, h3, h4, h5⟩
  exact ⟨c, ⟨F', F.frz⟩, h1, h2, fun x hx hm => (Foot.mem_all.1 hm).elim (h3 x hx) (fun hz => by have := own_ge h2 x hx; have := (PD.frz h x hz).2; omega), h4, NextP.of h5 (Frz.refl _ _)⟩
theorem fReadMaster (v : Value) (d : DS) (F : Foot) (n : Int) (w : World) (h : PF w v d F) :
    Calls Try.prog 76 #[v, .int .i64 n] w fun e w' => ∃ c F', e = .returned (.tuple #[c, .int .i64 (readE d (masterIx d.np n))]) ∧ w'.ownsRow w.heap.size 5 1 c (readL d (masterIx d.np n)).length (u8s (readL d (masterIx d.np n))) ∧ (∀ x, c.ownBlock = some x → x ∉ F'.all) ∧ PF w' v d.act F' ∧ NextP w w' F F' := by
  refine (pReadMaster F.frz v d F.own n w h).mono ?_
  rintro e w' ⟨c, F', h1, h2, h3, h4, h5⟩
  exact ⟨c, ⟨F', F.frz⟩, h1, h2, fun x hx hm => (Foot.mem_all.1 hm).elim (h3 x hx) (fun hz => by have := own_ge h2 x hx; have := (PD.frz h x hz).2; omega), h4, NextP.of h5 (Frz.refl _ _)⟩
theorem fReadLog (v : Value) (d : DS) (F : Foot) (f n : Int) (w : World) (h : PF w v d F) :
    Calls Try.prog 25 #[v, .int .i64 f, .int .i64 n] w fun e w' => ∃ c F', e = .returned (.tuple #[c, .int .i64 (readLogE d f n)]) ∧ w'.ownsRow w.heap.size 5 1 c (readLogL d f n).length (u8s (readLogL d f n)) ∧ (∀ x, c.ownBlock = some x → x ∉ F'.all) ∧ PF w' v d.act F' ∧ NextP w w' F F' := by
  refine (pReadLog F.frz v d F.own f n w h).mono ?_
  rintro e w' ⟨c, F', h1, h2, h3, h4, h5⟩
  exact ⟨c, ⟨F', F.frz⟩, h1, h2, fun x hx hm => (Foot.mem_all.1 hm).elim (h3 x hx) (fun hz => by have := own_ge h2 x hx; have := (PD.frz h x hz).2; omega), h4, NextP.of h5 (Frz.refl _ _)⟩
theorem fActs (v : Value) (d : DS) (F : Foot) (w : World) (h : PF w v d F) :
    Calls Try.prog 23 #[v] w fun e w' => e = .returned (.int .i64 d.acts) ∧ Kept [] w w' := pActs F.frz v d F.own w h
theorem fDead (v : Value) (d : DS) (F : Foot) (w : World) (h : PF w v d F) :
    Calls Try.prog 52 #[v] w fun e w' => e = .returned (.bool d.dead) ∧ Kept [] w w' := pDead F.frz v d F.own w h
theorem fLogLen (v : Value) (d : DS) (F : Foot) (w : World) (h : PF w v d F) :
    Calls Try.prog 24 #[v] w fun e w' => e = .returned (.int .i64 (d.log.length : Int)) ∧ Kept [] w w' := pLogLen F.frz v d F.own w h
theorem fShape (v : Value) (d : DS) (F : Foot) (w : World) (h : PF w v d F) :
    Calls Try.prog 53 #[v] w fun e w' => e = .returned (.agg #[.int .i64 (d.np : Int), .int .i64 (d.ns : Int), .int .i64 (d.lm : Int)]) ∧ Kept [] w w' := pShape F.frz v d F.own w h
theorem fImage (v : Value) (d : DS) (F : Foot) (w : World) (h : PF w v d F) :
    Calls Try.prog 50 #[v] w fun e w' => ∃ V, e = .returned V.agg ∧ OwnIm w' w.heap.size V d.image ∧ Kept [] w w' := pImage F.frz v d F.own w h
theorem fLasts (v : Value) (d : DS) (F : Foot) (w : World) (h : PF w v d F) :
    Calls Try.prog 51 #[v] w fun e w' => ∃ V, e = .returned V.agg ∧ OwnIm w' w.heap.size V d.lasts ∧ Kept [] w w' := pLasts F.frz v d F.own w h
theorem fCopy (v : Value) (d : DS) (F : Foot) (w : World) (h : PF w v d F) (hcap : d.loose.length * 40 ≤ 140737488355328) :
    Calls Try.prog 46 #[v] w fun e w' => ∃ u, e = .returned u ∧ BornP w w' u d.copy F.frz := by
  refine (pCopy F.frz v d F.own w h hcap).mono ?_
  rintro e w' ⟨u, h1, h2⟩
  exact ⟨u, h1, BornP.of h2⟩
theorem fCrash (v : Value) (d : DS) (F : Foot) (c : Int) (vk : Value) (keep : List Int) (w : World) (h : PF w v d F) (hk : Is w vk keep) :
    Calls Try.prog 14 #[v, .agg #[.int .i64 c, vk]] w fun e w' => ∃ u, e = .returned u ∧ BornP w w' u (d.crash c keep) [] := by
  refine (pCrash F.frz v d F.own c vk keep w h hk).mono ?_
  rintro e w' ⟨u, h1, h2⟩
  exact ⟨u, h1, BornP.of h2⟩
theorem fNew (a b c : Int) (w : World) :
    Calls Try.prog 10 #[.agg #[.int .i64 a, .int .i64 b, .int .i64 c]] w fun e w' => ∃ u, e = .returned (.tuple #[u, .int .i64 (newE a b c)]) ∧ MadeP w w' u (newD a b c) (newE a b c) := by
  refine (pNew a b c w).mono ?_
  rintro e w' ⟨u, h1, h2⟩
  exact ⟨u, h1, MadeP.of h2⟩
theorem fLoad (a b c : Int) (V : IV) (m : IM) (w : World) (hV : SeeIm w V m) (hcap : (V.pv.length + 3) * 24 ≤ 140737488355328) :
    Calls Try.prog 6 #[.agg #[.int .i64 a, .int .i64 b, .int .i64 c], V.agg] w fun e w' => ∃ u, e = .returned (.tuple #[u, .int .i64 (loadE a b c m)]) ∧ MadeP w w' u (loadD a b c m) (loadE a b c m) := by
  refine (pLoad a b c V m w hV hcap).mono ?_
  rintro e w' ⟨u, h1, h2⟩
  exact ⟨u, h1, MadeP.of h2⟩
end Go.Proofs.Ytmipmiaflompmab

/-
  OWN WORK. What the laws of disk lean on: same, mod; both disks at once; writes, reads.
-/
namespace Go.Proofs.Ytmipmiaflompmab
open Go.RowKit
set_option linter.unusedVariables false

theorem Bs.text {w : World} {v : Value} {l : List UInt8} (h : Bs w v l) : (Go.convert 25 9 v).run Try.prog w = .ok (.string ⟨l.toArray⟩) w := h.convert Try.underlying25 Try.underlying5 Try.underlying9
theorem same_eq (u v : Value) (l : List UInt8) (w : World) (hu : Bs w u l) (hv : Bs w v l) :
    Calls Try.prog 17 #[u, v] w fun e w' => e = .returned (.bool true) ∧ w' = w := by
  have t1 := hu.text
  have t2 := hv.text
  go_enter Try.func17, Try.ntmps17
  go_wp2
  go_ret
  exact ⟨by simp, rfl⟩
theorem mod_any (n : Int) (m : Nat) (w : World) (hm : 0 < m) (hm2 : m ≤ 9223372036854775807) :
    Calls Try.prog 13 #[.int .i64 n, .int .i64 (m : Int)] w fun e w' => e = .returned (.int .i64 (restN n m : Int)) ∧ w' = w := by
  have h0 : ¬ (m : Int) = 0 := by omega
  have hp : (0 : Int) < (m : Int) := by omega
  have b1 := Int.tmod_lt_of_pos n hp
  have b2 := Int.lt_tmod_of_pos n hp
  have w1 : IntKind.i64.wrap (n.tmod (m : Int)) = n.tmod (m : Int) := wrap_i64_of (by omega) (by omega)
  rw [restN_int n m hm]
  by_cases c : n.tmod (m : Int) < 0
  · have w2 : IntKind.i64.wrap (n.tmod (m : Int) + (m : Int)) = n % (m : Int) := by rw [← tmod_neg hp c]; exact wrap_i64_of (by omega) (by omega)
    clear b1 b2 hm2
    go_enter Try.func13, Try.ntmps13
    go_wp2
    go_ret
    exact ⟨rfl, rfl⟩
  · have e := tmod_pos (n := n) hp (by omega)
    rw [← e]
    clear b1 b2 hm2 e
    go_enter Try.func13, Try.ntmps13
    go_wp2
    go_ret
    exact ⟨rfl, rfl⟩
/-- the program's disk and the document's tell the same, and have nothing in common -/
def Both (w : World) (v u : Value) (d : DS) (F : Foot) : Prop := ∃ (A : Foot) (B : List Nat), PF w v d A ∧ QD w u d B ∧ (∀ x ∈ A.all, x ∉ B) ∧ F = ⟨A.own ++ B, A.frz⟩
theorem Both.kept {w w' : World} {v u : Value} {d : DS} {F : Foot} {S : List Nat} (h : Both w v u d F) (k : Kept S w w') (hS : ∀ x ∈ S, x ∉ F.all) : Both w' v u d F := by
  obtain ⟨A, B, h1, h2, h3, rfl⟩ := h
  exact ⟨A, B, h1.kept k (fun x hx hm => hS x hx (by rcases Foot.mem_all.1 hm with c | c; exact Foot.inOwn (by simp [c]); exact Foot.inFrz (by simp [c]))), h2.kept k (fun x hx hm => hS x hx (Foot.inOwn (by simp [hm]))), h3, rfl⟩
theorem Both.lt {w : World} {v u : Value} {d : DS} {F : Foot} (h : Both w v u d F) : ∀ x ∈ F.all, x < w.heap.size := by
  obtain ⟨A, B, h1, h2, h3, rfl⟩ := h
  intro x hx
  rcases Foot.mem_all.1 hx with c | c
  · rcases List.mem_append.1 c with c | c
    · exact h1.lt x (Foot.inOwn c)
    · exact h2.lt x c
  · exact h1.lt x (Foot.inFrz c)
theorem Both.ok {w : World} {v u : Value} {d : DS} {F : Foot} (h : Both w v u d F) : d.Ok := by
  obtain ⟨A, B, h1, -⟩ := h
  exact h1.ok
theorem Both.own {w : World} {v u : Value} {d : DS} {F : Foot} (h : Both w v u d F) : ∀ x ∈ F.frz, x ∉ F.own := by
  obtain ⟨A, B, h1, h2, h3, rfl⟩ := h
  intro x hx hm
  rcases List.mem_append.1 hm with c | c
  · exact h1.own x hx c
  · exact h3 x (Foot.inFrz hx) c
/-- first the program's turns, then the document's -/
theorem both_step {w w1 w2 : World} {v u : Value} {d d' : DS} {A A' : Foot} {B B' : List Nat} (h1 : PF w1 v d' A') (x1 : NextP w w1 A A') (hq : QD w u d B) (hap : ∀ x ∈ A.all, x ∉ B) (h2 : QD w2 u d' B') (x2 : Next w1 w2 B B') : Both w2 v u d' ⟨A'.own ++ B', A'.frz⟩ ∧ NextP w w2 ⟨A.own ++ B, A.frz⟩ ⟨A'.own ++ B', A'.frz⟩ := by
  have hs := x1.1.size
  have hAB : ∀ x ∈ A'.all, x ∉ B := fun x hx hm => by
    rcases x1.all x hx with c | c
    · exact hap x c hm
    · have := hq.lt x hm; omega
  refine ⟨⟨A', B', h1.kept x2.1 (fun x hx hm => hAB x hm hx), h2, fun x hx hm => ?_, rfl⟩, (x1.1.mono (T := A.own ++ B) (by simp +contextual)).trans x2.1 (fun x hx => .inl (by simp [hx])), fun x hx => ?_, x1.2.2⟩
  · rcases x2.2 x hm with c | c
    · exact hAB x hx c
    · have := h1.lt x hx; omega
  · rcases List.mem_append.1 hx with c | c
    · rcases x1.2.1 x c with e | e
      · exact .inl (by simp [e])
      · exact .inr e
    · rcases x2.2 x c with e | e
      · exact .inl (by simp [e])
      · exact .inr (by omega)
/-- what a call of 'writes' answers, and what it makes -/
def isW (k : Int) : Bool := decide (k = 1) || decide (k = 3) || decide (k = 10) || decide (k = 4) || decide (k = 11) || decide (k = 6) || decide (k = 7) || decide (k = 8)
def wE (d : DS) (k n : Int) (b : List UInt8) : Int := if k = 1 then writeE d (pageIx d.np n) b else if k = 3 then writeE d (some 0) b else if k = 10 then writeE d (masterIx d.np n) b else if k = 4 then aliveE d else if k = 11 then aliveE d else if k = 6 then appendE d b else if k = 7 then aliveE d else if k = 8 then cutE d n else 0
def wD (d : DS) (k n : Int) (b : List UInt8) : DS := if k = 1 then d.write (pageIx d.np n) b else if k = 3 then d.write (some 0) b else if k = 10 then d.write (masterIx d.np n) b else if k = 4 then d.sync false else if k = 11 then d.sync true else if k = 6 then d.append b else if k = 7 then d.syncLog else if k = 8 then d.cut n else d
end Go.Proofs.Ytmipmiaflompmab

/-
  OWN WORK. The laws of disk: writes.
-/
namespace Go.Proofs.Ytmipmiaflompmab
open Go.RowKit
set_option linter.unusedVariables false

theorem Next.after {w w1 w2 : World} {F F' : List Nat} (h : Next w1 w2 F F') (k : Kept [] w w1) : Next w w2 F F' :=
  ⟨(k.mono (by simp)).trans h.1 (fun x hx => .inl hx), fun x hx => by have := k.size; rcases h.2 x hx with c | c; exact .inl c; exact .inr (by omega)⟩
set_option maxHeartbeats 800000 in
theorem writes_page (v u ub vk : Value) (d : DS) (F : Foot) (wh n m cl : Int) (b : List UInt8) (keep : List Int) (w : World) (h : Both w v u d F) (hb : Bs w ub b) (hk : Is w vk keep) (hne : b ≠ [] → ∀ x, ub.ownBlock = some x → x ∉ F.own) (hcap : (d.loose.length + 1) * 40 ≤ 140737488355328) :
    Calls Try.prog 48 #[v, u, .agg #[.int .i64 1, .int .i64 wh, .int .i64 n, .int .i64 m, ub, .int .i64 cl, vk]] w fun e w' => ∃ F', e = .returned (.tuple #[.int .i64 (wE d 1 n b), .int .i64 (wE d 1 n b), .bool (isW 1)]) ∧ Both w' v u (wD d 1 n b) F' ∧ NextP w w' F F' := by
  obtain ⟨A, B, hp, hq, hap, rfl⟩ := h
  obtain ⟨gv, rfl⟩ := hp.ptr
  obtain ⟨gu, rfl⟩ := hq.ptr
  obtain ⟨pb, cb, rfl, -⟩ := id hb
  obtain ⟨pk, ck, rfl, -⟩ := id hk
  have k0 := (Kept.refl [] w).alloc (.cells #[.int .i64 1, .int .i64 wh, .int .i64 n, .int .i64 m, .slice pb b.length cb, .int .i64 cl, .slice pk keep.length ck] 52)
  have bO := Blk.new w 52 [.int .i64 1, .int .i64 wh, .int .i64 n, .int .i64 m, .slice pb b.length cb, .int .i64 cl, .slice pk keep.length ck]
  have q0 := bO.cell (j := 0) rfl
  have q2 := bO.cell (j := 2) rfl
  have q4 := bO.cell (j := 4) rfl
  have nA : w.heap.size ∉ A.own := fun hm => by have := hp.lt _ (Foot.inOwn hm); omega
  have hP := fWritePage _ d A n (.slice pb b.length cb) b _ (hp.kept k0 (by simp)) (hb.kept k0) (fun h0 x hx hm => hne h0 x hx (by simp [hm])) hcap
  have hq1 := fun (w1 : World) (A' : Foot) (x1 : NextP (w.alloc (.cells #[.int .i64 1, .int .i64 wh, .int .i64 n, .int .i64 m, .slice pb b.length cb, .int .i64 cl, .slice pk keep.length ck] 52)) w1 A A') => qWrite _ d B 0 n (.slice pb b.length cb) b w1 ((hq.kept k0 (by simp)).kept x1.1 (fun x hx => hap x (Foot.inOwn hx))) ((hb.kept k0).keptNe x1.1 (fun h0 x hx hm => hne h0 x hx (by simp [hm]))) (fun h0 x hx hm => hne h0 x hx (by simp [hm])) hcap
  simp only [idxOf_page] at hq1
  have HQ : Hid (QD (w.alloc (.cells #[.int .i64 1, .int .i64 wh, .int .i64 n, .int .i64 m, .slice pb b.length cb, .int .i64 cl, .slice pk keep.length ck] 52)) _ d B) := hq.kept k0 (by simp)
  have HC : Hid ((d.loose.length + 1) * 40 ≤ 140737488355328) := hcap
  clear hcap hp hq hb hk bO hne
  go_enter Try.func48, Try.ntmps48
  go_wp2_with fail
  refine hP.mono ?_
  rintro e w1 ⟨A', rfl, p1, x1⟩
  have r2 := x1.1.cell q2 nA
  have r4 := x1.1.cell q4 nA
  have hQ := hq1 w1 A' x1
  clear hP hq1 q0 q2 q4
  go_wp2_with fail
  refine hQ.mono ?_
  rintro e w2 ⟨B', rfl, p2, x2⟩
  obtain ⟨f1, f2⟩ := both_step p1 x1 HQ.out hap p2 x2
  clear hQ p1 p2 r2 r4
  go_wp2
  go_returns
  exact ⟨_, rfl, f1, f2.after k0⟩
set_option maxHeartbeats 800000 in
theorem writes_pair (v u ub vk : Value) (d : DS) (F : Foot) (wh n m cl : Int) (b : List UInt8) (keep : List Int) (w : World) (h : Both w v u d F) (hb : Bs w ub b) (hk : Is w vk keep) (hne : b ≠ [] → ∀ x, ub.ownBlock = some x → x ∉ F.own) (hcap : (d.loose.length + 1) * 40 ≤ 140737488355328) :
    Calls Try.prog 48 #[v, u, .agg #[.int .i64 3, .int .i64 wh, .int .i64 n, .int .i64 m, ub, .int .i64 cl, vk]] w fun e w' => ∃ F', e = .returned (.tuple #[.int .i64 (wE d 3 n b), .int .i64 (wE d 3 n b), .bool (isW 3)]) ∧ Both w' v u (wD d 3 n b) F' ∧ NextP w w' F F' := by
  obtain ⟨A, B, hp, hq, hap, rfl⟩ := h
  obtain ⟨gv, rfl⟩ := hp.ptr
  obtain ⟨gu, rfl⟩ := hq.ptr
  obtain ⟨pb, cb, rfl, -⟩ := id hb
  obtain ⟨pk, ck, rfl, -⟩ := id hk
  have k0 := (Kept.refl [] w).alloc (.cells #[.int .i64 3, .int .i64 wh, .int .i64 n, .int .i64 m, .slice pb b.length cb, .int .i64 cl, .slice pk keep.length ck] 52)
  have bO := Blk.new w 52 [.int .i64 3, .int .i64 wh, .int .i64 n, .int .i64 m, .slice pb b.length cb, .int .i64 cl, .slice pk keep.length ck]
  have q0 := bO.cell (j := 0) rfl
  have q2 := bO.cell (j := 2) rfl
  have q4 := bO.cell (j := 4) rfl
  have nA : w.heap.size ∉ A.own := fun hm => by have := hp.lt _ (Foot.inOwn hm); omega
  have hP := fWritePair _ d A (.slice pb b.length cb) b _ (hp.kept k0 (by simp)) (hb.kept k0) (fun h0 x hx hm => hne h0 x hx (by simp [hm])) hcap
  have hq1 := fun (w1 : World) (A' : Foot) (x1 : NextP (w.alloc (.cells #[.int .i64 3, .int .i64 wh, .int .i64 n, .int .i64 m, .slice pb b.length cb, .int .i64 cl, .slice pk keep.length ck] 52)) w1 A A') => qWrite _ d B 1 0 (.slice pb b.length cb) b w1 ((hq.kept k0 (by simp)).kept x1.1 (fun x hx => hap x (Foot.inOwn hx))) ((hb.kept k0).keptNe x1.1 (fun h0 x hx hm => hne h0 x hx (by simp [hm]))) (fun h0 x hx hm => hne h0 x hx (by simp [hm])) hcap
  simp only [idxOf_pair] at hq1
  have HQ : Hid (QD (w.alloc (.cells #[.int .i64 3, .int .i64 wh, .int .i64 n, .int .i64 m, .slice pb b.length cb, .int .i64 cl, .slice pk keep.length ck] 52)) _ d B) := hq.kept k0 (by simp)
  have HC : Hid ((d.loose.length + 1) * 40 ≤ 140737488355328) := hcap
  clear hcap hp hq hb hk bO hne
  go_enter Try.func48, Try.ntmps48
  go_wp2_with fail
  refine hP.mono ?_
  rintro e w1 ⟨A', rfl, p1, x1⟩
  have r2 := x1.1.cell q2 nA
  have r4 := x1.1.cell q4 nA
  have hQ := hq1 w1 A' x1
  clear hP hq1 q0 q2 q4
  go_wp2_with fail
  refine hQ.mono ?_
  rintro e w2 ⟨B', rfl, p2, x2⟩
  obtain ⟨f1, f2⟩ := both_step p1 x1 HQ.out hap p2 x2
  clear hQ p1 p2 r2 r4
  go_wp2
  go_returns
  exact ⟨_, rfl, f1, f2.after k0⟩
set_option maxHeartbeats 800000 in
theorem writes_master (v u ub vk : Value) (d : DS) (F : Foot) (wh n m cl : Int) (b : List UInt8) (keep : List Int) (w : World) (h : Both w v u d F) (hb : Bs w ub b) (hk : Is w vk keep) (hne : b ≠ [] → ∀ x, ub.ownBlock = some x → x ∉ F.own) (hcap : (d.loose.length + 1) * 40 ≤ 140737488355328) :
    Calls Try.prog 48 #[v, u, .agg #[.int .i64 10, .int .i64 wh, .int .i64 n, .int .i64 m, ub, .int .i64 cl, vk]] w fun e w' => ∃ F', e = .returned (.tuple #[.int .i64 (wE d 10 n b), .int .i64 (wE d 10 n b), .bool (isW 10)]) ∧ Both w' v u (wD d 10 n b) F' ∧ NextP w w' F F' := by
  obtain ⟨A, B, hp, hq, hap, rfl⟩ := h
  obtain ⟨gv, rfl⟩ := hp.ptr
  obtain ⟨gu, rfl⟩ := hq.ptr
  obtain ⟨pb, cb, rfl, -⟩ := id hb
  obtain ⟨pk, ck, rfl, -⟩ := id hk
  have k0 := (Kept.refl [] w).alloc (.cells #[.int .i64 10, .int .i64 wh, .int .i64 n, .int .i64 m, .slice pb b.length cb, .int .i64 cl, .slice pk keep.length ck] 52)
  have bO := Blk.new w 52 [.int .i64 10, .int .i64 wh, .int .i64 n, .int .i64 m, .slice pb b.length cb, .int .i64 cl, .slice pk keep.length ck]
  have q0 := bO.cell (j := 0) rfl
  have q2 := bO.cell (j := 2) rfl
  have q4 := bO.cell (j := 4) rfl
  have nA : w.heap.size ∉ A.own := fun hm => by have := hp.lt _ (Foot.inOwn hm); omega
  have hP := fWriteMaster _ d A n (.slice pb b.length cb) b _ (hp.kept k0 (by simp)) (hb.kept k0) (fun h0 x hx hm => hne h0 x hx (by simp [hm])) hcap
  have hq1 := fun (w1 : World) (A' : Foot) (x1 : NextP (w.alloc (.cells #[.int .i64 10, .int .i64 wh, .int .i64 n, .int .i64 m, .slice pb b.length cb, .int .i64 cl, .slice pk keep.length ck] 52)) w1 A A') => qWrite _ d B 2 n (.slice pb b.length cb) b w1 ((hq.kept k0 (by simp)).kept x1.1 (fun x hx => hap x (Foot.inOwn hx))) ((hb.kept k0).keptNe x1.1 (fun h0 x hx hm => hne h0 x hx (by simp [hm]))) (fun h0 x hx hm => hne h0 x hx (by simp [hm])) hcap
  simp only [idxOf_master] at hq1
  have HQ : Hid (QD (w.alloc (.cells #[.int .i64 10, .int .i64 wh, .int .i64 n, .int .i64 m, .slice pb b.length cb, .int .i64 cl, .slice pk keep.length ck] 52)) _ d B) := hq.kept k0 (by simp)
  have HC : Hid ((d.loose.length + 1) * 40 ≤ 140737488355328) := hcap
  clear hcap hp hq hb hk bO hne
  go_enter Try.func48, Try.ntmps48
  go_wp2_with fail
  refine hP.mono ?_
  rintro e w1 ⟨A', rfl, p1, x1⟩
  have r2 := x1.1.cell q2 nA
  have r4 := x1.1.cell q4 nA
  have hQ := hq1 w1 A' x1
  clear hP hq1 q0 q2 q4
  go_wp2_with fail
  refine hQ.mono ?_
  rintro e w2 ⟨B', rfl, p2, x2⟩
  obtain ⟨f1, f2⟩ := both_step p1 x1 HQ.out hap p2 x2
  clear hQ p1 p2 r2 r4
  go_wp2
  go_returns
  exact ⟨_, rfl, f1, f2.after k0⟩
set_option maxHeartbeats 800000 in
theorem writes_sync (v u ub vk : Value) (d : DS) (F : Foot) (wh n m cl : Int) (b : List UInt8) (keep : List Int) (w : World) (h : Both w v u d F) (hb : Bs w ub b) (hk : Is w vk keep) (hne : b ≠ [] → ∀ x, ub.ownBlock = some x → x ∉ F.own) (hcap : (d.loose.length + 1) * 40 ≤ 140737488355328) :
    Calls Try.prog 48 #[v, u, .agg #[.int .i64 4, .int .i64 wh, .int .i64 n, .int .i64 m, ub, .int .i64 cl, vk]] w fun e w' => ∃ F', e = .returned (.tuple #[.int .i64 (wE d 4 n b), .int .i64 (wE d 4 n b), .bool (isW 4)]) ∧ Both w' v u (wD d 4 n b) F' ∧ NextP w w' F F' := by
  obtain ⟨A, B, hp, hq, hap, rfl⟩ := h
  obtain ⟨gv, rfl⟩ := hp.ptr
  obtain ⟨gu, rfl⟩ := hq.ptr
  obtain ⟨pb, cb, rfl, -⟩ := id hb
  obtain ⟨pk, ck, rfl, -⟩ := id hk
  have k0 := (Kept.refl [] w).alloc (.cells #[.int .i64 4, .int .i64 wh, .int .i64 n, .int .i64 m, .slice pb b.length cb, .int .i64 cl, .slice pk keep.length ck] 52)
  have bO := Blk.new w 52 [.int .i64 4, .int .i64 wh, .int .i64 n, .int .i64 m, .slice pb b.length cb, .int .i64 cl, .slice pk keep.length ck]
  have q0 := bO.cell (j := 0) rfl
  have q2 := bO.cell (j := 2) rfl
  have q4 := bO.cell (j := 4) rfl
  have nA : w.heap.size ∉ A.own := fun hm => by have := hp.lt _ (Foot.inOwn hm); omega
  have hP := fSync _ d A  _ (hp.kept k0 (by simp)) (by omega)
  have hq1 := fun (w1 : World) (A' : Foot) (x1 : NextP (w.alloc (.cells #[.int .i64 4, .int .i64 wh, .int .i64 n, .int .i64 m, .slice pb b.length cb, .int .i64 cl, .slice pk keep.length ck] 52)) w1 A A') => qSync _ d B false w1 ((hq.kept k0 (by simp)).kept x1.1 (fun x hx => hap x (Foot.inOwn hx))) (by omega)
  have HQ : Hid (QD (w.alloc (.cells #[.int .i64 4, .int .i64 wh, .int .i64 n, .int .i64 m, .slice pb b.length cb, .int .i64 cl, .slice pk keep.length ck] 52)) _ d B) := hq.kept k0 (by simp)
  have HC : Hid ((d.loose.length + 1) * 40 ≤ 140737488355328) := hcap
  clear hcap hp hq hb hk bO hne
  go_enter Try.func48, Try.ntmps48
  go_wp2_with fail
  refine hP.mono ?_
  rintro e w1 ⟨A', rfl, p1, x1⟩
  have r2 := x1.1.cell q2 nA
  have r4 := x1.1.cell q4 nA
  have hQ := hq1 w1 A' x1
  clear hP hq1 q0 q2 q4
  go_wp2_with fail
  refine hQ.mono ?_
  rintro e w2 ⟨B', rfl, p2, x2⟩
  obtain ⟨f1, f2⟩ := both_step p1 x1 HQ.out hap p2 x2
  clear hQ p1 p2 r2 r4
  go_wp2
  go_returns
  exact ⟨_, rfl, f1, f2.after k0⟩
set_option maxHeartbeats 800000 in
theorem writes_syncm (v u ub vk : Value) (d : DS) (F : Foot) (wh n m cl : Int) (b : List UInt8) (keep : List Int) (w : World) (h : Both w v u d F) (hb : Bs w ub b) (hk : Is w vk keep) (hne : b ≠ [] → ∀ x, ub.ownBlock = some x → x ∉ F.own) (hcap : (d.loose.length + 1) * 40 ≤ 140737488355328) :
    Calls Try.prog 48 #[v, u, .agg #[.int .i64 11, .int .i64 wh, .int .i64 n, .int .i64 m, ub, .int .i64 cl, vk]] w fun e w' => ∃ F', e = .returned (.tuple #[.int .i64 (wE d 11 n b), .int .i64 (wE d 11 n b), .bool (isW 11)]) ∧ Both w' v u (wD d 11 n b) F' ∧ NextP w w' F F' := by
  obtain ⟨A, B, hp, hq, hap, rfl⟩ := h
  obtain ⟨gv, rfl⟩ := hp.ptr
  obtain ⟨gu, rfl⟩ := hq.ptr
  obtain ⟨pb, cb, rfl, -⟩ := id hb
  obtain ⟨pk, ck, rfl, -⟩ := id hk
  have k0 := (Kept.refl [] w).alloc (.cells #[.int .i64 11, .int .i64 wh, .int .i64 n, .int .i64 m, .slice pb b.length cb, .int .i64 cl, .slice pk keep.length ck] 52)
  have bO := Blk.new w 52 [.int .i64 11, .int .i64 wh, .int .i64 n, .int .i64 m, .slice pb b.length cb, .int .i64 cl, .slice pk keep.length ck]
  have q0 := bO.cell (j := 0) rfl
  have q2 := bO.cell (j := 2) rfl
  have q4 := bO.cell (j := 4) rfl
  have nA : w.heap.size ∉ A.own := fun hm => by have := hp.lt _ (Foot.inOwn hm); omega
  have hP := fSyncMasters _ d A  _ (hp.kept k0 (by simp)) (by omega)
  have hq1 := fun (w1 : World) (A' : Foot) (x1 : NextP (w.alloc (.cells #[.int .i64 11, .int .i64 wh, .int .i64 n, .int .i64 m, .slice pb b.length cb, .int .i64 cl, .slice pk keep.length ck] 52)) w1 A A') => qSync _ d B true w1 ((hq.kept k0 (by simp)).kept x1.1 (fun x hx => hap x (Foot.inOwn hx))) (by omega)
  have HQ : Hid (QD (w.alloc (.cells #[.int .i64 11, .int .i64 wh, .int .i64 n, .int .i64 m, .slice pb b.length cb, .int .i64 cl, .slice pk keep.length ck] 52)) _ d B) := hq.kept k0 (by simp)
  have HC : Hid ((d.loose.length + 1) * 40 ≤ 140737488355328) := hcap
  clear hcap hp hq hb hk bO hne
  go_enter Try.func48, Try.ntmps48
  go_wp2_with fail
  refine hP.mono ?_
  rintro e w1 ⟨A', rfl, p1, x1⟩
  have r2 := x1.1.cell q2 nA
  have r4 := x1.1.cell q4 nA
  have hQ := hq1 w1 A' x1
  clear hP hq1 q0 q2 q4
  go_wp2_with fail
  refine hQ.mono ?_
  rintro e w2 ⟨B', rfl, p2, x2⟩
  obtain ⟨f1, f2⟩ := both_step p1 x1 HQ.out hap p2 x2
  clear hQ p1 p2 r2 r4
  go_wp2
  go_returns
  exact ⟨_, rfl, f1, f2.after k0⟩
set_option maxHeartbeats 800000 in
theorem writes_append (v u ub vk : Value) (d : DS) (F : Foot) (wh n m cl : Int) (b : List UInt8) (keep : List Int) (w : World) (h : Both w v u d F) (hb : Bs w ub b) (hk : Is w vk keep) (hne : b ≠ [] → ∀ x, ub.ownBlock = some x → x ∉ F.own) (hcap : (d.loose.length + 1) * 40 ≤ 140737488355328) :
    Calls Try.prog 48 #[v, u, .agg #[.int .i64 6, .int .i64 wh, .int .i64 n, .int .i64 m, ub, .int .i64 cl, vk]] w fun e w' => ∃ F', e = .returned (.tuple #[.int .i64 (wE d 6 n b), .int .i64 (wE d 6 n b), .bool (isW 6)]) ∧ Both w' v u (wD d 6 n b) F' ∧ NextP w w' F F' := by
  obtain ⟨A, B, hp, hq, hap, rfl⟩ := h
  obtain ⟨gv, rfl⟩ := hp.ptr
  obtain ⟨gu, rfl⟩ := hq.ptr
  obtain ⟨pb, cb, rfl, -⟩ := id hb
  obtain ⟨pk, ck, rfl, -⟩ := id hk
  have k0 := (Kept.refl [] w).alloc (.cells #[.int .i64 6, .int .i64 wh, .int .i64 n, .int .i64 m, .slice pb b.length cb, .int .i64 cl, .slice pk keep.length ck] 52)
  have bO := Blk.new w 52 [.int .i64 6, .int .i64 wh, .int .i64 n, .int .i64 m, .slice pb b.length cb, .int .i64 cl, .slice pk keep.length ck]
  have q0 := bO.cell (j := 0) rfl
  have q2 := bO.cell (j := 2) rfl
  have q4 := bO.cell (j := 4) rfl
  have nA : w.heap.size ∉ A.own := fun hm => by have := hp.lt _ (Foot.inOwn hm); omega
  have hP := fAppend _ d A (.slice pb b.length cb) b _ (hp.kept k0 (by simp)) (hb.kept k0) (fun h0 x hx hm => hne h0 x hx (by simp [hm]))
  have hq1 := fun (w1 : World) (A' : Foot) (x1 : NextP (w.alloc (.cells #[.int .i64 6, .int .i64 wh, .int .i64 n, .int .i64 m, .slice pb b.length cb, .int .i64 cl, .slice pk keep.length ck] 52)) w1 A A') => qAppend _ d B (.slice pb b.length cb) b w1 ((hq.kept k0 (by simp)).kept x1.1 (fun x hx => hap x (Foot.inOwn hx))) ((hb.kept k0).keptNe x1.1 (fun h0 x hx hm => hne h0 x hx (by simp [hm]))) (fun h0 x hx hm => hne h0 x hx (by simp [hm]))
  have HQ : Hid (QD (w.alloc (.cells #[.int .i64 6, .int .i64 wh, .int .i64 n, .int .i64 m, .slice pb b.length cb, .int .i64 cl, .slice pk keep.length ck] 52)) _ d B) := hq.kept k0 (by simp)
  have HC : Hid ((d.loose.length + 1) * 40 ≤ 140737488355328) := hcap
  clear hcap hp hq hb hk bO hne
  go_enter Try.func48, Try.ntmps48
  go_wp2_with fail
  refine hP.mono ?_
  rintro e w1 ⟨A', rfl, p1, x1⟩
  have r2 := x1.1.cell q2 nA
  have r4 := x1.1.cell q4 nA
  have hQ := hq1 w1 A' x1
  clear hP hq1 q0 q2 q4
  go_wp2_with fail
  refine hQ.mono ?_
  rintro e w2 ⟨B', rfl, p2, x2⟩
  obtain ⟨f1, f2⟩ := both_step p1 x1 HQ.out hap p2 x2
  clear hQ p1 p2 r2 r4
  go_wp2
  go_returns
  exact ⟨_, rfl, f1, f2.after k0⟩
set_option maxHeartbeats 800000 in
theorem writes_synclog (v u ub vk : Value) (d : DS) (F : Foot) (wh n m cl : Int) (b : List UInt8) (keep : List Int) (w : World) (h : Both w v u d F) (hb : Bs w ub b) (hk : Is w vk keep) (hne : b ≠ [] → ∀ x, ub.ownBlock = some x → x ∉ F.own) (hcap : (d.loose.length + 1) * 40 ≤ 140737488355328) :
    Calls Try.prog 48 #[v, u, .agg #[.int .i64 7, .int .i64 wh, .int .i64 n, .int .i64 m, ub, .int .i64 cl, vk]] w fun e w' => ∃ F', e = .returned (.tuple #[.int .i64 (wE d 7 n b), .int .i64 (wE d 7 n b), .bool (isW 7)]) ∧ Both w' v u (wD d 7 n b) F' ∧ NextP w w' F F' := by
  obtain ⟨A, B, hp, hq, hap, rfl⟩ := h
  obtain ⟨gv, rfl⟩ := hp.ptr
  obtain ⟨gu, rfl⟩ := hq.ptr
  obtain ⟨pb, cb, rfl, -⟩ := id hb
  obtain ⟨pk, ck, rfl, -⟩ := id hk
  have k0 := (Kept.refl [] w).alloc (.cells #[.int .i64 7, .int .i64 wh, .int .i64 n, .int .i64 m, .slice pb b.length cb, .int .i64 cl, .slice pk keep.length ck] 52)
  have bO := Blk.new w 52 [.int .i64 7, .int .i64 wh, .int .i64 n, .int .i64 m, .slice pb b.length cb, .int .i64 cl, .slice pk keep.length ck]
  have q0 := bO.cell (j := 0) rfl
  have q2 := bO.cell (j := 2) rfl
  have q4 := bO.cell (j := 4) rfl
  have nA : w.heap.size ∉ A.own := fun hm => by have := hp.lt _ (Foot.inOwn hm); omega
  have hP := fSyncLog _ d A  _ (hp.kept k0 (by simp))
  have hq1 := fun (w1 : World) (A' : Foot) (x1 : NextP (w.alloc (.cells #[.int .i64 7, .int .i64 wh, .int .i64 n, .int .i64 m, .slice pb b.length cb, .int .i64 cl, .slice pk keep.length ck] 52)) w1 A A') => qSyncLog _ d B w1 ((hq.kept k0 (by simp)).kept x1.1 (fun x hx => hap x (Foot.inOwn hx)))
  have HQ : Hid (QD (w.alloc (.cells #[.int .i64 7, .int .i64 wh, .int .i64 n, .int .i64 m, .slice pb b.length cb, .int .i64 cl, .slice pk keep.length ck] 52)) _ d B) := hq.kept k0 (by simp)
  have HC : Hid ((d.loose.length + 1) * 40 ≤ 140737488355328) := hcap
  clear hcap hp hq hb hk bO hne
  go_enter Try.func48, Try.ntmps48
  go_wp2_with fail
  refine hP.mono ?_
  rintro e w1 ⟨A', rfl, p1, x1⟩
  have r2 := x1.1.cell q2 nA
  have r4 := x1.1.cell q4 nA
  have hQ := hq1 w1 A' x1
  clear hP hq1 q0 q2 q4
  go_wp2_with fail
  refine hQ.mono ?_
  rintro e w2 ⟨B', rfl, p2, x2⟩
  obtain ⟨f1, f2⟩ := both_step p1 x1 HQ.out hap p2 x2
  clear hQ p1 p2 r2 r4
  go_wp2
  go_returns
  exact ⟨_, rfl, f1, f2.after k0⟩
set_option maxHeartbeats 800000 in
theorem writes_cut (v u ub vk : Value) (d : DS) (F : Foot) (wh n m cl : Int) (b : List UInt8) (keep : List Int) (w : World) (h : Both w v u d F) (hb : Bs w ub b) (hk : Is w vk keep) (hne : b ≠ [] → ∀ x, ub.ownBlock = some x → x ∉ F.own) (hcap : (d.loose.length + 1) * 40 ≤ 140737488355328) :
    Calls Try.prog 48 #[v, u, .agg #[.int .i64 8, .int .i64 wh, .int .i64 n, .int .i64 m, ub, .int .i64 cl, vk]] w fun e w' => ∃ F', e = .returned (.tuple #[.int .i64 (wE d 8 n b), .int .i64 (wE d 8 n b), .bool (isW 8)]) ∧ Both w' v u (wD d 8 n b) F' ∧ NextP w w' F F' := by
  obtain ⟨A, B, hp, hq, hap, rfl⟩ := h
  obtain ⟨gv, rfl⟩ := hp.ptr
  obtain ⟨gu, rfl⟩ := hq.ptr
  obtain ⟨pb, cb, rfl, -⟩ := id hb
  obtain ⟨pk, ck, rfl, -⟩ := id hk
  have k0 := (Kept.refl [] w).alloc (.cells #[.int .i64 8, .int .i64 wh, .int .i64 n, .int .i64 m, .slice pb b.length cb, .int .i64 cl, .slice pk keep.length ck] 52)
  have bO := Blk.new w 52 [.int .i64 8, .int .i64 wh, .int .i64 n, .int .i64 m, .slice pb b.length cb, .int .i64 cl, .slice pk keep.length ck]
  have q0 := bO.cell (j := 0) rfl
  have q2 := bO.cell (j := 2) rfl
  have q4 := bO.cell (j := 4) rfl
  have nA : w.heap.size ∉ A.own := fun hm => by have := hp.lt _ (Foot.inOwn hm); omega
  have hP := fCut _ d A n _ (hp.kept k0 (by simp))
  have hq1 := fun (w1 : World) (A' : Foot) (x1 : NextP (w.alloc (.cells #[.int .i64 8, .int .i64 wh, .int .i64 n, .int .i64 m, .slice pb b.length cb, .int .i64 cl, .slice pk keep.length ck] 52)) w1 A A') => qCut _ d B n w1 ((hq.kept k0 (by simp)).kept x1.1 (fun x hx => hap x (Foot.inOwn hx)))
  have HQ : Hid (QD (w.alloc (.cells #[.int .i64 8, .int .i64 wh, .int .i64 n, .int .i64 m, .slice pb b.length cb, .int .i64 cl, .slice pk keep.length ck] 52)) _ d B) := hq.kept k0 (by simp)
  have HC : Hid ((d.loose.length + 1) * 40 ≤ 140737488355328) := hcap
  clear hcap hp hq hb hk bO hne
  go_enter Try.func48, Try.ntmps48
  go_wp2_with fail
  refine hP.mono ?_
  rintro e w1 ⟨A', rfl, p1, x1⟩
  have r2 := x1.1.cell q2 nA
  have r4 := x1.1.cell q4 nA
  have hQ := hq1 w1 A' x1
  clear hP hq1 q0 q2 q4
  go_wp2_with fail
  refine hQ.mono ?_
  rintro e w2 ⟨B', rfl, p2, x2⟩
  obtain ⟨f1, f2⟩ := both_step p1 x1 HQ.out hap p2 x2
  clear hQ p1 p2 r2 r4
  go_wp2
  go_returns
  exact ⟨_, rfl, f1, f2.after k0⟩
theorem writes_none (v u ub vk : Value) (d : DS) (F : Foot) (wh n m cl : Int) (b : List UInt8) (keep : List Int) (w : World) (h : Both w v u d F) (hb : Bs w ub b) (hk : Is w vk keep) (hne : b ≠ [] → ∀ x, ub.ownBlock = some x → x ∉ F.own) (hcap : (d.loose.length + 1) * 40 ≤ 140737488355328) (K : Int) (h1 : ¬ K = 1) (h3 : ¬ K = 3) (h10 : ¬ K = 10) (h4 : ¬ K = 4) (h11 : ¬ K = 11) (h6 : ¬ K = 6) (h7 : ¬ K = 7) (h8 : ¬ K = 8) :
    Calls Try.prog 48 #[v, u, .agg #[.int .i64 K, .int .i64 wh, .int .i64 n, .int .i64 m, ub, .int .i64 cl, vk]] w fun e w' => ∃ F', e = .returned (.tuple #[.int .i64 (wE d K n b), .int .i64 (wE d K n b), .bool (isW K)]) ∧ Both w' v u (wD d K n b) F' ∧ NextP w w' F F' := by
  have e1 : wE d K n b = 0 := by unfold wE; rw [if_neg h1, if_neg h3, if_neg h10, if_neg h4, if_neg h11, if_neg h6, if_neg h7, if_neg h8]
  have e2 : wD d K n b = d := by unfold wD; rw [if_neg h1, if_neg h3, if_neg h10, if_neg h4, if_neg h11, if_neg h6, if_neg h7, if_neg h8]
  have e3 : isW K = false := by unfold isW; simp [h1, h3, h10, h4, h11, h6, h7, h8]
  rw [e1, e2, e3]
  obtain ⟨pb, cb, rfl, -⟩ := id hb
  obtain ⟨pk, ck, rfl, -⟩ := id hk
  have k0 := (Kept.refl [] w).alloc (.cells #[.int .i64 K, .int .i64 wh, .int .i64 n, .int .i64 m, .slice pb b.length cb, .int .i64 cl, .slice pk keep.length ck] 52)
  have bO := Blk.new w 52 [.int .i64 K, .int .i64 wh, .int .i64 n, .int .i64 m, .slice pb b.length cb, .int .i64 cl, .slice pk keep.length ck]
  have q0 := bO.cell (j := 0) rfl
  have fin := h.kept k0 (by simp)
  clear hcap hb hk bO hne h e1 e2 e3
  go_enter Try.func48, Try.ntmps48
  go_wp2
  go_returns
  exact ⟨_, rfl, fin, k0.mono (by simp), fun x hx => .inl hx, fun x hx => .inl hx⟩
theorem writes_any (v u ub vk : Value) (d : DS) (F : Foot) (wh n m cl : Int) (b : List UInt8) (keep : List Int) (w : World) (h : Both w v u d F) (hb : Bs w ub b) (hk : Is w vk keep) (hne : b ≠ [] → ∀ x, ub.ownBlock = some x → x ∉ F.own) (hcap : (d.loose.length + 1) * 40 ≤ 140737488355328) (K : Int) :
    Calls Try.prog 48 #[v, u, .agg #[.int .i64 K, .int .i64 wh, .int .i64 n, .int .i64 m, ub, .int .i64 cl, vk]] w fun e w' => ∃ F', e = .returned (.tuple #[.int .i64 (wE d K n b), .int .i64 (wE d K n b), .bool (isW K)]) ∧ Both w' v u (wD d K n b) F' ∧ NextP w w' F F' := by
  by_cases h1 : K = 1
  · subst h1; exact writes_page v u ub vk d F wh n m cl b keep w h hb hk hne hcap
  by_cases h3 : K = 3
  · subst h3; exact writes_pair v u ub vk d F wh n m cl b keep w h hb hk hne hcap
  by_cases h10 : K = 10
  · subst h10; exact writes_master v u ub vk d F wh n m cl b keep w h hb hk hne hcap
  by_cases h4 : K = 4
  · subst h4; exact writes_sync v u ub vk d F wh n m cl b keep w h hb hk hne hcap
  by_cases h11 : K = 11
  · subst h11; exact writes_syncm v u ub vk d F wh n m cl b keep w h hb hk hne hcap
  by_cases h6 : K = 6
  · subst h6; exact writes_append v u ub vk d F wh n m cl b keep w h hb hk hne hcap
  by_cases h7 : K = 7
  · subst h7; exact writes_synclog v u ub vk d F wh n m cl b keep w h hb hk hne hcap
  by_cases h8 : K = 8
  · subst h8; exact writes_cut v u ub vk d F wh n m cl b keep w h hb hk hne hcap
  exact writes_none v u ub vk d F wh n m cl b keep w h hb hk hne hcap K h1 h3 h10 h4 h11 h6 h7 h8
end Go.Proofs.Ytmipmiaflompmab

/-
  OWN WORK. The laws of disk: reads.
-/
namespace Go.Proofs.Ytmipmiaflompmab
open Go.RowKit
set_option linter.unusedVariables false

/-- what a call of 'reads' makes -/
def rD (d : DS) (k : Int) : DS := if k = 0 ∨ k = 2 ∨ k = 9 ∨ k = 5 then d.act else d
set_option maxHeartbeats 800000 in
theorem reads_page (v u ub vk : Value) (d : DS) (F : Foot) (wh n m cl : Int) (b : List UInt8) (keep : List Int) (w : World) (h : Both w v u d F) (hb : Bs w ub b) (hk : Is w vk keep) :
    Calls Try.prog 49 #[v, u, .agg #[.int .i64 0, .int .i64 wh, .int .i64 n, .int .i64 m, ub, .int .i64 cl, vk]] w fun e w' => ∃ F', e = .returned (.bool true) ∧ Both w' v u (rD d 0) F' ∧ NextP w w' F F' := by
  obtain ⟨A, B, hp, hq, hap, rfl⟩ := h
  obtain ⟨gv, rfl⟩ := hp.ptr
  obtain ⟨gu, rfl⟩ := hq.ptr
  obtain ⟨pb, cb, rfl, -⟩ := id hb
  obtain ⟨pk, ck, rfl, -⟩ := id hk
  have k0 := (Kept.refl [] w).alloc (.cells #[.int .i64 0, .int .i64 wh, .int .i64 n, .int .i64 m, .slice pb b.length cb, .int .i64 cl, .slice pk keep.length ck] 52)
  have bO := Blk.new w 52 [.int .i64 0, .int .i64 wh, .int .i64 n, .int .i64 m, .slice pb b.length cb, .int .i64 cl, .slice pk keep.length ck]
  have q0 := bO.cell (j := 0) rfl
  have q2 := bO.cell (j := 2) rfl
  have q3 := bO.cell (j := 3) rfl
  have nA : w.heap.size ∉ A.own := fun hm => by have := hp.lt _ (Foot.inOwn hm); omega
  have hP := fReadPage _ d A n _ (hp.kept k0 (by simp))
  have hq1 := fun (w1 : World) (A' : Foot) (x1 : NextP (w.alloc (.cells #[.int .i64 0, .int .i64 wh, .int .i64 n, .int .i64 m, .slice pb b.length cb, .int .i64 cl, .slice pk keep.length ck] 52)) w1 A A') => qRead _ d B 0 n w1 ((hq.kept k0 (by simp)).kept x1.1 (fun x hx => hap x (Foot.inOwn hx)))
  simp only [idxOf_page] at hq1
  have HQ : Hid (QD (w.alloc (.cells #[.int .i64 0, .int .i64 wh, .int .i64 n, .int .i64 m, .slice pb b.length cb, .int .i64 cl, .slice pk keep.length ck] 52)) _ d B) := hq.kept k0 (by simp)
  have hlB : ∀ x ∈ B, x < w.heap.size := hq.lt
  clear hp hq hb hk bO
  generalize readE d (pageIx d.np n) = E at *
  go_enter Try.func49, Try.ntmps49
  go_wp2_with fail
  refine hP.mono ?_
  rintro e w1 ⟨c1, A', rfl, o1, -, p1, x1⟩
  have r2 := x1.1.cell q2 nA
  have r3 := x1.1.cell q3 nA
  have hQ := hq1 w1 A' x1
  clear hP hq1 q0 q2 q3
  go_wp2_with fail
  refine hQ.mono ?_
  rintro e w2 ⟨c2, B', rfl, o2, -, p2, x2⟩
  obtain ⟨f1, f2⟩ := both_step p1 x1 HQ.out hap p2 x2
  have s1 : Bs w2 c1 _ := (Bs.ofOwn o1).keptOwn x2.1 (fun x hx hm => by have h1 := own_ge o1 x hx; have h2 := hlB x hm; have h3 := k0.size; omega)
  have hS := same_eq c1 c2 _ w2 s1 (Bs.ofOwn o2)
  obtain ⟨pc1, cc1, rfl⟩ := own_shape2 o1
  obtain ⟨pc2, cc2, rfl⟩ := own_shape2 o2
  clear hQ p1 p2 r2 r3 s1 o1 o2
  go_wp2_with fail
  refine hS.mono ?_
  rintro e w3 ⟨rfl, rfl⟩
  clear hS
  go_wp2
  go_ret
  exact ⟨_, by simp, f1, f2.after k0⟩
set_option maxHeartbeats 800000 in
theorem reads_pair (v u ub vk : Value) (d : DS) (F : Foot) (wh n m cl : Int) (b : List UInt8) (keep : List Int) (w : World) (h : Both w v u d F) (hb : Bs w ub b) (hk : Is w vk keep) :
    Calls Try.prog 49 #[v, u, .agg #[.int .i64 2, .int .i64 wh, .int .i64 n, .int .i64 m, ub, .int .i64 cl, vk]] w fun e w' => ∃ F', e = .returned (.bool true) ∧ Both w' v u (rD d 2) F' ∧ NextP w w' F F' := by
  obtain ⟨A, B, hp, hq, hap, rfl⟩ := h
  obtain ⟨gv, rfl⟩ := hp.ptr
  obtain ⟨gu, rfl⟩ := hq.ptr
  obtain ⟨pb, cb, rfl, -⟩ := id hb
  obtain ⟨pk, ck, rfl, -⟩ := id hk
  have k0 := (Kept.refl [] w).alloc (.cells #[.int .i64 2, .int .i64 wh, .int .i64 n, .int .i64 m, .slice pb b.length cb, .int .i64 cl, .slice pk keep.length ck] 52)
  have bO := Blk.new w 52 [.int .i64 2, .int .i64 wh, .int .i64 n, .int .i64 m, .slice pb b.length cb, .int .i64 cl, .slice pk keep.length ck]
  have q0 := bO.cell (j := 0) rfl
  have q2 := bO.cell (j := 2) rfl
  have q3 := bO.cell (j := 3) rfl
  have nA : w.heap.size ∉ A.own := fun hm => by have := hp.lt _ (Foot.inOwn hm); omega
  have hP := fReadPair _ d A  _ (hp.kept k0 (by simp))
  have hq1 := fun (w1 : World) (A' : Foot) (x1 : NextP (w.alloc (.cells #[.int .i64 2, .int .i64 wh, .int .i64 n, .int .i64 m, .slice pb b.length cb, .int .i64 cl, .slice pk keep.length ck] 52)) w1 A A') => qRead _ d B 1 0 w1 ((hq.kept k0 (by simp)).kept x1.1 (fun x hx => hap x (Foot.inOwn hx)))
  simp only [idxOf_pair] at hq1
  have HQ : Hid (QD (w.alloc (.cells #[.int .i64 2, .int .i64 wh, .int .i64 n, .int .i64 m, .slice pb b.length cb, .int .i64 cl, .slice pk keep.length ck] 52)) _ d B) := hq.kept k0 (by simp)
  have hlB : ∀ x ∈ B, x < w.heap.size := hq.lt
  clear hp hq hb hk bO
  generalize readE d (some 0) = E at *
  go_enter Try.func49, Try.ntmps49
  go_wp2_with fail
  refine hP.mono ?_
  rintro e w1 ⟨c1, A', rfl, o1, -, p1, x1⟩
  have r2 := x1.1.cell q2 nA
  have r3 := x1.1.cell q3 nA
  have hQ := hq1 w1 A' x1
  clear hP hq1 q0 q2 q3
  go_wp2_with fail
  refine hQ.mono ?_
  rintro e w2 ⟨c2, B', rfl, o2, -, p2, x2⟩
  obtain ⟨f1, f2⟩ := both_step p1 x1 HQ.out hap p2 x2
  have s1 : Bs w2 c1 _ := (Bs.ofOwn o1).keptOwn x2.1 (fun x hx hm => by have h1 := own_ge o1 x hx; have h2 := hlB x hm; have h3 := k0.size; omega)
  have hS := same_eq c1 c2 _ w2 s1 (Bs.ofOwn o2)
  obtain ⟨pc1, cc1, rfl⟩ := own_shape2 o1
  obtain ⟨pc2, cc2, rfl⟩ := own_shape2 o2
  clear hQ p1 p2 r2 r3 s1 o1 o2
  go_wp2_with fail
  refine hS.mono ?_
  rintro e w3 ⟨rfl, rfl⟩
  clear hS
  go_wp2
  go_ret
  exact ⟨_, by simp, f1, f2.after k0⟩
set_option maxHeartbeats 800000 in
theorem reads_master (v u ub vk : Value) (d : DS) (F : Foot) (wh n m cl : Int) (b : List UInt8) (keep : List Int) (w : World) (h : Both w v u d F) (hb : Bs w ub b) (hk : Is w vk keep) :
    Calls Try.prog 49 #[v, u, .agg #[.int .i64 9, .int .i64 wh, .int .i64 n, .int .i64 m, ub, .int .i64 cl, vk]] w fun e w' => ∃ F', e = .returned (.bool true) ∧ Both w' v u (rD d 9) F' ∧ NextP w w' F F' := by
  obtain ⟨A, B, hp, hq, hap, rfl⟩ := h
  obtain ⟨gv, rfl⟩ := hp.ptr
  obtain ⟨gu, rfl⟩ := hq.ptr
  obtain ⟨pb, cb, rfl, -⟩ := id hb
  obtain ⟨pk, ck, rfl, -⟩ := id hk
  have k0 := (Kept.refl [] w).alloc (.cells #[.int .i64 9, .int .i64 wh, .int .i64 n, .int .i64 m, .slice pb b.length cb, .int .i64 cl, .slice pk keep.length ck] 52)
  have bO := Blk.new w 52 [.int .i64 9, .int .i64 wh, .int .i64 n, .int .i64 m, .slice pb b.length cb, .int .i64 cl, .slice pk keep.length ck]
  have q0 := bO.cell (j := 0) rfl
  have q2 := bO.cell (j := 2) rfl
  have q3 := bO.cell (j := 3) rfl
  have nA : w.heap.size ∉ A.own := fun hm => by have := hp.lt _ (Foot.inOwn hm); omega
  have hP := fReadMaster _ d A n _ (hp.kept k0 (by simp))
  have hq1 := fun (w1 : World) (A' : Foot) (x1 : NextP (w.alloc (.cells #[.int .i64 9, .int .i64 wh, .int .i64 n, .int .i64 m, .slice pb b.length cb, .int .i64 cl, .slice pk keep.length ck] 52)) w1 A A') => qRead _ d B 2 n w1 ((hq.kept k0 (by simp)).kept x1.1 (fun x hx => hap x (Foot.inOwn hx)))
  simp only [idxOf_master] at hq1
  have HQ : Hid (QD (w.alloc (.cells #[.int .i64 9, .int .i64 wh, .int .i64 n, .int .i64 m, .slice pb b.length cb, .int .i64 cl, .slice pk keep.length ck] 52)) _ d B) := hq.kept k0 (by simp)
  have hlB : ∀ x ∈ B, x < w.heap.size := hq.lt
  clear hp hq hb hk bO
  generalize readE d (masterIx d.np n) = E at *
  go_enter Try.func49, Try.ntmps49
  go_wp2_with fail
  refine hP.mono ?_
  rintro e w1 ⟨c1, A', rfl, o1, -, p1, x1⟩
  have r2 := x1.1.cell q2 nA
  have r3 := x1.1.cell q3 nA
  have hQ := hq1 w1 A' x1
  clear hP hq1 q0 q2 q3
  go_wp2_with fail
  refine hQ.mono ?_
  rintro e w2 ⟨c2, B', rfl, o2, -, p2, x2⟩
  obtain ⟨f1, f2⟩ := both_step p1 x1 HQ.out hap p2 x2
  have s1 : Bs w2 c1 _ := (Bs.ofOwn o1).keptOwn x2.1 (fun x hx hm => by have h1 := own_ge o1 x hx; have h2 := hlB x hm; have h3 := k0.size; omega)
  have hS := same_eq c1 c2 _ w2 s1 (Bs.ofOwn o2)
  obtain ⟨pc1, cc1, rfl⟩ := own_shape2 o1
  obtain ⟨pc2, cc2, rfl⟩ := own_shape2 o2
  clear hQ p1 p2 r2 r3 s1 o1 o2
  go_wp2_with fail
  refine hS.mono ?_
  rintro e w3 ⟨rfl, rfl⟩
  clear hS
  go_wp2
  go_ret
  exact ⟨_, by simp, f1, f2.after k0⟩
set_option maxHeartbeats 800000 in
theorem reads_log (v u ub vk : Value) (d : DS) (F : Foot) (wh n m cl : Int) (b : List UInt8) (keep : List Int) (w : World) (h : Both w v u d F) (hb : Bs w ub b) (hk : Is w vk keep) :
    Calls Try.prog 49 #[v, u, .agg #[.int .i64 5, .int .i64 wh, .int .i64 n, .int .i64 m, ub, .int .i64 cl, vk]] w fun e w' => ∃ F', e = .returned (.bool true) ∧ Both w' v u (rD d 5) F' ∧ NextP w w' F F' := by
  obtain ⟨A, B, hp, hq, hap, rfl⟩ := h
  obtain ⟨gv, rfl⟩ := hp.ptr
  obtain ⟨gu, rfl⟩ := hq.ptr
  obtain ⟨pb, cb, rfl, -⟩ := id hb
  obtain ⟨pk, ck, rfl, -⟩ := id hk
  have k0 := (Kept.refl [] w).alloc (.cells #[.int .i64 5, .int .i64 wh, .int .i64 n, .int .i64 m, .slice pb b.length cb, .int .i64 cl, .slice pk keep.length ck] 52)
  have bO := Blk.new w 52 [.int .i64 5, .int .i64 wh, .int .i64 n, .int .i64 m, .slice pb b.length cb, .int .i64 cl, .slice pk keep.length ck]
  have q0 := bO.cell (j := 0) rfl
  have q2 := bO.cell (j := 2) rfl
  have q3 := bO.cell (j := 3) rfl
  have nA : w.heap.size ∉ A.own := fun hm => by have := hp.lt _ (Foot.inOwn hm); omega
  have hP := fReadLog _ d A n m _ (hp.kept k0 (by simp))
  have hq1 := fun (w1 : World) (A' : Foot) (x1 : NextP (w.alloc (.cells #[.int .i64 5, .int .i64 wh, .int .i64 n, .int .i64 m, .slice pb b.length cb, .int .i64 cl, .slice pk keep.length ck] 52)) w1 A A') => qReadLog _ d B n m w1 ((hq.kept k0 (by simp)).kept x1.1 (fun x hx => hap x (Foot.inOwn hx)))
  have HQ : Hid (QD (w.alloc (.cells #[.int .i64 5, .int .i64 wh, .int .i64 n, .int .i64 m, .slice pb b.length cb, .int .i64 cl, .slice pk keep.length ck] 52)) _ d B) := hq.kept k0 (by simp)
  have hlB : ∀ x ∈ B, x < w.heap.size := hq.lt
  clear hp hq hb hk bO
  generalize readLogE d n m = E at *
  go_enter Try.func49, Try.ntmps49
  go_wp2_with fail
  refine hP.mono ?_
  rintro e w1 ⟨c1, A', rfl, o1, -, p1, x1⟩
  have r2 := x1.1.cell q2 nA
  have r3 := x1.1.cell q3 nA
  have hQ := hq1 w1 A' x1
  clear hP hq1 q0 q2 q3
  go_wp2_with fail
  refine hQ.mono ?_
  rintro e w2 ⟨c2, B', rfl, o2, -, p2, x2⟩
  obtain ⟨f1, f2⟩ := both_step p1 x1 HQ.out hap p2 x2
  have s1 : Bs w2 c1 _ := (Bs.ofOwn o1).keptOwn x2.1 (fun x hx hm => by have h1 := own_ge o1 x hx; have h2 := hlB x hm; have h3 := k0.size; omega)
  have hS := same_eq c1 c2 _ w2 s1 (Bs.ofOwn o2)
  obtain ⟨pc1, cc1, rfl⟩ := own_shape2 o1
  obtain ⟨pc2, cc2, rfl⟩ := own_shape2 o2
  clear hQ p1 p2 r2 r3 s1 o1 o2
  go_wp2_with fail
  refine hS.mono ?_
  rintro e w3 ⟨rfl, rfl⟩
  clear hS
  go_wp2
  go_ret
  exact ⟨_, by simp, f1, f2.after k0⟩
theorem reads_none (v u ub vk : Value) (d : DS) (F : Foot) (wh n m cl : Int) (b : List UInt8) (keep : List Int) (w : World) (h : Both w v u d F) (hb : Bs w ub b) (hk : Is w vk keep) (K : Int) (h0 : ¬ K = 0) (h2 : ¬ K = 2) (h9 : ¬ K = 9) (h5 : ¬ K = 5) :
    Calls Try.prog 49 #[v, u, .agg #[.int .i64 K, .int .i64 wh, .int .i64 n, .int .i64 m, ub, .int .i64 cl, vk]] w fun e w' => ∃ F', e = .returned (.bool true) ∧ Both w' v u (rD d K) F' ∧ NextP w w' F F' := by
  have e2 : rD d K = d := by unfold rD; rw [if_neg (by omega)]
  rw [e2]
  obtain ⟨pb, cb, rfl, -⟩ := id hb
  obtain ⟨pk, ck, rfl, -⟩ := id hk
  have k0 := (Kept.refl [] w).alloc (.cells #[.int .i64 K, .int .i64 wh, .int .i64 n, .int .i64 m, .slice pb b.length cb, .int .i64 cl, .slice pk keep.length ck] 52)
  have bO := Blk.new w 52 [.int .i64 K, .int .i64 wh, .int .i64 n, .int .i64 m, .slice pb b.length cb, .int .i64 cl, .slice pk keep.length ck]
  have q0 := bO.cell (j := 0) rfl
  have fin := h.kept k0 (by simp)
  clear hb hk bO h e2
  go_enter Try.func49, Try.ntmps49
  go_wp2
  go_ret
  exact ⟨_, rfl, fin, k0.mono (by simp), fun x hx => .inl hx, fun x hx => .inl hx⟩
theorem reads_any (v u ub vk : Value) (d : DS) (F : Foot) (wh n m cl : Int) (b : List UInt8) (keep : List Int) (w : World) (h : Both w v u d F) (hb : Bs w ub b) (hk : Is w vk keep) (K : Int) :
    Calls Try.prog 49 #[v, u, .agg #[.int .i64 K, .int .i64 wh, .int .i64 n, .int .i64 m, ub, .int .i64 cl, vk]] w fun e w' => ∃ F', e = .returned (.bool true) ∧ Both w' v u (rD d K) F' ∧ NextP w w' F F' := by
  by_cases h0 : K = 0
  · subst h0; exact reads_page v u ub vk d F wh n m cl b keep w h hb hk
  by_cases h2 : K = 2
  · subst h2; exact reads_pair v u ub vk d F wh n m cl b keep w h hb hk
  by_cases h9 : K = 9
  · subst h9; exact reads_master v u ub vk d F wh n m cl b keep w h hb hk
  by_cases h5 : K = 5
  · subst h5; exact reads_log v u ub vk d F wh n m cl b keep w h hb hk
  exact reads_none v u ub vk d F wh n m cl b keep w h hb hk K h0 h2 h9 h5
end Go.Proofs.Ytmipmiaflompmab

/-
  OWN WORK. The laws of disk: sameImages.
-/
namespace Go.Proofs.Ytmipmiaflompmab
open Go.RowKit
set_option linter.unusedVariables false

theorem SeeIm.pageAt {w : World} {V : IV} {m : IM} (h : SeeIm w V m) {i : Nat} (hi : i < m.ps.length) : ∃ b o c v l, V.vp = .slice (some ⟨b, o, none⟩) m.ps.length c ∧ w.cell? ⟨b, o + i, none⟩ = some v ∧ m.ps[i]? = some l ∧ Bs w v l := by
  obtain ⟨p, c, e, h1, h2, h3, h4⟩ := h.vp
  have hl := h.len
  obtain ⟨v, hv⟩ : ∃ v, V.pv[i]? = some v := ⟨_, List.getElem?_eq_getElem (by omega)⟩
  obtain ⟨l, hll⟩ : ∃ l, m.ps[i]? = some l := ⟨_, List.getElem?_eq_getElem hi⟩
  cases p with
  | none => have := h4 rfl; omega
  | some a =>
    have hc := h3 a rfl i v hv
    have hs := spot_of_cell (h3 a rfl 0 V.pv[0] (List.getElem?_eq_getElem (by omega)))
    have hs' : a.spot = none := by
      unfold Addr.add at hs
      split at hs <;> simp_all
    rw [add_none hs'] at hc
    exact ⟨a.block, a.off, c, v, l, by rw [e, hl]; obtain ⟨b, o, s⟩ := a; simp at hs'; subst hs'; rfl, hc, hll, h.ps i v l hv hll⟩
set_option maxHeartbeats 3200000 in
theorem sameImages_eq (V U : IV) (m : IM) (w : World) (hV : SeeIm w V m) (hU : SeeIm w U m) :
    Calls Try.prog 54 #[V.agg, U.agg] w fun e w' => e = .returned (.bool true) ∧ Kept [] w w' := by
  have HV : Hid (SeeIm w V m) := hV
  have HU : Hid (SeeIm w U m) := hU
  obtain ⟨u0, v0, e0, l0, m0', -⟩ := hV.vp
  obtain ⟨u1, v1, e1, -⟩ := hV.pair
  obtain ⟨u2, v2, e2, -⟩ := hV.log
  obtain ⟨u3, v3, e3, -⟩ := hV.m0
  obtain ⟨u4, v4, e4, -⟩ := hV.m1
  obtain ⟨a0, b0, f0, -⟩ := hU.vp
  obtain ⟨a1, b1, f1, -⟩ := hU.pair
  obtain ⟨a2, b2, f2, -⟩ := hU.log
  obtain ⟨a3, b3, f3, -⟩ := hU.m0
  obtain ⟨a4, b4, f4, -⟩ := hU.m1
  rw [hV.len] at e0 l0
  rw [hU.len] at f0
  have hbig : m.ps.length ≤ 9223372036854775807 := by unfold maxLen at m0'; omega
  have HB : Hid (m.ps.length ≤ 9223372036854775807) := hbig
  clear l0 m0' hbig
  obtain ⟨w2, hw2⟩ : ∃ w2, w2 = (w.alloc (.cells #[V.vp, V.pair, V.log, V.m0, V.m1] 28)).alloc (.cells #[U.vp, U.pair, U.log, U.m0, U.m1] 28) := ⟨_, rfl⟩
  have k2 : Kept [] w w2 := by rw [hw2]; exact ((Kept.refl [] w).alloc _).alloc _
  have bV : Blk w2 w.heap.size 28 [V.vp, V.pair, V.log, V.m0, V.m1] := by
    rw [hw2]
    exact (Blk.new w _ _).kept ((Kept.refl [] _).alloc _) (by simp)
  have bU : Blk w2 (w.heap.size + 1) 28 [U.vp, U.pair, U.log, U.m0, U.m1] := by
    rw [hw2]
    have := Blk.new (w.alloc (.cells #[V.vp, V.pair, V.log, V.m0, V.m1] 28)) 28 [U.vp, U.pair, U.log, U.m0, U.m1]
    rwa [World.size_alloc] at this
  have hs1 := same_eq _ _ m.pair w2 (hV.pair.kept k2) (hU.pair.kept k2)
  have hs2 := same_eq _ _ m.log w2 (hV.log.kept k2) (hU.log.kept k2)
  have hs3 := same_eq _ _ m.m0 w2 (hV.m0.kept k2) (hU.m0.kept k2)
  have hs4 := same_eq _ _ m.m1 w2 (hV.m1.kept k2) (hU.m1.kept k2)
  obtain ⟨⟨i0, i1, i2, i3, i4⟩, -⟩ := bV.five
  obtain ⟨⟨j0, j1, j2, j3, j4⟩, -⟩ := bU.five
  have K2 : Hid (Kept [] w w2) := k2
  have HVP : Hid (V.vp = .slice u0 m.ps.length v0 ∧ U.vp = .slice a0 m.ps.length b0) := ⟨e0, f0⟩
  unfold IV.agg
  rw [e0, e1, e2, e3, e4, f0, f1, f2, f3, f4] at hw2
  rw [e0, e1, e2, e3, e4, f0, f1, f2, f3, f4]
  rw [e0] at i0
  rw [e1] at i1 hs1
  rw [e2] at i2 hs2
  rw [e3] at i3 hs3
  rw [e4] at i4 hs4
  rw [f0] at j0
  rw [f1] at j1 hs1
  rw [f2] at j2 hs2
  rw [f3] at j3 hs3
  rw [f4] at j4 hs4
  have HW2 : Hid (w2 = (w.alloc (.cells #[.slice u0 m.ps.length v0, .slice u1 m.pair.length v1, .slice u2 m.log.length v2, .slice u3 m.m0.length v3, .slice u4 m.m1.length v4] 28)).alloc (.cells #[.slice a0 m.ps.length b0, .slice a1 m.pair.length b1, .slice a2 m.log.length b2, .slice a3 m.m0.length b3, .slice a4 m.m1.length b4] 28)) := hw2
  rw [hw2] at i0 i1 i2 i3 i4 j0 j1 j2 j3 j4
  clear bV bU hV hU e0 e1 e2 e3 e4 f0 f1 f2 f3 f4 hw2 k2
  go_enter Try.func54, Try.ntmps54
  go_wp2_with fail
  rw [← HW2.out]
  refine hs1.mono ?_
  rintro e w2 ⟨rfl, rfl⟩
  rw [← HW2.out] at i0 i1 i2 i3 i4 j0 j1 j2 j3 j4
  go_wp2_with fail
  refine hs2.mono ?_
  rintro e w2 ⟨rfl, rfl⟩
  go_wp2_with fail
  refine hs3.mono ?_
  rintro e w2 ⟨rfl, rfl⟩
  go_wp2_with fail
  refine hs4.mono ?_
  rintro e w2 ⟨rfl, rfl⟩
  clear hs1 hs2 hs3 hs4 i1 i2 i3 i4 j1 j2 j3 j4
  go_wp2_with fail
  go_loopw [5] (fun i wr => ∃ t : Nat, t ≤ m.ps.length ∧ i = .int .i64 t ∧ Kept [] w2 wr) (fun i _ => m.ps.length - (intOf i).toNat)
  case atStart => exact ⟨0, Nat.zero_le _, rfl, Kept.refl _ _⟩
  case round =>
    obtain ⟨t, ht, rfl, kr⟩ := hrel
    have x0 := kr.cell i0 (by simp)
    have y0 := kr.cell j0 (by simp)
    by_cases hlt : t < m.ps.length
    · obtain ⟨gb, go, gc, gv, gl, q1, q2, q3, q4⟩ := HV.out.pageAt hlt
      obtain ⟨hb, ho, hc, hv, hl, r1, r2, r3, r4⟩ := HU.out.pageAt hlt
      rw [HVP.out.1] at q1
      rw [HVP.out.2] at r1
      cases q1
      cases r1
      obtain rfl : gl = hl := Option.some.inj (q3.symm.trans r3)
      have kk := K2.out.then kr
      have p1 := kk.cell q2 (by simp)
      have p2 := kk.cell r2 (by simp)
      have hs := fun (w' : World) (k : Kept [] w w') => same_eq gv hv gl w' (q4.kept k) (r4.kept k)
      obtain ⟨z1, z2, rfl, -⟩ := id q4
      obtain ⟨z3, z4, rfl, -⟩ := id r4
      have hlt' : (t : Int) < (m.ps.length : Int) := by omega
      have wk : IntKind.i64.wrap ((t : Int) + 1) = (t : Int) + 1 := wrap_i64_of (by omega) (by have := HB.out; omega)
      clear q2 q3 q4 r2 r3 r4
      go_wp2
      go_region_held3 (fun w' => w'.cell? ⟨w.heap.size, 0, none⟩ = some (.slice (some ⟨gb, go, none⟩) m.ps.length v0) ∧ w'.cell? ⟨w.heap.size + 1, 0, none⟩ = some (.slice (some ⟨hb, ho, none⟩) m.ps.length b0) ∧ w'.cell? ⟨gb, go + t, none⟩ = some (.slice z1 gl.length z2) ∧ w'.cell? ⟨hb, ho + t, none⟩ = some (.slice z3 gl.length z4))
        (first | (exact ⟨x0, y0, p1, p2⟩) | go_keep)
        (first
          | (go_at_call 17; refine (hs _ (by exact kk.drew)).mono ?_; rintro e w5 ⟨rfl, rfl⟩)
          | fail)
      clear hs
      go_wp2
      go_roundw
      case rel => exact ⟨t + 1, by omega, by go_num, kr.drew⟩
      case measure => simp [intOf]; omega
    · have hlt' : ¬ (t : Int) < (m.ps.length : Int) := by omega
      go_wp2
      go_ret
      exact ⟨rfl, K2.out.then kr⟩
end Go.Proofs.Ytmipmiaflompmab

/-
  OWN WORK. The laws of disk: a book of disks.
-/
namespace Go.Proofs.Ytmipmiaflompmab
open Go.RowKit
set_option linter.unusedVariables false

/-- two disks of a book, what they tell, their blocks -/
structure Ent where
  v : Value
  u : Value
  d : DS
  F : Foot
/-- neither turns what the other has -/
def Far (A B : Foot) : Prop := (∀ x ∈ A.own, x ∉ B.all) ∧ ∀ x ∈ B.own, x ∉ A.all
theorem Far.symm {A B : Foot} (h : Far A B) : Far B A := ⟨h.2, h.1⟩
theorem Far.next {w w' : World} {A B B' : Foot} (h : Far A B) (hA : ∀ x ∈ A.all, x < w.heap.size) (hx : NextP w w' B B') : Far A B' :=
  ⟨fun x hx1 hx2 => by
    rcases hx.all x hx2 with c | c
    · exact h.1 x hx1 c
    · have := hA x (Foot.inOwn hx1); omega, fun x hx1 hx2 => by
    rcases hx.2.1 x hx1 with c | c
    · exact h.2 x c hx2
    · have := hA x hx2; omega⟩
/-- the book at block g; all of it lies from base on -/
structure Book (base : Nat) (w : World) (g : Nat) (vD vR : Value) (E : List Ent) : Prop where
  blk : Blk w g 47 [vD, vR]
  rowD : w.ownsRow base 32 1 vD E.length (E.map (·.v))
  rowR : w.ownsRow base 36 1 vR E.length (E.map (·.u))
  both : ∀ e ∈ E, Both w e.v e.u e.d e.F
  apart : E.Pairwise fun a b => Far a.F b.F
  own : ∀ e ∈ E, g ∉ e.F.all ∧ (∀ x, vD.ownBlock = some x → x ∉ e.F.all) ∧ (∀ x, vR.ownBlock = some x → x ∉ e.F.all)
  low : base ≤ g ∧ ∀ e ∈ E, ∀ x ∈ e.F.all, base ≤ x
theorem own_differ {w : World} {b1 b2 e1 e2 n1 n2 : Nat} {v1 v2 : Value} {xs ys : List Value} (h1 : w.ownsRow b1 e1 1 v1 n1 xs) (h2 : w.ownsRow b2 e2 1 v2 n2 ys) (he : e1 ≠ e2) {x : Nat} (hx : v1.ownBlock = some x) : v2.ownBlock ≠ some x := by
  intro hy
  rcases h1.2 with ⟨rfl, _⟩ | ⟨g1, cap1, cur1, rfl, -, a1, -⟩
  · cases hx
  · rcases h2.2 with ⟨rfl, _⟩ | ⟨g2, cap2, cur2, rfl, -, a2, -⟩
    · cases hy
    · simp [Value.ownBlock] at hx hy
      subst hx
      subst hy
      rw [a1] at a2
      simp at a2
      exact he a2.2
theorem own_at {w : World} {base e n : Nat} {v : Value} {xs : List Value} (h : w.ownsRow base e 1 v n xs) (hn : 0 < n) : ∃ g c, v = .slice (some ⟨g, 0, none⟩) n c ∧ n ≤ c ∧ c ≤ maxLen ∧ ∀ (j : Nat) u, xs[j]? = some u → w.cell? ⟨g, j, none⟩ = some u := by
  rcases h.2 with ⟨-, e0⟩ | ⟨g, cap, cur, rfl, -, h2, h3, h4, -, h5⟩
  · omega
  · refine ⟨g, cap, rfl, h3, h4, fun j u hj => ?_⟩
    rw [← h5, List.getElem?_take] at hj
    split at hj
    · simp [World.cell?, h2]
      simpa using hj
    · cases hj
/-- a pair of disks turns -/
theorem Book.step {base g i : Nat} {w w' : World} {vD vR : Value} {E : List Ent} {e : Ent} {d' : DS} {F' : Foot} (h : Book base w g vD vR E) (hi : E[i]? = some e) (hB : Both w' e.v e.u d' F') (hx : NextP w w' e.F F') : Book base w' g vD vR (E.set i ⟨e.v, e.u, d', F'⟩) := by
  have he : e ∈ E := List.mem_of_getElem? hi
  obtain ⟨hil, hie⟩ := List.getElem?_eq_some_iff.1 hi
  have hb0 : base ≤ w.heap.size := Nat.le_trans h.low.1 (Nat.le_of_lt h.blk.lt)
  obtain ⟨o1, o2, o3⟩ := h.own e he
  have emap : ∀ (f : Ent → Value), f ⟨e.v, e.u, d', F'⟩ = f e → (E.set i ⟨e.v, e.u, d', F'⟩).map f = E.map f := fun f hf => by
    apply List.ext_getElem?
    intro j
    rw [List.getElem?_map, List.getElem?_map, List.getElem?_set]
    by_cases c : i = j
    · subst c
      rw [if_pos rfl, if_pos hil, hi]
      simp [hf]
    · rw [if_neg c]
  -- the others are apart from e
  have hap : ∀ j (a : Ent), E[j]? = some a → j ≠ i → Far a.F e.F := fun j a hj hne => by
    obtain ⟨hjl, hje⟩ := List.getElem?_eq_some_iff.1 hj
    rcases Nat.lt_or_gt_of_ne hne with c | c
    · have := (List.pairwise_iff_getElem.1 h.apart) j i hjl hil c
      rw [hje, hie] at this
      exact this
    · have := (List.pairwise_iff_getElem.1 h.apart) i j hil hjl c
      rw [hje, hie] at this
      exact this.symm
  have hap2 : ∀ j (a : Ent), E[j]? = some a → j ≠ i → Far a.F F' := fun j a hj hne => (hap j a hj hne).next (h.both a (List.mem_of_getElem? hj)).lt hx
  have mem : ∀ a ∈ E.set i ⟨e.v, e.u, d', F'⟩, a = ⟨e.v, e.u, d', F'⟩ ∨ ∃ j, j ≠ i ∧ E[j]? = some a := fun a ha => by
    obtain ⟨j, hj⟩ := List.getElem?_of_mem ha
    rw [List.getElem?_set] at hj
    by_cases c : i = j
    · rw [if_pos c] at hj
      rw [if_pos hil] at hj
      left
      exact (Option.some.inj hj).symm
    · rw [if_neg c] at hj
      exact .inr ⟨j, fun e => c e.symm, hj⟩
  refine ⟨h.blk.kept hx.1 (fun hm => o1 (Foot.inOwn hm)), ?_, ?_, fun a ha => ?_, ?_, fun a ha => ?_, h.low.1, fun a ha x hxa => ?_⟩
  · rw [List.length_set, emap _ rfl]
    exact own_of_kept h.rowD hx.1 (fun x h1 h2 => o2 x h1 (Foot.inOwn h2))
  · rw [List.length_set, emap _ rfl]
    exact own_of_kept h.rowR hx.1 (fun x h1 h2 => o3 x h1 (Foot.inOwn h2))
  · rcases mem a ha with rfl | ⟨j, hj, hja⟩
    · exact hB
    · exact (h.both a (List.mem_of_getElem? hja)).kept hx.1 (fun x hx1 hx2 => (hap j a hja hj).2 x hx1 hx2)
  · rw [List.pairwise_iff_getElem]
    intro j k hj hk hjk
    simp only [List.length_set] at hj hk
    rw [List.getElem_set, List.getElem_set]
    by_cases c1 : i = j
    · rw [if_pos c1, if_neg (by omega)]
      exact (hap2 k _ (List.getElem?_eq_getElem hk) (by omega)).symm
    · rw [if_neg c1]
      by_cases c2 : i = k
      · rw [if_pos c2]
        exact hap2 j _ (List.getElem?_eq_getElem hj) (fun e => c1 e.symm)
      · rw [if_neg c2]
        exact (List.pairwise_iff_getElem.1 h.apart) j k hj hk hjk
  · rcases mem a ha with rfl | ⟨j, hj, hja⟩
    · refine ⟨fun hm => ?_, fun x hx1 hm => ?_, fun x hx1 hm => ?_⟩
      · rcases hx.all g hm with c | c
        · exact o1 c
        · have := h.blk.lt; omega
      · rcases hx.all x hm with c | c
        · exact o2 x hx1 c
        · have := own_lt h.rowD x hx1; omega
      · rcases hx.all x hm with c | c
        · exact o3 x hx1 c
        · have := own_lt h.rowR x hx1; omega
    · exact h.own a (List.mem_of_getElem? hja)
  · rcases mem a ha with rfl | ⟨j, hj, hja⟩
    · rcases hx.all x hxa with c | c
      · exact h.low.2 e he x c
      · omega
    · exact h.low.2 a (List.mem_of_getElem? hja) x hxa
/-- nothing of it is touched -/
theorem Book.kept {base g : Nat} {w w' : World} {vD vR : Value} {E : List Ent} {S : List Nat} (h : Book base w g vD vR E) (k : Kept S w w') (hS : ∀ x ∈ S, x < base) : Book base w' g vD vR E := by
  have n1 := h.low
  refine ⟨h.blk.kept k (fun hm => by have := hS g hm; omega), own_of_kept h.rowD k (fun x hx hm => by have := own_ge h.rowD x hx; have := hS x hm; omega), own_of_kept h.rowR k (fun x hx hm => by have := own_ge h.rowR x hx; have := hS x hm; omega), fun e he => (h.both e he).kept k (fun x hx hm => by have := n1.2 e he x hm; have := hS x hx; omega), h.apart, h.own, h.low⟩
/-- where the pointers lie -/
theorem Book.at {base g i : Nat} {w : World} {vD vR : Value} {E : List Ent} {e : Ent} (h : Book base w g vD vR E) (hi : E[i]? = some e) :
    ∃ bD cD bR cR, vD = .slice (some ⟨bD, 0, none⟩) E.length cD ∧ vR = .slice (some ⟨bR, 0, none⟩) E.length cR ∧ w.cell? ⟨bD, i, none⟩ = some e.v ∧ w.cell? ⟨bR, i, none⟩ = some e.u ∧ w.cell? ⟨g, 0, none⟩ = some vD ∧ w.cell? ⟨g, 1, none⟩ = some vR := by
  obtain ⟨hil, hie⟩ := List.getElem?_eq_some_iff.1 hi
  obtain ⟨bD, cD, rfl, -, -, hD⟩ := own_at h.rowD (by omega)
  obtain ⟨bR, cR, rfl, -, -, hR⟩ := own_at h.rowR (by omega)
  refine ⟨bD, cD, bR, cR, rfl, rfl, ?_, ?_, h.blk.cell (j := 0) rfl, h.blk.cell (j := 1) rfl⟩
  · exact hD i _ (by rw [List.getElem?_map, hi]; rfl)
  · exact hR i _ (by rw [List.getElem?_map, hi]; rfl)
end Go.Proofs.Ytmipmiaflompmab

/-
  OWN WORK. DiskKeeps: over: an image's lists are written over by their owner.
-/
namespace Go.Proofs.Ytmipmiaflompmab
open Go.RowKit
set_option linter.unusedVariables false
set_option linter.unusedSimpArgs false

theorem wrap_u8c {x : Nat} (h : x < 2 ^ 8) : IntKind.u8.wrap (x : Int) = (x : Int) := by
  simp only [IntKind.wrap, IntKind.bits, IntKind.signed]
  have : 2 ^ 8 = 256 := by decide
  simp
  omega
theorem xor5a (y : UInt8) : bits .xor .u8 (y.toNat : Int) 90 = ((y ^^^ 0x5a).toNat : Int) := by
  have h1 : (BitVec.ofInt 8 (y.toNat : Int)).toNat = y.toNat := by
    rw [BitVec.ofInt_natCast, BitVec.toNat_ofNat]; exact Nat.mod_eq_of_lt y.toNat_lt
  have h2 : (BitVec.ofInt 8 (90 : Int)).toNat = 90 := by decide
  show IntKind.u8.wrap ((BitVec.ofInt 8 (y.toNat : Int) ^^^ BitVec.ofInt 8 (90 : Int)).toNat : Int) = _
  rw [BitVec.toNat_xor, h1, h2, UInt8.toNat_xor]
  have hx : y.toNat ^^^ 90 < 2 ^ 8 := Nat.xor_lt_two_pow y.toNat_lt (by decide)
  have e : (0x5a : UInt8).toNat = 90 := by decide
  rw [e]
  exact wrap_u8c hx
/-- vs: beginnings of the rows us, each of its own block -/
def CutOf (vs us : List Value) : Prop := ∀ (i : Nat) v, vs[i]? = some v → ∃ p n c N, v = .slice p n c ∧ us[i]? = some (.slice p N c) ∧ n ≤ N
/-- the same family, with other bytes of the same lengths -/
def FamAny (w : World) (base : Nat) (us : List Value) : Prop := ∃ ls, Fam w base us ls
theorem FamAny.own {w : World} {base : Nat} {us : List Value} (h : FamAny w base us) {i : Nat} {p : Option Addr} {N c : Nat} (hu : us[i]? = some (.slice p N c)) : ∃ l : List UInt8, l.length = N ∧ w.ownsRow base 5 1 (.slice p N c) N (u8s l) := by
  obtain ⟨ls, F⟩ := h
  have hi : i < ls.length := by rw [← F.len]; exact (List.getElem?_eq_some_iff.1 hu).1
  have ho := F.own i _ _ hu (List.getElem?_eq_getElem hi)
  have e : ls[i].length = N := by
    obtain ⟨p', c', e⟩ := own_shape2 ho
    simp at e
    exact e.2.1.symm
  refine ⟨ls[i], e, ?_⟩
  rw [e] at ho
  exact ho
theorem own_max {w : World} {base e n : Nat} {p : Option Addr} {c : Nat} {xs : List Value} (h : w.ownsRow base e 1 (.slice p n c) n xs) : n ≤ maxLen := by
  rcases h.2 with ⟨-, e0⟩ | ⟨g, cap, cur, e1, -, -, h3, h4, -⟩
  · omega
  · omega
theorem FamAny.set {w w' : World} {base : Nat} {us : List Value} (h : FamAny w base us) {i : Nat} {v : Value} {l : List UInt8} (hu : us[i]? = some v) (k : Kept v.ownBlock.toList w w') (ho : w'.ownsRow base 5 1 v l.length (u8s l)) : FamAny w' base us := by
  obtain ⟨ls, F⟩ := h
  exact ⟨_, F.set i v l hu k ho⟩
set_option maxRecDepth 100000 in
set_option maxHeartbeats 12800000 in
theorem over_any (V : IV) (m : IM) (us : List Value) (base : Nat) (w : World) (hV : SeeIm w V m) (hcap : (V.pv.length + 4) * 24 ≤ 140737488355328) (F : FamAny w base us) (hcut : CutOf (V.pv ++ [V.pair, V.log, V.m0, V.m1]) us) (hb : base ≤ w.heap.size) :
    Calls Try.prog 9 #[V.agg] w fun e w' => (∃ r, e = .returned r) ∧ Kept (blocks us) w w' ∧ FamAny w' base us := by
  obtain ⟨xa, ya, ea, -⟩ := hV.vp
  obtain ⟨xb, yb, eb, -⟩ := hV.pair
  obtain ⟨xc, yc, ec, -⟩ := hV.log
  obtain ⟨xd, yd, ed, -⟩ := hV.m0
  obtain ⟨xe, ye, ee, -⟩ := hV.m1
  obtain ⟨vp, pv, pair, log, m0, m1⟩ := V
  simp only at ea eb ec ed ee hcap hcut
  subst ea eb ec ed ee
  obtain ⟨vl, hvl⟩ : ∃ vl, vl = pv ++ [.slice xb m.pair.length yb, .slice xc m.log.length yc, .slice xd m.m0.length yd, .slice xe m.m1.length ye] := ⟨_, rfl⟩
  rw [← hvl] at hcut
  have hll : vl.length = pv.length + 4 := by rw [hvl]; simp
  obtain ⟨w1, hw1⟩ : ∃ w1, w1 = w.alloc (.cells #[.slice xa pv.length ya, .slice xb m.pair.length yb, .slice xc m.log.length yc, .slice xd m.m0.length yd, .slice xe m.m1.length ye] 28) := ⟨_, rfl⟩
  have k1 : Kept [] w w1 := by rw [hw1]; exact (Kept.refl [] w).alloc _
  have bI : Blk w1 w.heap.size 28 [.slice xa pv.length ya, .slice xb m.pair.length yb, .slice xc m.log.length yc, .slice xd m.m0.length yd, .slice xe m.m1.length ye] := by rw [hw1]; exact Blk.new w _ _
  have hR := rows_any _ m w1 (hV.kept k1) hcap
  dsimp only at hR
  rw [← hvl] at hR
  unfold IV.agg at hR
  dsimp only at hR
  unfold IV.agg
  dsimp only
  have HR := @hideH _ hR
  have HW1 := @hideH _ hw1
  have HF := @hideH _ F
  have HCUT := @hideH _ hcut
  have HLL := @hideH _ hll
  have HCAP := @hideH _ hcap
  have K1 := @hideH _ k1
  obtain ⟨⟨i0, i1, i2, i3, i4⟩, -⟩ := bI.five
  clear hV hR hcut hll hvl bI F hcap k1
  go_enter Try.func9, Try.ntmps9
  go_upto_region 1 with fail
  rw [← HW1.out]
  clear hw1
  go_wp2_with fail
  refine HR.out.mono ?_
  rintro r w2 ⟨vr, rfl, orr, k2⟩
  rw [← HLL.out] at orr
  obtain ⟨G, cG, rfl, hc1, hc2, hcells⟩ := own_at orr (by rw [HLL.out]; omega)
  have hG8 : Not8 w2 G := own_not8 orr (by decide) G rfl
  have K2 := @hideH _ (K1.out.then k2)
  have F2 := @hideH _ (show FamAny w2 base us from (by obtain ⟨ls, F⟩ := HF.out; exact ⟨ls, (F.kept K1.out (by simp)).kept k2 (by simp)⟩))
  have hGS : G ∉ blocks us := fun hm => (by
    obtain ⟨ls, F⟩ := F2.out
    exact (F.not8 hm).1 hG8)
  have HCEL : Hid (∀ (u : World), Kept (blocks us) w2 u → ∀ (i : Nat) v, vl[i]? = some v → u.cell? ⟨G, i, none⟩ = some v) := (show ∀ (u : World), Kept (blocks us) w2 u → ∀ (i : Nat) v, vl[i]? = some v → u.cell? ⟨G, i, none⟩ = some v from fun u hu i v hv => hu.cell (hcells i v hv) hGS)
  have HVL : Hid (vl.length ≤ maxLen) := (show vl.length ≤ maxLen by omega)
  clear orr hc1 hc2 hcells hG8 k2 i0 i1 i2 i3 i4
  go_wp2
  go_loopw [3, 4] (fun i _ wr => ∃ k : Nat, k ≤ vl.length ∧ i = .int .i64 k ∧ Hid (FamAny wr base us ∧ Kept (blocks us) w2 wr)) (fun i _ _ => vl.length - (intOf i).toNat)
  case atStart => exact ⟨0, Nat.zero_le _, rfl, F2.out, Kept.refl _ _⟩
  case round =>
    clear F2
    obtain ⟨k, hk, rfl, hh⟩ := hrel
    by_cases hkl : k < vl.length
    · have hkl' : (k : Int) < (vl.length : Int) := by omega
      have hk0 : (0 : Int) ≤ (k : Int) := by omega
      obtain ⟨v, hv⟩ : ∃ v, vl[k]? = some v := ⟨_, List.getElem?_eq_getElem hkl⟩
      obtain ⟨p, n, c, N, rfl, hu, hnN⟩ := HCUT.out k v hv
      have wk : IntKind.i64.wrap ((k : Int) + 1) = (k : Int) + 1 := wrap_i64_of (by omega) (by have := HVL.out; unfold maxLen at this; omega)
      have HV := @hideH _ hv
      have HU := @hideH _ hu
      have hNm : N ≤ maxLen := by obtain ⟨l, -, ho⟩ := hh.out.1.own hu; exact own_max ho
      have HNM := @hideH _ hNm
      clear hv hu hNm
      go_wp2
      obtain ⟨w3, rfl⟩ : ∃ w3, w3 = wr := ⟨_, rfl⟩
      go_loopw [4] (fun j wr => ∃ t : Nat, t ≤ n ∧ j = .int .i64 t ∧ Hid (FamAny wr base us ∧ Kept (blocks us) w2 wr)) (fun j _ => n - (intOf j).toNat)
      case atStart => exact ⟨0, Nat.zero_le _, rfl, hh⟩
      case round =>
        clear hh
        obtain ⟨t, ht, rfl, hh⟩ := hrel
        have hc := HCEL.out wr hh.out.2 k _ HV.out
        by_cases htl : t < n
        · have htl' : (t : Int) < (n : Int) := by omega
          have ht0 : (0 : Int) ≤ (t : Int) := by omega
          obtain ⟨l, hl, ho⟩ := hh.out.1.own HU.out
          obtain ⟨bu, cu, eu, -, -, -⟩ := own_at ho (by omega)
          obtain ⟨rfl, rfl⟩ : p = some ⟨bu, 0, none⟩ ∧ c = cu := by simp at eu; exact eu
          have hcc := ho.cellAt t (by omega)
          rw [show (u8s l)[t]? = some (.int .u8 ((l[t]).toNat : Int)) from by simp [u8s, List.getElem?_eq_getElem (show t < l.length by omega)]] at hcc
          have hf := ho.frozenAt t
          have wt : IntKind.i64.wrap ((t : Int) + 1) = (t : Int) + 1 := wrap_i64_of (by omega) (by have := HNM.out; unfold maxLen at this; omega)
          obtain ⟨x, hx⟩ : ∃ x, x = l[t] := ⟨_, rfl⟩
          rw [← hx] at hcc
          obtain ⟨o2, k2⟩ := set_own ho t (x ^^^ 0x5a) (bits .xor .u8 (x.toNat : Int) 90) (xor5a x)
          have REL := @hideH _ (And.intro (FamAny.set hh.out.1 HU.out (by simpa [Value.ownBlock] using k2) (by rw [List.length_set, hl]; exact o2)) (hh.out.2.trans k2 (fun y hy => .inl (mem_blocks HU.out (by simp [Value.ownBlock] at hy ⊢; exact hy.symm)))))
          clear eu ho hx hl o2 k2 hh
          go_upto_region 8 with fail
          refine wp_region_late (fun w' => w'.cell? ⟨G, k, none⟩ = some (.slice (some ⟨bu, 0, none⟩) n c) ∧ w'.cell? ⟨bu, t, none⟩ = some (.int .u8 (x.toNat : Int)) ∧ w'.frozen? ⟨bu, t, none⟩ = false) 14 (by kernel_rfl) ?_
          have hS : (wr.drew.cell? ⟨G, k, none⟩ = some (.slice (some ⟨bu, 0, none⟩) n c) ∧ wr.drew.cell? ⟨bu, t, none⟩ = some (.int .u8 (x.toNat : Int)) ∧ wr.drew.frozen? ⟨bu, t, none⟩ = false) := ⟨hc, hcc, hf⟩
          refine wpAnyZ_take 0 (v := ?v0) rfl (by kernel_rfl) (by kernel_rfl) (by kernel_rfl) (by kernel_rfl) (fun _ _ _ h => h) (by rfl) ?hy0 hS ?rest0
          case hy0 => (intro wx hSx; (try dsimp only at hSx); go_simp; (try with_reducible rfl))
          (try simp only [Act.put, List.setIfInBounds_toArray, List.set_cons_zero, List.set_cons_succ])
          refine wpAnyZ_take 1 (v := ?v1) rfl (by kernel_rfl) (by kernel_rfl) (by kernel_rfl) (by kernel_rfl) (fun _ _ _ h => h) (by rfl) ?hy1 hS ?rest1
          case hy1 => (intro wx hSx; (try dsimp only at hSx); go_simp; (try with_reducible rfl))
          (try simp only [Act.put, List.setIfInBounds_toArray, List.set_cons_zero, List.set_cons_succ])
          refine wpAnyZ_take 2 (v := ?v2) rfl (by kernel_rfl) (by kernel_rfl) (by kernel_rfl) (by kernel_rfl) (fun _ _ _ h => h) (by rfl) ?hy2 hS ?rest2
          case hy2 => (intro wx hSx; (try dsimp only at hSx); go_simp; (try with_reducible rfl))
          (try simp only [Act.put, List.setIfInBounds_toArray, List.set_cons_zero, List.set_cons_succ])
          refine wpAnyZ_take 3 (v := ?v3) rfl (by kernel_rfl) (by kernel_rfl) (by kernel_rfl) (by kernel_rfl) (fun _ _ _ h => h) (by rfl) ?hy3 hS ?rest3
          case hy3 => (intro wx hSx; (try dsimp only at hSx); go_simp; (try with_reducible rfl))
          (try simp only [Act.put, List.setIfInBounds_toArray, List.set_cons_zero, List.set_cons_succ])
          refine wpAnyZ_take 4 (v := ?v4) rfl (by kernel_rfl) (by kernel_rfl) (by kernel_rfl) (by kernel_rfl) (fun _ _ _ h => h) (by rfl) ?hy4 hS ?rest4
          case hy4 => (intro wx hSx; (try dsimp only at hSx); go_simp; (try with_reducible rfl))
          (try simp only [Act.put, List.setIfInBounds_toArray, List.set_cons_zero, List.set_cons_succ])
          refine wpAnyZ_take 5 (v := ?v5) rfl (by kernel_rfl) (by kernel_rfl) (by kernel_rfl) (by kernel_rfl) (fun _ _ _ h => h) (by rfl) ?hy5 hS ?rest5
          case hy5 => (intro wx hSx; (try dsimp only at hSx); go_simp; (try with_reducible rfl))
          (try simp only [Act.put, List.setIfInBounds_toArray, List.set_cons_zero, List.set_cons_succ])
          refine wpAnyZ_take 6 (v := ?v6) rfl (by kernel_rfl) (by kernel_rfl) (by kernel_rfl) (by kernel_rfl) (fun _ _ _ h => h) (by rfl) ?hy6 hS ?rest6
          case hy6 => (intro wx hSx; (try dsimp only at hSx); go_simp; (try with_reducible rfl))
          (try simp only [Act.put, List.setIfInBounds_toArray, List.set_cons_zero, List.set_cons_succ])
          refine wpAnyZ_take 7 (v := ?v7) rfl (by kernel_rfl) (by kernel_rfl) (by kernel_rfl) (by kernel_rfl) (fun _ _ _ h => h) (by rfl) ?hy7 hS ?rest7
          case hy7 => (intro wx hSx; (try dsimp only at hSx); go_simp; (try with_reducible rfl))
          (try simp only [Act.put, List.setIfInBounds_toArray, List.set_cons_zero, List.set_cons_succ])
          refine wpAnyZ_take 8 (v := ?v8) rfl (by kernel_rfl) (by kernel_rfl) (by kernel_rfl) (by kernel_rfl) (fun _ _ _ h => h) (by rfl) ?hy8 hS ?rest8
          case hy8 => (intro wx hSx; (try dsimp only at hSx); go_simp; (try with_reducible rfl))
          (try simp only [Act.put, List.setIfInBounds_toArray, List.set_cons_zero, List.set_cons_succ])
          refine wpAnyZ_take 9 (v := ?v9) rfl (by kernel_rfl) (by kernel_rfl) (by kernel_rfl) (by kernel_rfl) (fun _ _ _ h => h) (by rfl) ?hy9 hS ?rest9
          case hy9 => (intro wx hSx; (try dsimp only at hSx); go_simp; (try with_reducible rfl))
          (try simp only [Act.put, List.setIfInBounds_toArray, List.set_cons_zero, List.set_cons_succ])
          refine wpAnyZ_take 10 (v := ?v10) rfl (by kernel_rfl) (by kernel_rfl) (by kernel_rfl) (by kernel_rfl) (fun _ _ _ h => h) (by rfl) ?hy10 hS ?rest10
          case hy10 => (intro wx hSx; (try dsimp only at hSx); go_simp; (try with_reducible rfl))
          (try simp only [Act.put, List.setIfInBounds_toArray, List.set_cons_zero, List.set_cons_succ])
          refine wpAnyZ_take 11 (v := ?v11) rfl (by kernel_rfl) (by kernel_rfl) (by kernel_rfl) (by kernel_rfl) (fun _ _ _ h => h) (by rfl) ?hy11 hS ?rest11
          case hy11 => (intro wx hSx; (try dsimp only at hSx); go_simp; (try with_reducible rfl))
          (try simp only [Act.put, List.setIfInBounds_toArray, List.set_cons_zero, List.set_cons_succ])
          refine wpAnyZ_take 12 (v := ?v12) rfl (by kernel_rfl) (by kernel_rfl) (by kernel_rfl) (by kernel_rfl) (fun _ _ _ h => h) (by rfl) ?hy12 hS ?rest12
          case hy12 => (intro wx hSx; (try dsimp only at hSx); go_simp; (try with_reducible rfl))
          (try simp only [Act.put, List.setIfInBounds_toArray, List.set_cons_zero, List.set_cons_succ])
          refine wpAnyZ_take 13 (v := ?v13) rfl (by kernel_rfl) (by kernel_rfl) (by kernel_rfl) (by kernel_rfl) (fun _ _ _ h => h) (by rfl) ?hy13 hS ?rest13
          case hy13 => (intro wx hSx; (try dsimp only at hSx); go_simp; (try with_reducible rfl))
          (try simp only [Act.put, List.setIfInBounds_toArray, List.set_cons_zero, List.set_cons_succ])
          refine wpAnyZ_one 14 rfl (by kernel_rfl) (fun K hK => ?_)
          go_simp
          refine hK _ _ (fun h => absurd rfl h) ?_
          clear hK K
          refine wpAnyZ_done (by kernel_rfl) ?_ _
          have RELd := @hideH _ (show FamAny (wr.setCell ⟨bu, t, none⟩ (.int .u8 (bits .xor .u8 (x.toNat : Int) 90))).drew base us ∧ Kept (blocks us) w2 (wr.setCell ⟨bu, t, none⟩ (.int .u8 (bits .xor .u8 (x.toNat : Int) 90))).drew from ⟨(by obtain ⟨ls, F⟩ := REL.out.1; exact ⟨ls, F.kept ((Kept.refl [] _).drew) (by simp)⟩), REL.out.2.drew⟩)
          go_wp2
          go_roundw
          case rel => (first | exact ⟨t + 1, by omega, by go_num, REL⟩ | exact ⟨t + 1, by omega, by go_num, RELd⟩)
          case measure => simp [intOf]; omega
        · obtain rfl : t = n := by omega
          have HH := hh
          clear hh
          go_wp2
          go_roundw
          case rel => exact ⟨k + 1, by omega, by go_num, HH⟩
          case measure => simp [intOf]; omega
    · have hkl' : ¬ (k : Int) < (vl.length : Int) := by omega
      go_wp2
      go_returns
      exact ⟨⟨_, rfl⟩, (K2.out.mono (by simp)).trans hh.out.2 (fun x hx => .inl hx), hh.out.1⟩
end Go.Proofs.Ytmipmiaflompmab

/-
  OWN WORK. DiskKeeps: lentImage, as far as its pages are made.
-/
namespace Go.Proofs.Ytmipmiaflompmab
open Go.RowKit
set_option linter.unusedVariables false

theorem own_blk_ne {w : World} {base e n g : Nat} {t : TypeId} {v : Value} {xs cs : List Value} (h : w.ownsRow base e 1 v n xs) (b : Blk w g t cs) (he : e ≠ t) : v.ownBlock ≠ some g := by
  intro hg
  rcases h.2 with ⟨rfl, _⟩ | ⟨g1, cap, cur, rfl, _, h3, _⟩
  · simp [Value.ownBlock] at hg
  · simp [Value.ownBlock] at hg
    subst hg
    have hb : w.heap[g1]? = some (.cells cs.toArray t (0, 0)) := b
    rw [hb] at h3
    simp at h3
    exact he h3.2.symm
/-- vs: the beginnings of the rows us, one of each list of ls, without the marks behind it -/
def LentOf (vs us : List Value) (ls : List (List UInt8)) : Prop := ∀ (i : Nat) v, vs[i]? = some v → ∃ l p c, ls[i]? = some l ∧ v = .slice p l.length c ∧ us[i]? = some (.slice p (l.length + 300) c)
structure LiS (w2 wq : World) (B : Nat) (m : IM) (k : Nat) (vq : Value) (qs us : List Value) (p3 p4 : Option Addr) (c3 c4 : Nat) : Prop where
  hB : w2.heap.size ≤ B
  blk : Blk wq B 28 [vq, .slice p3 m.pair.length c3, .slice p4 m.log.length c4, .slice none 0 0, .slice none 0 0]
  fam : Fam wq w2.heap.size (.slice p3 (m.pair.length + 300) c3 :: .slice p4 (m.log.length + 300) c4 :: us) ((m.pair ++ lentT 300) :: (m.log ++ lentT 300) :: (m.ps.take k).map (· ++ lentT 300))
  ql : qs.length = k
  ul : us.length = k
  cut : LentOf qs us m.ps
  row : wq.ownsRow w2.heap.size 25 1 vq k qs
  kept : Kept [] w2 wq
theorem LiS.start {w2 wq : World} {B : Nat} {m : IM} {p3 p4 : Option Addr} {c3 c4 : Nat} (hB : w2.heap.size ≤ B) (b : Blk wq B 28 [.slice none 0 0, .slice p3 m.pair.length c3, .slice p4 m.log.length c4, .slice none 0 0, .slice none 0 0]) (f : Fam wq w2.heap.size [.slice p3 (m.pair.length + 300) c3, .slice p4 (m.log.length + 300) c4] [m.pair ++ lentT 300, m.log ++ lentT 300]) (k : Kept [] w2 wq) : LiS w2 wq B m 0 (.slice none 0 0) [] [] p3 p4 c3 c4 :=
  ⟨hB, b, by simpa using f, rfl, rfl, fun i v hv => by simp at hv, World.ownsRow_nil _ _ _ _, k⟩
theorem LiS.then {w2 wq w' : World} {B : Nat} {m : IM} {k : Nat} {vq : Value} {qs us : List Value} {p3 p4 : Option Addr} {c3 c4 : Nat} (h : LiS w2 wq B m k vq qs us p3 p4 c3 c4) (kk : Kept [] wq w') : LiS w2 w' B m k vq qs us p3 p4 c3 c4 :=
  ⟨h.hB, h.blk.kept kk (by simp), h.fam.kept kk (by simp), h.ql, h.ul, h.cut, own_of_kept h.row kk (by simp), h.kept.then kk⟩
/-- one page more -/
theorem LiS.next {w2 wq w3 w4 w5 : World} {B : Nat} {m : IM} {k : Nat} {vq vq' : Value} {qs us : List Value} {p3 p4 p5 : Option Addr} {c3 c4 c5 : Nat} {l : List UInt8} (h : LiS w2 wq B m k vq qs us p3 p4 c3 c4) (hl : m.ps[k]? = some l) (k3 : Kept [] wq w3) (o3 : w3.ownsRow wq.heap.size 5 1 (.slice p5 (l.length + 300) c5) (l.length + 300) (u8s (l ++ lentT 300)))
    (k4 : Kept [] w3 w4) (o5 : w5.ownsRow w2.heap.size 25 1 vq' (k + 1) (qs ++ [.slice p5 l.length c5])) (g5 : w4.grownBy w5 vq.ownBlock) : LiS w2 (w5.setCell ⟨B, 0, none⟩ vq') B m (k + 1) vq' (qs ++ [.slice p5 l.length c5]) (us ++ [.slice p5 (l.length + 300) c5]) p3 p4 c3 c4 ∧ w5.cell? ⟨B, 0, none⟩ = some vq ∧ w5.frozen? ⟨B, 0, none⟩ = false ∧ Kept [] w2 w5 := by
  have h34 := (h.then k3).then k4
  have k45 : Kept vq.ownBlock.toList w4 w5 := (Kept.refl _ w4).grown g5 (fun x hx => .inl (by simp [hx]))
  have f3 := h.fam.snoc h.kept.size k3 (by simp) o3
  have f4 := f3.kept k4 (by simp)
  have f5 := f4.kept k45 (fun x hx => .inl (own_not8 h34.row (by decide) x (by simpa using hx)))
  have b5 := h34.blk.kept k45 (fun hm => own_blk_ne h34.row h34.blk (by decide) (by simpa using hm))
  obtain ⟨b6, k6⟩ := b5.set 0 vq'
  have f6 := f5.kept k6 (fun x hx => .inl (by simp at hx; subst hx; exact b5.not8 (by decide)))
  have o6 := own_of_kept o5 k6 (fun x hx hm => by simp at hm; subst hm; exact own_blk_ne o5 b5 (by decide) hx)
  have kk5 : Kept [] w2 w5 := h34.kept.trans k45 (fun x hx => .inr (own_ge h34.row x (by simpa using hx)))
  refine ⟨⟨h.hB, by simpa using b6, ?_, by simp [h.ql], by simp [h.ul], fun i v hv => ?_, o6, kk5.trans k6 (fun x hx => .inr (by simp at hx; subst hx; exact h.hB))⟩, b5.cell (j := 0) rfl, b5.free 0, kk5⟩
  · rw [List.take_add_one, hl]
    simpa using f6
  · rw [List.getElem?_append] at hv
    by_cases hi : i < qs.length
    · rw [if_pos hi] at hv
      obtain ⟨l', p, c, a1, a2, a3⟩ := h.cut i v hv
      refine ⟨l', p, c, a1, a2, ?_⟩
      rw [List.getElem?_append_left (by rw [h.ul, ← h.ql]; exact hi)]
      exact a3
    · rw [if_neg hi] at hv
      rcases hd : i - qs.length with _ | d
      · rw [hd] at hv
        simp at hv
        subst hv
        have hik : i = k := by have := h.ql; omega
        subst hik
        refine ⟨l, p5, c5, hl, rfl, ?_⟩
        rw [List.getElem?_append_right (by rw [h.ul]; exact Nat.le_refl _), h.ul, Nat.sub_self]
        rfl
      · rw [hd] at hv
        simp at hv
/-- two operations may come up -/
theorem wpAnyZ_two {P : Program} {md : Region.Mode} {ops : Array Oper} {Q : Exit → Act → World → Prop} {S : World → Prop} {z : Nat} (i j : Nat) {oi oj : Oper} {n : Nat} {listed : Array Bool} {a : Act} {w : World} (hi : ops[i]? = some oi) (hj : ops[j]? = some oj) (hr : Region.ready md ops listed = [i, j])
    (h : ∀ K : Act → World → Prop, (∀ a' w', (i ≠ z → S w') → wpAnyZ P md ops Q S z n (listed.setIfInBounds i true) a' w' → K a' w') → if Region.wanted oi (yielded ops a.tmps) = true then Oper.wp P oi a w K Q else K (a.put oi.dst undef) w)
    (h' : ∀ K : Act → World → Prop, (∀ a' w', (j ≠ z → S w') → wpAnyZ P md ops Q S z n (listed.setIfInBounds j true) a' w' → K a' w') → if Region.wanted oj (yielded ops a.tmps) = true then Oper.wp P oj a w K Q else K (a.put oj.dst undef) w) : wpAnyZ P md ops Q S z (n + 1) listed a w := by
  refine ⟨fun c => absurd (hr.symm.trans c) (by simp), fun x hx => ?_⟩
  rw [hr] at hx
  simp at hx
  rcases hx with rfl | rfl
  · exact wpOp_step hi fun K hK => h K fun a' w' h1 h2 => hK a' w' ⟨h1, h2⟩
  · exact wpOp_step hj fun K hK => h' K fun a' w' h1 h2 => hK a' w' ⟨h1, h2⟩
theorem byte_lit (w : World) (y : UInt8) : Bs (w.alloc (.cells #[.int .u8 (y.toNat : Int)] 5)) (.slice (some ⟨w.heap.size, 0, none⟩) 1 1) [y] := by
  have := Bs.mk (w := w.alloc (.cells #[.int .u8 (y.toNat : Int)] 5)) (b := w.heap.size) (o := 0) (c := 1) (l := [y]) (by simp) (by simp [maxLen]) (fun i x hx => by
    rcases i with _ | i
    · simp at hx
      subst hx
      exact byte_cell w 5 _ y rfl
    · simp at hx)
  exact this
/-- all pages are there, and two lists behind them -/
structure LiE (w2 wq : World) (B : Nat) (m : IM) (p : Option Addr) (c : Nat) (qs us : List Value) (v7 v8 : Value) (p3 p4 : Option Addr) (c3 c4 : Nat) (t0 t1 : Value) (ws : List Value) (ns : List (List UInt8)) : Prop where
  hB : w2.heap.size ≤ B
  blk : Blk wq B 28 [.slice p m.ps.length c, .slice p3 m.pair.length c3, .slice p4 m.log.length c4, t0, t1]
  fam : Fam wq w2.heap.size (.slice p3 (m.pair.length + 300) c3 :: .slice p4 (m.log.length + 300) c4 :: (us ++ ws)) ((m.pair ++ lentT 300) :: (m.log ++ lentT 300) :: (m.ps.map (· ++ lentT 300) ++ ns))
  ql : qs.length = m.ps.length
  ul : us.length = m.ps.length
  cut : LentOf qs us m.ps
  row : wq.ownsRow w2.heap.size 25 1 (.slice p (m.ps.length + 2) c) (m.ps.length + 2) (qs ++ [v7, v8])
  b7 : Bs wq v7 [7]
  b8 : Bs wq v8 [8]
  far : (∀ x, v7.ownBlock = some x → w2.heap.size ≤ x ∧ x ≠ B) ∧ ∀ x, v8.ownBlock = some x → w2.heap.size ≤ x ∧ x ≠ B
  kept : Kept [] w2 wq
theorem LiS.last {w2 wq wB wC w5 : World} {B : Nat} {m : IM} {vq : Value} {qs us : List Value} {p3 p4 p : Option Addr} {c3 c4 c : Nat} {v7 v8 : Value} (h : LiS w2 wq B m m.ps.length vq qs us p3 p4 c3 c4) (kB : Kept [] wq wB) (b7 : Bs wB v7 [7]) (b8 : Bs wB v8 [8]) (h7 : ∀ x, v7.ownBlock = some x → wq.heap.size ≤ x) (h8 : ∀ x, v8.ownBlock = some x → wq.heap.size ≤ x) (kC : Kept [] wB wC) (hv : ∀ x, vq.ownBlock = some x → x < wq.heap.size)
    (o5 : w5.ownsRow w2.heap.size 25 1 (.slice p (m.ps.length + 2) c) (m.ps.length + 2) (qs ++ [v7, v8])) (g5 : wC.grownBy w5 vq.ownBlock) :
    LiE w2 (w5.setCell ⟨B, 0, none⟩ (.slice p m.ps.length c)) B m p c qs us v7 v8 p3 p4 c3 c4 (.slice none 0 0) (.slice none 0 0) [] [] ∧ w5.cell? ⟨B, 0, none⟩ = some vq ∧ w5.frozen? ⟨B, 0, none⟩ = false ∧ Kept [] w2 w5 := by
  have hC := (h.then kB).then kC
  have k45 : Kept vq.ownBlock.toList wC w5 := (Kept.refl _ wC).grown g5 (fun x hx => .inl (by simp [hx]))
  have f5 := hC.fam.kept k45 (fun x hx => .inl (own_not8 hC.row (by decide) x (by simpa using hx)))
  have b5 := hC.blk.kept k45 (fun hm => own_blk_ne hC.row hC.blk (by decide) (by simpa using hm))
  obtain ⟨b6, k6⟩ := b5.set 0 (.slice p m.ps.length c)
  have f6 := f5.kept k6 (fun x hx => .inl (by simp at hx; subst hx; exact b5.not8 (by decide)))
  have o6 := own_of_kept o5 k6 (fun x hx hm => by simp at hm; subst hm; exact own_blk_ne o5 b5 (by decide) hx)
  have kk5 : Kept [] w2 w5 := hC.kept.trans k45 (fun x hx => .inr (own_ge hC.row x (by simpa using hx)))
  have hBlt : B < wq.heap.size := h.blk.lt
  have keep : ∀ {v : Value} {l : List UInt8}, Bs wB v l → (∀ x, v.ownBlock = some x → wq.heap.size ≤ x) → Bs (w5.setCell ⟨B, 0, none⟩ (.slice p m.ps.length c)) v l := fun {v l} hb hx => by
    refine ((hb.kept kC).keptOwn k45 (fun x hx' hm => ?_)).keptOwn k6 (fun x hx' hm => ?_)
    · have e1 := hx x hx'
      have e2 := hv x (by simpa using hm)
      omega
    · have e1 := hx x hx'
      simp at hm
      omega
  refine ⟨⟨h.hB, by simpa using b6, by simpa [List.take_length] using f6, h.ql, h.ul, h.cut, o6, keep b7 h7, keep b8 h8, ⟨fun x hx => by have := h7 x hx; have := h.kept.size; omega, fun x hx => by have := h8 x hx; have := h.kept.size; omega⟩, kk5.trans k6 (fun x hx => .inr (by simp at hx; subst hx; exact h.hB))⟩, b5.cell (j := 0) rfl, b5.free 0, kk5⟩
theorem LiE.then {w2 wq w' : World} {B : Nat} {m : IM} {p : Option Addr} {c : Nat} {qs us : List Value} {v7 v8 : Value} {p3 p4 : Option Addr} {c3 c4 : Nat} {t0 t1 : Value} {ws : List Value} {ns : List (List UInt8)} (h : LiE w2 wq B m p c qs us v7 v8 p3 p4 c3 c4 t0 t1 ws ns) (k : Kept [] wq w') : LiE w2 w' B m p c qs us v7 v8 p3 p4 c3 c4 t0 t1 ws ns :=
  ⟨h.hB, h.blk.kept k (by simp), h.fam.kept k (by simp), h.ql, h.ul, h.cut, own_of_kept h.row k (by simp), h.b7.kept k, h.b8.kept k, h.far, h.kept.then k⟩
/-- a master more -/
theorem LiE.mas {w2 wq w3 : World} {B j : Nat} {m : IM} {p p5 : Option Addr} {c c5 : Nat} {qs us : List Value} {v7 v8 : Value} {p3 p4 : Option Addr} {c3 c4 : Nat} {t0 t1 t0' t1' : Value} {ws : List Value} {ns : List (List UInt8)} {l : List UInt8} (h : LiE w2 wq B m p c qs us v7 v8 p3 p4 c3 c4 t0 t1 ws ns) (k3 : Kept [] wq w3) (o3 : w3.ownsRow wq.heap.size 5 1 (.slice p5 (l.length + 300) c5) (l.length + 300) (u8s (l ++ lentT 300)))
    (hs : ([.slice p m.ps.length c, .slice p3 m.pair.length c3, .slice p4 m.log.length c4, t0, t1] : List Value).set j (.slice p5 l.length c5) = [.slice p m.ps.length c, .slice p3 m.pair.length c3, .slice p4 m.log.length c4, t0', t1']) : LiE w2 (w3.setCell ⟨B, j, none⟩ (.slice p5 l.length c5)) B m p c qs us v7 v8 p3 p4 c3 c4 t0' t1' (ws ++ [.slice p5 (l.length + 300) c5]) (ns ++ [l ++ lentT 300]) := by
  have h3 := h.then k3
  have f3 := h.fam.snoc h.kept.size k3 (by simp) o3
  obtain ⟨b6, k6⟩ := h3.blk.set j (.slice p5 l.length c5)
  rw [hs] at b6
  have f6 := f3.kept k6 (fun x hx => .inl (by simp at hx; subst hx; exact h3.blk.not8 (by decide)))
  refine ⟨h.hB, b6, by simpa using f6, h.ql, h.ul, h.cut, own_of_kept h3.row k6 (fun x hx hm => by simp at hm; subst hm; exact own_blk_ne h3.row h3.blk (by decide) hx), h3.b7.keptOwn k6 (fun x hx hm => by simp at hm; exact (h.far.1 x hx).2 hm), h3.b8.keptOwn k6 (fun x hx hm => by simp at hm; exact (h.far.2 x hx).2 hm), h.far, h3.kept.trans k6 (fun x hx => .inr (by simp at hx; subst hx; exact h.hB))⟩
def MasOk (m : IM) (t : Nat) (t0 t1 : Value) (ws : List Value) (ns : List (List UInt8)) : Prop :=
  (t = 0 ∧ t0 = .slice none 0 0 ∧ t1 = .slice none 0 0 ∧ ws = [] ∧ ns = []) ∨ (t = 1 ∧ ∃ pa ca, t0 = .slice pa m.m0.length ca ∧ t1 = .slice none 0 0 ∧ ws = [.slice pa (m.m0.length + 300) ca] ∧ ns = [m.m0 ++ lentT 300])
    ∨ (t = 2 ∧ ∃ pa ca pb cb, t0 = .slice pa m.m0.length ca ∧ t1 = .slice pb m.m1.length cb ∧ ws = [.slice pa (m.m0.length + 300) ca, .slice pb (m.m1.length + 300) cb] ∧ ns = [m.m0 ++ lentT 300, m.m1 ++ lentT 300])
end Go.Proofs.Ytmipmiaflompmab

/-
  OWN WORK. DiskKeeps: a lent image.
-/
namespace Go.Proofs.Ytmipmiaflompmab
open Go.RowKit
set_option linter.unusedVariables false

structure LentIm (w : World) (base : Nat) (V : IV) (m : IM) (us : List Value) : Prop where
  fam : Fam w base us ((m.ps ++ [m.pair, m.log, m.m0, m.m1]).map (· ++ lentT 300))
  cut : LentOf (V.pv ++ [V.pair, V.log, V.m0, V.m1]) us (m.ps ++ [m.pair, m.log, m.m0, m.m1])
  len : V.pv.length = m.ps.length
  vp : ∃ p c v7 v8, V.vp = .slice p m.ps.length c ∧ w.ownsRow base 25 1 (.slice p (m.ps.length + 2) c) (m.ps.length + 2) (V.pv ++ [v7, v8]) ∧ Bs w v7 [7] ∧ Bs w v8 [8]
theorem LiE.keptR {w2 wq w' : World} {B : Nat} {m : IM} {p : Option Addr} {c : Nat} {qs us : List Value} {v7 v8 : Value} {p3 p4 : Option Addr} {c3 c4 : Nat} {t0 t1 : Value} {ws : List Value} {ns : List (List UInt8)} {R : Nat} (h : LiE w2 wq B m p c qs us v7 v8 p3 p4 c3 c4 t0 t1 ws ns) (k : Kept [R] wq w') (hR : R < w2.heap.size) :
    Fam w' w2.heap.size (.slice p3 (m.pair.length + 300) c3 :: .slice p4 (m.log.length + 300) c4 :: (us ++ ws)) ((m.pair ++ lentT 300) :: (m.log ++ lentT 300) :: (m.ps.map (· ++ lentT 300) ++ ns)) ∧ w'.ownsRow w2.heap.size 25 1 (.slice p (m.ps.length + 2) c) (m.ps.length + 2) (qs ++ [v7, v8]) ∧ Bs w' v7 [7] ∧ Bs w' v8 [8] :=
  ⟨h.fam.kept k (fun x hx => .inr (.inr (by simp at hx; omega))), own_of_kept h.row k (fun x hx hm => by have := own_ge h.row x hx; simp at hm; omega), h.b7.keptOwn k (fun x hx hm => by have := (h.far.1 x hx).1; simp at hm; omega), h.b8.keptOwn k (fun x hx hm => by have := (h.far.2 x hx).1; simp at hm; omega)⟩
theorem rows_turn {w : World} {base n : Nat} {us : List Value} {ls : List (List UInt8)} {P L A C : Value} {lp ll la lc : List UInt8} (F : Fam w base (P :: L :: (us ++ [A, C])) (lp :: ll :: (ls ++ [la, lc]))) (hu : us.length = n) (hl : ls.length = n) : Fam w base (us ++ [P, L, A, C]) (ls ++ [lp, ll, la, lc]) := by
  refine F.perm (fun i => if i < n then i + 2 else if i = n then 0 else if i = n + 1 then 1 else i) (fun i hi => ?_) (fun i j hi hj e => ?_) (fun i hi => ?_) (fun i hi => ?_) (by simp [hl, hu])
  · simp at hi ⊢
    split
    · omega
    · split
      · omega
      · split <;> omega
  · simp at hi hj
    split at e <;> split at e <;> (try split at e) <;> (try split at e) <;> (try split at e) <;> (try split at e) <;> omega
  · simp at hi
    by_cases c : i < n
    · rw [if_pos c, List.getElem?_append_left (by omega)]
      simp [List.getElem?_append_left (show i < us.length by omega)]
    · rw [if_neg c, List.getElem?_append_right (by omega)]
      obtain ⟨k, rfl⟩ : ∃ k, i = n + k := ⟨i - n, by omega⟩
      rw [hu]
      rcases k with _ | _ | _ | _ | k
      · simp
      · simp
      · rw [if_neg (by omega), if_neg (by omega), show n + (0 + 1 + 1) = n + 0 + 1 + 1 by omega, List.getElem?_cons_succ, List.getElem?_cons_succ, List.getElem?_append_right (by omega), hu]
        simp
        rw [show n + 1 + 1 - n = 2 by omega]
        rfl
      · rw [if_neg (by omega), if_neg (by omega), show n + (0 + 1 + 1 + 1) = n + 1 + 1 + 1 by omega, List.getElem?_cons_succ, List.getElem?_cons_succ, List.getElem?_append_right (by omega), hu]
        simp
        rw [show n + 1 + 1 + 1 - n = 3 by omega]
        rfl
      · omega
  · simp at hi
    by_cases c : i < n
    · rw [if_pos c, List.getElem?_append_left (by omega)]
      simp [List.getElem?_append_left (show i < ls.length by omega)]
    · rw [if_neg c, List.getElem?_append_right (by omega)]
      obtain ⟨k, rfl⟩ : ∃ k, i = n + k := ⟨i - n, by omega⟩
      rw [hl]
      rcases k with _ | _ | _ | _ | k
      · simp
      · simp
      · rw [if_neg (by omega), if_neg (by omega), show n + (0 + 1 + 1) = n + 0 + 1 + 1 by omega, List.getElem?_cons_succ, List.getElem?_cons_succ, List.getElem?_append_right (by omega), hl]
        simp
        rw [show n + 1 + 1 - n = 2 by omega]
        rfl
      · rw [if_neg (by omega), if_neg (by omega), show n + (0 + 1 + 1 + 1) = n + 1 + 1 + 1 by omega, List.getElem?_cons_succ, List.getElem?_cons_succ, List.getElem?_append_right (by omega), hl]
        simp
        rw [show n + 1 + 1 + 1 - n = 3 by omega]
        rfl
      · omega
theorem LentOf.app {vs us ws xs : List Value} {ls ms : List (List UInt8)} (h : LentOf vs us ls) (h' : LentOf ws xs ms) (h1 : vs.length = us.length) (h2 : vs.length = ls.length) : LentOf (vs ++ ws) (us ++ xs) (ls ++ ms) := fun i v hv => by
  rw [List.getElem?_append] at hv
  by_cases c : i < vs.length
  · rw [if_pos c] at hv
    obtain ⟨l, p, q, a1, a2, a3⟩ := h i v hv
    exact ⟨l, p, q, by rw [List.getElem?_append_left (by omega)]; exact a1, a2, by rw [List.getElem?_append_left (by omega)]; exact a3⟩
  · rw [if_neg c] at hv
    obtain ⟨l, p, q, a1, a2, a3⟩ := h' _ v hv
    exact ⟨l, p, q, by rw [List.getElem?_append_right (by omega), ← h2]; exact a1, a2, by rw [List.getElem?_append_right (by omega), ← h1]; exact a3⟩
theorem LentOf.four {p3 p4 pa pd : Option Addr} {c3 c4 ca cd : Nat} {a b c d : List UInt8} : LentOf [.slice p3 a.length c3, .slice p4 b.length c4, .slice pa c.length ca, .slice pd d.length cd] [.slice p3 (a.length + 300) c3, .slice p4 (b.length + 300) c4, .slice pa (c.length + 300) ca, .slice pd (d.length + 300) cd] [a, b, c, d] := fun i v hv => by
  rcases i with _ | _ | _ | _ | i
  · simp at hv; subst hv; exact ⟨a, p3, c3, rfl, rfl, rfl⟩
  · simp at hv; subst hv; exact ⟨b, p4, c4, rfl, rfl, rfl⟩
  · simp at hv; subst hv; exact ⟨c, pa, ca, rfl, rfl, rfl⟩
  · simp at hv; subst hv; exact ⟨d, pd, cd, rfl, rfl, rfl⟩
  · simp at hv
theorem LiE.image {w2 wq w' : World} {B : Nat} {m : IM} {p : Option Addr} {c : Nat} {qs us : List Value} {v7 v8 : Value} {p3 p4 pa pd : Option Addr} {c3 c4 ca cd : Nat} {R : Nat} (h : LiE w2 wq B m p c qs us v7 v8 p3 p4 c3 c4 (.slice pa m.m0.length ca) (.slice pd m.m1.length cd) [.slice pa (m.m0.length + 300) ca, .slice pd (m.m1.length + 300) cd] [m.m0 ++ lentT 300, m.m1 ++ lentT 300]) (k : Kept [R] wq w') (hR : R < w2.heap.size) :
    LentIm w' w2.heap.size ⟨.slice p m.ps.length c, qs, .slice p3 m.pair.length c3, .slice p4 m.log.length c4, .slice pa m.m0.length ca, .slice pd m.m1.length cd⟩ m (us ++ [.slice p3 (m.pair.length + 300) c3, .slice p4 (m.log.length + 300) c4, .slice pa (m.m0.length + 300) ca, .slice pd (m.m1.length + 300) cd]) := by
  obtain ⟨f, r, b7, b8⟩ := h.keptR k hR
  refine ⟨?_, ?_, h.ql, p, c, v7, v8, rfl, r, b7, b8⟩
  · rw [List.map_append]
    exact rows_turn f h.ul (by simp)
  · exact LentOf.app h.cut LentOf.four (by rw [h.ql, h.ul]) h.ql
theorem LentIm.mono {w : World} {b b' : Nat} {V : IV} {m : IM} {us : List Value} (h : LentIm w b V m us) (hb : b' ≤ b) : LentIm w b' V m us := by
  obtain ⟨p, c, v7, v8, e, r, b7, b8⟩ := h.vp
  exact ⟨⟨h.fam.len, fun i v l hv hl => own_mono (h.fam.own i v l hv hl) hb, h.fam.apart⟩, h.cut, h.len, p, c, v7, v8, e, own_mono r hb, b7, b8⟩
end Go.Proofs.Ytmipmiaflompmab

/-
  OWN WORK. DiskKeeps: a lent image is read as what was lent.
-/
namespace Go.Proofs.Ytmipmiaflompmab
open Go.RowKit
set_option linter.unusedVariables false

theorem lent_bs {w : World} {base c : Nat} {q : Option Addr} {p : List UInt8} (h : w.ownsRow base 5 1 (.slice q (p.length + 300) c) (p.length + 300) (u8s (p ++ lentT 300))) : Bs w (.slice q p.length c) p := by
  have hb := Bs.ofOwn h
  obtain ⟨g, c', e', -, -, -⟩ := own_at h (by omega)
  obtain ⟨rfl, rfl⟩ : q = some ⟨g, 0, none⟩ ∧ c = c' := by simp at e'; exact e'
  obtain ⟨p2, -, -, h3, -⟩ := hb.cuts (P := Try.prog) 25 5 Try.underlying25 (by kernel_rfl) p.length (by simp)
  rwa [List.take_left' rfl] at h3
theorem LentIm.at {w : World} {base : Nat} {U : IV} {m : IM} {us : List Value} (h : LentIm w base U m us) {i : Nat} {v : Value} {l : List UInt8} (hv : (U.pv ++ [U.pair, U.log, U.m0, U.m1])[i]? = some v) (hl : (m.ps ++ [m.pair, m.log, m.m0, m.m1])[i]? = some l) : ∃ p c, v = .slice p l.length c ∧ us[i]? = some (.slice p (l.length + 300) c) ∧ w.ownsRow base 5 1 (.slice p (l.length + 300) c) (l.length + 300) (u8s (l ++ lentT 300)) := by
  obtain ⟨l', p, c, a1, a2, a3⟩ := h.cut i v hv
  rw [hl] at a1
  cases a1
  have ho := h.fam.own i _ (l ++ lentT 300) a3 (by rw [List.getElem?_map, hl]; rfl)
  rw [List.length_append, lentT_length] at ho
  exact ⟨p, c, a2, a3, ho⟩
theorem LentIm.bs {w : World} {base : Nat} {U : IV} {m : IM} {us : List Value} (h : LentIm w base U m us) {i : Nat} {v : Value} {l : List UInt8} (hv : (U.pv ++ [U.pair, U.log, U.m0, U.m1])[i]? = some v) (hl : (m.ps ++ [m.pair, m.log, m.m0, m.m1])[i]? = some l) : Bs w v l := by
  obtain ⟨p, c, rfl, -, ho⟩ := h.at hv hl
  exact lent_bs ho
theorem LentIm.see {w : World} {base : Nat} {U : IV} {m : IM} {us : List Value} (h : LentIm w base U m us) : SeeIm w U m := by
  have hlen := h.len
  have tail : ∀ (j : Nat) v l, [U.pair, U.log, U.m0, U.m1][j]? = some v → [m.pair, m.log, m.m0, m.m1][j]? = some l → Bs w v l := fun j v l hv hl =>
    h.bs (i := U.pv.length + j) (by rw [List.getElem?_append_right (by omega), Nat.add_sub_cancel_left]; exact hv) (by rw [List.getElem?_append_right (by omega), hlen, Nat.add_sub_cancel_left]; exact hl)
  obtain ⟨p, c, v7, v8, e, r, -, -⟩ := h.vp
  obtain ⟨g, c', e', h1, h2, h3⟩ := own_at r (by omega)
  obtain ⟨rfl, rfl⟩ : p = some ⟨g, 0, none⟩ ∧ c = c' := by simp at e'; exact e'
  refine ⟨⟨some ⟨g, 0, none⟩, c, by rw [hlen]; exact e, by omega, h2, fun a ha i v hv => ?_, fun hn => by cases hn⟩, hlen, fun i v l hv hl => ?_, tail 0 _ _ rfl rfl, tail 1 _ _ rfl rfl, tail 2 _ _ rfl rfl, tail 3 _ _ rfl rfl⟩
  · cases ha
    rw [add_none rfl]
    have := h3 i v (by rw [List.getElem?_append_left (List.getElem?_eq_some_iff.1 hv).1]; exact hv)
    simpa using this
  · have hi := (List.getElem?_eq_some_iff.1 hv).1
    exact h.bs (i := i) (by rw [List.getElem?_append_left hi]; exact hv) (by rw [List.getElem?_append_left (by omega)]; exact hl)
theorem LentIm.then {w w' : World} {base : Nat} {U : IV} {m : IM} {us : List Value} (h : LentIm w base U m us) (k : Kept [] w w') : LentIm w' base U m us := by
  obtain ⟨p, c, v7, v8, e, r, b7, b8⟩ := h.vp
  exact ⟨h.fam.kept k (by simp), h.cut, h.len, p, c, v7, v8, e, own_of_kept r k (by simp), b7.kept k, b8.kept k⟩
/-- the family, for over -/
theorem LentIm.any {w : World} {base : Nat} {U : IV} {m : IM} {us : List Value} (h : LentIm w base U m us) : FamAny w base us ∧ CutOf (U.pv ++ [U.pair, U.log, U.m0, U.m1]) us := by
  refine ⟨⟨_, h.fam⟩, fun i v hv => ?_⟩
  obtain ⟨l, p, c, -, a2, a3⟩ := h.cut i v hv
  exact ⟨p, _, c, _, a2, a3, by omega⟩
end Go.Proofs.Ytmipmiaflompmab

/-
  OWN WORK. DiskKeeps: intact: true, of an image that was lent.
-/
namespace Go.Proofs.Ytmipmiaflompmab
open Go.RowKit
set_option linter.unusedVariables false
set_option linter.unusedSimpArgs false

set_option maxRecDepth 100000 in
set_option maxHeartbeats 12800000 in
theorem intact_any (Uu Vv : IV) (m : IM) (us : List Value) (base : Nat) (w : World) (hU : LentIm w base Uu m us) (hV : SeeIm w Vv m) (hcap : (m.ps.length + 4) * 24 ≤ 140737488355328) (hcs : ∀ l ∈ m.ps ++ [m.pair, m.log, m.m0, m.m1], l.length + 300 ≤ 140737488355328) :
    Calls Try.prog 8 #[Uu.agg, Vv.agg] w fun e w' => e = .returned (.bool true) ∧ Kept [] w w' := by
  have hUs := hU.see
  obtain ⟨xu0, yu0, eu0, -⟩ := hUs.vp
  obtain ⟨xu1, yu1, eu1, -⟩ := hUs.pair
  obtain ⟨xu2, yu2, eu2, -⟩ := hUs.log
  obtain ⟨xu3, yu3, eu3, -⟩ := hUs.m0
  obtain ⟨xu4, yu4, eu4, -⟩ := hUs.m1
  rw [hUs.len] at eu0
  obtain ⟨xv0, yv0, ev0, -⟩ := hV.vp
  obtain ⟨xv1, yv1, ev1, -⟩ := hV.pair
  obtain ⟨xv2, yv2, ev2, -⟩ := hV.log
  obtain ⟨xv3, yv3, ev3, -⟩ := hV.m0
  obtain ⟨xv4, yv4, ev4, -⟩ := hV.m1
  rw [hV.len] at ev0
  have hvp := hU.vp
  have hR := fun (x : World) (kx : Kept [] w x) => rows_any Uu m x (hUs.kept kx) (by rw [hUs.len]; exact hcap)
  have hQ := fun (x : World) (kx : Kept [] w x) => rows_any Vv m x (hV.kept kx) (by rw [hV.len]; exact hcap)
  have hat := fun (i : Nat) (v : Value) (l : List UInt8) => hU.at (i := i) (v := v) (l := l)
  have hall : ∀ (i : Nat) u l, (Vv.pv ++ [Vv.pair, Vv.log, Vv.m0, Vv.m1])[i]? = some u → (m.ps ++ [m.pair, m.log, m.m0, m.m1])[i]? = some l → Bs w u l := fun i u l hu hl => by
    have hlen := hV.len
    rw [List.getElem?_append] at hu hl
    by_cases c : i < Vv.pv.length
    · rw [if_pos c] at hu
      rw [if_pos (by omega)] at hl
      exact hV.ps i u l hu hl
    · rw [if_neg c] at hu
      rw [if_neg (by omega), ← hlen] at hl
      rcases hd : i - Vv.pv.length with _ | _ | _ | _ | d <;> rw [hd] at hu hl <;> simp at hu hl
      · subst hu hl; exact hV.pair
      · subst hu hl; exact hV.log
      · subst hu hl; exact hV.m0
      · subst hu hl; exact hV.m1
  have hul : (Uu.pv ++ [Uu.pair, Uu.log, Uu.m0, Uu.m1]).length = m.ps.length + 4 := by rw [List.length_append, hUs.len]; rfl
  have hvl : (Vv.pv ++ [Vv.pair, Vv.log, Vv.m0, Vv.m1]).length = m.ps.length + 4 := by rw [List.length_append, hV.len]; rfl
  rw [hUs.len] at hR
  rw [hV.len] at hQ
  obtain ⟨ul, hule⟩ : ∃ ul, ul = Uu.pv ++ [Uu.pair, Uu.log, Uu.m0, Uu.m1] := ⟨_, rfl⟩
  obtain ⟨wl, hwle⟩ : ∃ wl, wl = Vv.pv ++ [Vv.pair, Vv.log, Vv.m0, Vv.m1] := ⟨_, rfl⟩
  obtain ⟨ll, hlle⟩ : ∃ ll, ll = m.ps ++ [m.pair, m.log, m.m0, m.m1] := ⟨_, rfl⟩
  have hlll : ll.length = m.ps.length + 4 := by rw [hlle]; simp
  rw [← hule] at hat hul
  rw [← hwle] at hall hvl
  rw [← hlle] at hall hcs hat
  simp only [← hule] at hR
  simp only [← hwle] at hQ
  unfold IV.agg at hR hQ
  unfold IV.agg
  simp only [eu0, eu1, eu2, eu3, eu4] at hR
  simp only [ev0, ev1, ev2, ev3, ev4] at hQ
  rw [eu0, eu1, eu2, eu3, eu4, ev0, ev1, ev2, ev3, ev4]
  have HR := @hideH _ hR
  have HQ := @hideH _ hQ
  have HAT := @hideH _ hat
  have HALL := @hideH _ hall
  have HL := @hideH _ (And.intro hul (And.intro hvl hlll))
  have HCS := @hideH _ hcs
  have HCAP := @hideH _ hcap
  rw [eu0] at hvp
  have HVP := @hideH _ hvp
  clear hU hV hUs hR hQ hat hall hul hvl hlll hcs hcap hvp hule hwle hlle eu0 eu1 eu2 eu3 eu4 ev0 ev1 ev2 ev3 ev4
  obtain ⟨w2, hw2⟩ : ∃ w2, w2 = (w.alloc (.cells #[.slice xu0 m.ps.length yu0, .slice xu1 m.pair.length yu1, .slice xu2 m.log.length yu2, .slice xu3 m.m0.length yu3, .slice xu4 m.m1.length yu4] 28)).alloc (.cells #[.slice xv0 m.ps.length yv0, .slice xv1 m.pair.length yv1, .slice xv2 m.log.length yv2, .slice xv3 m.m0.length yv3, .slice xv4 m.m1.length yv4] 28) := ⟨_, rfl⟩
  have k2 : Kept [] w w2 := by rw [hw2]; exact ((Kept.refl [] w).alloc _).alloc _
  have bU : Blk w2 w.heap.size 28 [.slice xu0 m.ps.length yu0, .slice xu1 m.pair.length yu1, .slice xu2 m.log.length yu2, .slice xu3 m.m0.length yu3, .slice xu4 m.m1.length yu4] := by rw [hw2]; exact (Blk.new w _ _).kept ((Kept.refl [] _).alloc _) (by simp)
  have bV : Blk w2 (w.heap.size + 1) 28 [.slice xv0 m.ps.length yv0, .slice xv1 m.pair.length yv1, .slice xv2 m.log.length yv2, .slice xv3 m.m0.length yv3, .slice xv4 m.m1.length yv4] := by
    rw [hw2]
    have := Blk.new (w.alloc (.cells #[.slice xu0 m.ps.length yu0, .slice xu1 m.pair.length yu1, .slice xu2 m.log.length yu2, .slice xu3 m.m0.length yu3, .slice xu4 m.m1.length yu4] 28)) 28 [.slice xv0 m.ps.length yv0, .slice xv1 m.pair.length yv1, .slice xv2 m.log.length yv2, .slice xv3 m.m0.length yv3, .slice xv4 m.m1.length yv4]
    rwa [World.size_alloc] at this
  have HW2 := @hideH _ hw2
  have K2 := @hideH _ k2
  have HBU := @hideH _ bU
  obtain ⟨⟨i0, i1, i2, i3, i4⟩, -⟩ := bU.five
  obtain ⟨⟨j0, j1, j2, j3, j4⟩, -⟩ := bV.five
  clear hw2 k2 bU bV
  go_enter Try.func8, Try.ntmps8
  go_upto_region 1 with fail
  rw [← HW2.out]
  have kx : Kept [] w2 w2.drew := (Kept.refl [] w2).drew
  have tk : True := trivial
  go_region_held3 (fun w' => w'.cell? ⟨w.heap.size, 0, none⟩ = some (.slice xu0 m.ps.length yu0) ∧ w'.cell? ⟨w.heap.size, 1, none⟩ = some (.slice xu1 m.pair.length yu1) ∧ w'.cell? ⟨w.heap.size, 2, none⟩ = some (.slice xu2 m.log.length yu2) ∧ w'.cell? ⟨w.heap.size, 3, none⟩ = some (.slice xu3 m.m0.length yu3) ∧ w'.cell? ⟨w.heap.size, 4, none⟩ = some (.slice xu4 m.m1.length yu4) ∧ w'.cell? ⟨w.heap.size + 1, 0, none⟩ = some (.slice xv0 m.ps.length yv0) ∧ w'.cell? ⟨w.heap.size + 1, 1, none⟩ = some (.slice xv1 m.pair.length yv1) ∧ w'.cell? ⟨w.heap.size + 1, 2, none⟩ = some (.slice xv2 m.log.length yv2) ∧ w'.cell? ⟨w.heap.size + 1, 3, none⟩ = some (.slice xv3 m.m0.length yv3) ∧ w'.cell? ⟨w.heap.size + 1, 4, none⟩ = some (.slice xv4 m.m1.length yv4))
    (first | (with_reducible exact ⟨kx.cell i0 (by simp), kx.cell i1 (by simp), kx.cell i2 (by simp), kx.cell i3 (by simp), kx.cell i4 (by simp), kx.cell j0 (by simp), kx.cell j1 (by simp), kx.cell j2 (by simp), kx.cell j3 (by simp), kx.cell j4 (by simp)⟩) | fail)
    (first
      | (go_at_call 36; clear tk; refine (HR.out _ (K2.out.then kx)).mono ?_; rintro r w3 ⟨va, rfl, oa, ka⟩; replace kx := kx.then ka)
      | (go_at_call 36; refine (HQ.out _ (K2.out.then kx)).mono ?_; rintro r w4 ⟨vb, rfl, ob, kb⟩; replace kx := kx.then kb; have oa4 := own_of_kept oa kb (by simp))
      | fail)
  rw [← HL.out.1] at oa4
  rw [← HL.out.2.1] at ob
  obtain ⟨GA, cA, rfl, hA1, hA2, hA3⟩ := own_at oa4 (by rw [HL.out.1]; omega)
  obtain ⟨GB, cB, rfl, hB1, hB2, hB3⟩ := own_at ob (by rw [HL.out.2.1]; omega)
  have hab : ul.length = wl.length := by rw [HL.out.1, HL.out.2.1]
  have hbn : ((ul.length : Int) != (wl.length : Int)) = false := by rw [hab]; simp
  have HA3 := @hideH _ hA3
  have HB3 := @hideH _ hB3
  have HMX : Hid (ul.length ≤ maxLen) := (show ul.length ≤ maxLen by omega)
  have HAB := @hideH _ hab
  have KX := @hideH _ kx
  clear oa oa4 ob ka kb kx i0 i1 i2 i3 i4 j0 j1 j2 j3 j4 hA1 hA2 hA3 hB1 hB2 hB3 hab HR HQ
  go_wp2
  go_loopw [7] (fun vi wr => ∃ k : Nat, k ≤ ul.length ∧ vi = .int .i64 k ∧ Hid (Kept [] w4 wr)) (fun vi _ => ul.length - (intOf vi).toNat)
  case atStart => exact ⟨0, Nat.zero_le _, rfl, Kept.refl _ _⟩
  case round =>
    obtain ⟨k, hk, rfl, hK⟩ := hrel
    by_cases hkl : k < ul.length
    · have hkl' : (k : Int) < (ul.length : Int) := by omega
      have hkw : (k : Int) < (wl.length : Int) := by have := HAB.out; omega
      have hk0 : (0 : Int) ≤ (k : Int) := by omega
      have wk : IntKind.i64.wrap ((k : Int) + 1) = (k : Int) + 1 := wrap_i64_of (by omega) (by have := HMX.out; unfold maxLen at this; omega)
      obtain ⟨u, hu⟩ : ∃ u, ul[k]? = some u := ⟨_, List.getElem?_eq_getElem hkl⟩
      obtain ⟨v, hv⟩ : ∃ v, wl[k]? = some v := ⟨_, List.getElem?_eq_getElem (by have := HAB.out; omega)⟩
      obtain ⟨l, hl⟩ : ∃ l, ll[k]? = some l := ⟨_, List.getElem?_eq_getElem (by have := HL.out; omega)⟩
      obtain ⟨p, c, rfl, -, ho⟩ := HAT.out k u l hu hl
      have hbv := HALL.out k v l hv hl
      obtain ⟨pv, cv, rfl, -⟩ := id hbv
      have kw : Kept [] w wr := (K2.out.then KX.out).then hK.out
      have ca := hK.out.cell (HA3.out k _ hu) (by simp)
      have cb := hK.out.cell (HB3.out k _ hv) (by simp)
      have hlc := HCS.out l (List.mem_of_getElem? hl)
      have w300 : IntKind.i64.wrap ((l.length : Int) + 300) = (l.length : Int) + 300 := wrap_i64_of (by omega) (by omega)
      have hc3 : l.length + 300 ≤ c := by obtain ⟨_, _, e9, h9, -, -⟩ := own_at ho (by omega); simp at e9; omega
      have cutx : ∀ x : World, (Instr.slice 25 (.slice p l.length c) none (some (.int .i64 ((l.length : Int) + 300))) none).run Try.prog x = .ok (.slice p (l.length + 300) c) x := fun x => by have h9 := run_cut_to (P := Try.prog) x 25 5 Try.underlying25 (by kernel_rfl) p l.length c (l.length + 300) hc3; simpa using h9
      have hnn : ((l.length : Int) != (l.length : Int)) = false := by simp
      have hll := @hideH _ (fun (x : World) (kx : Kept [] wr x) => lent_any _ l x ((hbv.kept kw).kept kx) hlc)
      have hbl := @hideH _ ((Bs.ofOwn ho).kept kw)
      have kx : Kept [] wr wr.drew := (Kept.refl [] wr).drew
      clear hu hv hl ho hbv hlc hc3
      go_upto_region 7 with fail
      go_region_held3 (fun w' => w'.cell? ⟨GA, k, none⟩ = some (.slice p l.length c) ∧ w'.cell? ⟨GB, k, none⟩ = some (.slice pv l.length cv))
        (first | (with_reducible exact ⟨kx.cell ca (by simp), kx.cell cb (by simp)⟩) | fail)
        (first
          | (go_at_call 12; refine (hll.out _ kx).mono ?_; rintro r w5 ⟨v5, rfl, o5, k5⟩; replace kx := kx.then k5; obtain ⟨p5, c5, rfl⟩ := own_shape2 o5)
          | (go_at_call 17; refine (same_eq _ _ (l ++ lentT 300) _ (by exact hbl.out.kept kx) (by exact Bs.ofOwn o5)).mono ?_; rintro r w6 ⟨rfl, ew⟩; subst ew)
          | fail)
      have HK2 := @hideH _ (hK.out.then kx)
      clear kx ca cb cutx hll hbl o5 k5 kw hK
      go_wp2
      go_roundw
      case rel => exact ⟨k + 1, by omega, by go_num, HK2⟩
      case measure => simp [intOf]; omega
    · have hkl' : ¬ (k : Int) < (ul.length : Int) := by omega
      have kw : Kept [] w wr := (K2.out.then KX.out).then hK.out
      have q0 := (HBU.out.kept (KX.out.then hK.out) (by simp)).cell (j := 0) rfl
      obtain ⟨p, c, v7, v8, e9, r, b7, b8⟩ := HVP.out
      obtain ⟨rfl, rfl⟩ : xu0 = p ∧ yu0 = c := by simp at e9; exact e9
      obtain ⟨g, c', e8, h1, h2, h3⟩ := own_at r (by omega)
      obtain ⟨rfl, rfl⟩ : xu0 = some ⟨g, 0, none⟩ ∧ yu0 = c' := by simp at e8; exact e8
      have rl := r.1
      have hql : ∃ qs, qs.length = m.ps.length ∧ Uu.pv = qs := ⟨_, by simp at rl; omega, rfl⟩
      obtain ⟨qs, hql, hqe⟩ := hql
      rw [hqe] at h3
      have c7 := kw.cell (h3 m.ps.length v7 (by rw [List.getElem?_append_right (by omega), hql, Nat.sub_self]; rfl)) (by simp)
      have c8 := kw.cell (h3 (m.ps.length + 1) v8 (by rw [List.getElem?_append_right (by omega), hql, Nat.add_sub_cancel_left]; rfl)) (by simp)
      have n2 : IntKind.i64.wrap ((m.ps.length : Int) + 2) = (m.ps.length : Int) + 2 := wrap_i64_of (by omega) (by have := HCAP.out; omega)
      have n3 : IntKind.i64.wrap (((m.ps.length + 2 : Nat) : Int) - 2) = (m.ps.length : Int) := by rw [show ((m.ps.length + 2 : Nat) : Int) - 2 = (m.ps.length : Int) by omega]; exact wrap_i64_of (by omega) (by have := HCAP.out; omega)
      have n4 : IntKind.i64.wrap (((m.ps.length + 2 : Nat) : Int) - 1) = ((m.ps.length + 1 : Nat) : Int) := by rw [show ((m.ps.length + 2 : Nat) : Int) - 1 = ((m.ps.length + 1 : Nat) : Int) by omega]; exact wrap_i64_of (by omega) (by have := HCAP.out; omega)
      have n5 : IntKind.i64.wrap (m.ps.length : Int) = (m.ps.length : Int) := wrap_i64_of (by omega) (by have := HCAP.out; omega)
      have n6 : IntKind.i64.wrap ((m.ps.length : Int) + 2 - 2) = (m.ps.length : Int) := by rw [show (m.ps.length : Int) + 2 - 2 = (m.ps.length : Int) by omega]; exact n5
      have n7 : IntKind.i64.wrap ((m.ps.length : Int) + 2 - 1) = (m.ps.length : Int) + 1 := by rw [show (m.ps.length : Int) + 2 - 1 = (m.ps.length : Int) + 1 by omega]; exact wrap_i64_of (by omega) (by have := HCAP.out; omega)
      have n8 : IntKind.i64.wrap ((m.ps.length : Int) + 1) = (m.ps.length : Int) + 1 := wrap_i64_of (by omega) (by have := HCAP.out; omega)
      have cutp : ∀ x : World, (Instr.slice 24 (.slice (some ⟨g, 0, none⟩) m.ps.length yu0) none (some (.int .i64 ((m.ps.length : Int) + 2))) none).run Try.prog x = .ok (.slice (some ⟨g, 0, none⟩) (m.ps.length + 2) yu0) x := fun x => by have h9 := run_cut_to (P := Try.prog) x 24 25 Try.underlying24 (by kernel_rfl) (some ⟨g, 0, none⟩) m.ps.length yu0 (m.ps.length + 2) h1; simpa using h9
      obtain ⟨p7, d7, rfl, -⟩ := id b7
      obtain ⟨p8, d8, rfl, -⟩ := id b8
      have HB7 := @hideH _ (And.intro (b7.kept kw) (b8.kept kw))
      have FIN := @hideH _ kw
      clear e9 e8 r rl h1 h2 h3 hqe hql b7 b8 HVP
      go_upto_region 10 with fail
      clear cutp n2
      have k5 := (Kept.refl [] wr).alloc (.cells #[.int .u8 7] 5)
      have l7 := byte_lit wr 7
      have e7 := @hideH _ (same_eq _ _ [7] (wr.alloc (.cells #[.int .u8 7] 5)) (HB7.out.1.kept k5) l7)
      go_wp2_with fail
      refine e7.out.mono ?_
      rintro r wm ⟨rfl, ew⟩
      replace ew := ew.symm
      subst ew
      obtain ⟨w7, hw7⟩ : ∃ w7, w7 = wr.alloc (.cells #[.int .u8 7] 5) := ⟨_, rfl⟩
      rw [← hw7] at k5
      rw [← hw7]
      clear hw7 l7 e7
      have c87 := k5.cell c8 (by simp)
      have k6 := (Kept.refl [] w7).alloc (.cells #[.int .u8 8] 5)
      have l8 := byte_lit w7 8
      have e8 := @hideH _ (same_eq _ _ [8] (w7.alloc (.cells #[.int .u8 8] 5)) ((HB7.out.2.kept k5).kept k6) l8)
      have FIN2 := @hideH _ ((FIN.out.then k5).then k6)
      go_wp2_with fail
      refine e8.out.mono ?_
      rintro r wm ⟨rfl, ew⟩
      replace ew := ew.symm
      subst ew
      go_wp2
      go_ret
      exact ⟨rfl, FIN2.out⟩
end Go.Proofs.Ytmipmiaflompmab

