import Derived.Test.YtmipmiaflompmaaC4
/-
  OWN WORK. The program's disk: Copy. (The loose writes never change: a copy has the same ones.)
-/
namespace Go.Proofs.Ytmipmiaflompmaa
open Go.RowKit
set_option linter.unusedVariables false

theorem clone_any (v : Value) (b0 n : Nat) (fs : List Value) (w : World) (hrow : w.ownsRow b0 95 1 v n fs) (h1 : ∀ u ∈ fs, u.oneCell' = true) (hcap : n * 40 ≤ 140737488355328) :
    Calls Try.prog 59 #[v] w fun e w' => ∃ v', e = .returned v' ∧ w'.ownsRow w.heap.size 95 1 v' n fs ∧ Kept [] w w' := by
  have heq : ∀ (w : World) (a : Option Addr) (n c : Nat), (binOp .eql 90 (.slice a n c) (.slice none 0 0)).run Try.prog w = .ok (.bool a.isNone) w := fun w a n c => Lib.run_eql_slice_nil w _ _ a n c 0 0 Try.underlying90
  have hlen : fs.length = n := by have := hrow.1; omega
  obtain ⟨p, c, rfl⟩ := own_shape2 hrow
  rcases hrow.2 with ⟨e1, e0⟩ | ⟨g, cap, cur, e1, hlt, h2, h3, h4, h5, h6⟩
  · cases e1
    have hf : fs = [] := List.length_eq_zero_iff.1 (by omega)
    subst hf
    clear hrow h1 hcap
    go_enter Try.func59, Try.ntmps59
    go_wp2
    go_ret
    exact ⟨_, rfl, World.ownsRow_nil _ _ _ _, Kept.refl _ _⟩
  · cases e1
    have kb := (Kept.refl [] w).alloc (.cells #[] 95)
    have ob : (w.alloc (.cells #[] 95)).ownsRow w.heap.size 95 1 (.slice (some ⟨w.heap.size, 0, none⟩) 0 0) 0 [] := World.ownsRow_made w #[] 0 (Nat.le_refl _) (by decide) rfl
    have hnews : ∀ (j : Nat) u, fs[j]? = some u → (w.alloc (.cells #[] 95)).cell? ((⟨g, 0, none⟩ : Addr).add j) = some u := fun j u hj => by
      rw [add_none rfl, Nat.zero_add]
      exact kb.cell (own_cell hrow hj).1 (by simp)
    have HC : Hid (n * 40 ≤ 140737488355328) := hcap
    clear hrow h2 h5 h6 hcap hlt h3 h4
    go_enter Try.func59, Try.ntmps59
    go_wp2_with (at_builtin; refine wpList_append_own2 rfl (.tmp 5) (.tmp 6) 90 rfl w.heap.size 95 Try.underlying90 .nilFunc 8 (by kernel_rfl) rfl _ _ _ (by rfl) ob ⟨g, 0, none⟩ n c fs (by rfl) hlen hnews h1 (by have := HC.out; unfold maxLen; omega) (by have := HC.out; omega) (by simp) ?_; intro v5 w5 o5 g5 at5; obtain ⟨p5, c5, rfl⟩ := own_shape2 o5)
    go_ret
    exact ⟨_, rfl, by simpa using o5, kb.grown g5 fun k hk => .inr (own_ge ob k hk)⟩
/-- a disk made of its parts, the loose writes another disk's -/
theorem PR.make2 {W : World} {base g : Nat} {d : DS} {vl vr vf vlog : Value} {pl pr fs : List Value} {Z : List Nat} (hok : d.Ok) (hd : d.stop = 0 ∧ d.dead = false)
    (hL : Pls W base vl (d.np + 3) pl (prows d.np d.rows)) (hR : Pls W base vr (d.np + 3) pr (prows d.np d.seen)) (hF : W.ownsRow base 95 1 vf d.loose.length fs) (hlo : ∀ (i : Nat) f x, fs[i]? = some f → d.loose[i]? = some x → Lo d.np Z W f x.1 x.2) (hZ : ∀ x ∈ Z, x < base)
    (hlog : W.ownsRow base 5 1 vlog d.log.length (u8s d.log))
    (a1 : ∀ x ∈ blocks pl, x ∉ blocks pr) (a2 : ∀ x, vlog.ownBlock = some x → x ∉ blocks pl ∧ x ∉ blocks pr) (a3 : ∀ x, vl.ownBlock = some x → vr.ownBlock ≠ some x)
    (hb : Blk W g 92 ((⟨vl, pl, vr, pr, vf, fs, vlog, 0, Z⟩ : PDat).cells d)) (hg : base ≤ g) :
    PD Z W (.pointer (some ⟨g, 0, none⟩)) d ((⟨vl, pl, vr, pr, vf, fs, vlog, 0, Z⟩ : PDat).foot g) ∧ ∀ x ∈ (⟨vl, pl, vr, pr, vf, fs, vlog, 0, Z⟩ : PDat).foot g, base ≤ x := by
  obtain ⟨d2, d3⟩ := hd
  have f1 : Fam W base (pl ++ pr) (prows d.np d.rows ++ prows d.np d.seen) := hL.fam.join hR.fam a1
  have f2 : Fam W base (vlog :: (pl ++ pr)) (d.log :: (prows d.np d.rows ++ prows d.np d.seen)) := (Fam.one hlog).join f1 (fun x hx hm => by
    obtain ⟨k, v, hv, hx⟩ := blocks_mem hx
    rcases k with _ | k
    · simp at hv; subst hv
      obtain ⟨j, u, hu, hux⟩ := blocks_mem hm
      have hu : (pl ++ pr)[j]? = some u := hu
      rcases Nat.lt_or_ge j pl.length with c | c
      · rw [List.getElem?_append_left c] at hu
        exact (a2 x hx).1 (mem_blocks hu hux)
      · rw [List.getElem?_append_right c] at hu
        exact (a2 x hx).2 (mem_blocks hu hux)
    · simp at hv)
  have hge : ∀ x ∈ (⟨vl, pl, vr, pr, vf, fs, vlog, 0, Z⟩ : PDat).foot g, base ≤ x := fun x hx => by
    unfold PDat.foot at hx
    simp only [List.mem_cons, List.mem_append, Option.mem_toList, PDat.rows] at hx
    rcases hx with c | ((c | c) | c) | c
    · rw [c]; exact hg
    · exact own_ge hL.row x c
    · exact own_ge hR.row x c
    · exact own_ge hF x c
    · exact (f2.not8 c).2.1
  have hlt := hb.lt
  refine ⟨⟨g, _, rfl, ⟨hok, hb, f2.mono (Nat.zero_le _), own_mono hL.row (Nat.zero_le _), own_mono hR.row (Nat.zero_le _), own_mono hF (Nat.zero_le _), hlo, a3, ?_, wrap_i64_of (by show (-9223372036854775808 : Int) ≤ 0; omega) (by show (0 : Int) < _; omega), fun x hx => ⟨fun hm => by have := hge x hm; have := hZ x hx; omega, by have := hZ x hx; omega⟩⟩, rfl, rfl⟩, hge⟩
  intro _; rw [d2]; rfl
theorem Lo.one {np : Nat} {Z : List Nat} {w : World} {f : Value} {k : Nat} {b : List UInt8} (h : Lo np Z w f k b) : f.oneCell' = true := by
  obtain ⟨gp, gb, vb, rfl, -⟩ := h
  rfl
set_option maxHeartbeats 3200000 in
theorem pCopy (Z : List Nat) (v : Value) (d : DS) (F : List Nat) (w : World) (h : PD Z w v d F) (hcap : d.loose.length * 40 ≤ 140737488355328) :
    Calls Try.prog 27 #[v] w fun e w' => ∃ u, e = .returned u ∧ Born (PD Z) w w' u d.copy := by
  obtain ⟨g, R, rfl, h, rfl, rfl⟩ := h
  have hL := fun W (k : Kept [] w W) => pcopied_any R.vl 0 (d.np + 3) R.pl (prows d.np d.rows) W (own_of_kept h.rowL k (by simp)) (prows_length _ _) (fun i u l hu hl => (h.bsL i u l hu hl).kept k) (prows_short h.ok.len h.ok.row h.ok.ns.2) (by have := h.ok.np; omega) (by omega)
  have hR := fun W (k : Kept [] w W) => pcopied_any R.vr 0 (d.np + 3) R.pr (prows d.np d.seen) W (own_of_kept h.rowR k (by simp)) (prows_length _ _) (fun i u l hu hl => (h.bsR i u l hu hl).kept k) (prows_short h.ok.seenLen h.ok.seen h.ok.ns.2) (by have := h.ok.np; omega) (by omega)
  have hone : ∀ u ∈ R.fs, u.oneCell' = true := fun u hu => by
    obtain ⟨i, hi⟩ := List.getElem?_of_mem hu
    have hl : i < d.loose.length := by have := h.rowF.1; have := (List.getElem?_eq_some_iff.1 hi).1; omega
    exact (h.loose i u _ hi (List.getElem?_eq_getElem hl)).one
  have hC := fun W (k : Kept [] w W) => clone_any R.vf 0 d.loose.length R.fs W (own_of_kept h.rowF k (by simp)) hone hcap
  obtain ⟨plg, clg, elg, hbl, -⟩ := h.shapes
  have hO := fun W (k : Kept [] w W) => pown_any R.vlog d.log W (hbl.kept k) (by have := h.ok.log; have := h.ok.lm; omega)
  obtain ⟨gL, cL, eL, -⟩ := own_at8 h.rowL (by omega)
  obtain ⟨gR, cR, eR, -⟩ := own_at8 h.rowR (by omega)
  obtain ⟨pF, cF, eF⟩ := own_shape2 h.rowF
  have c0 := h.blk.cell (j := 0) rfl
  have c1 := h.blk.cell (j := 1) rfl
  have c2 := h.blk.cell (j := 2) rfl
  have c3 := h.blk.cell (j := 3) (v := R.vl) rfl
  have c4 := h.blk.cell (j := 4) (v := R.vr) rfl
  have c5 := h.blk.cell (j := 5) (v := R.vf) rfl
  have c6 := h.blk.cell (j := 6) (v := R.vlog) rfl
  have c7 := h.blk.cell (j := 7) rfl
  rw [eL] at c3 hL
  rw [eR] at c4 hR
  rw [eF] at c5 hC
  rw [elg] at c6 hO
  have HP : Hid (PR w g d R) := h
  have kx : Kept [] w w.drew := (Kept.refl [] w).drew
  clear h hbl hone hcap
  go_enter Try.func27, Try.ntmps27
  go_upto_region 1 with fail
  have tok : True := trivial
  go_region_held3 (fun w' => w'.cell? ⟨g, 0, none⟩ = some (.int .i64 (d.np : Int)) ∧ w'.cell? ⟨g, 1, none⟩ = some (.int .i64 (d.ns : Int)) ∧ w'.cell? ⟨g, 2, none⟩ = some (.int .i64 (d.lm : Int)) ∧ w'.cell? ⟨g, 3, none⟩ = some (.slice (some ⟨gL, 0, none⟩) (d.np + 3) cL) ∧ w'.cell? ⟨g, 4, none⟩ = some (.slice (some ⟨gR, 0, none⟩) (d.np + 3) cR) ∧ w'.cell? ⟨g, 5, none⟩ = some (.slice pF d.loose.length cF) ∧ w'.cell? ⟨g, 6, none⟩ = some (.slice plg d.log.length clg) ∧ w'.cell? ⟨g, 7, none⟩ = some (.int .i64 (d.lasted : Int)))
    (first
      | (with_reducible exact ⟨kx.cell c0 (by simp), kx.cell c1 (by simp), kx.cell c2 (by simp), kx.cell c3 (by simp), kx.cell c4 (by simp), kx.cell c5 (by simp), kx.cell c6 (by simp), kx.cell c7 (by simp)⟩)
      | (with_reducible exact ⟨(kx.alloc _).cell c0 (by simp), (kx.alloc _).cell c1 (by simp), (kx.alloc _).cell c2 (by simp), (kx.alloc _).cell c3 (by simp), (kx.alloc _).cell c4 (by simp), (kx.alloc _).cell c5 (by simp), (kx.alloc _).cell c6 (by simp), (kx.alloc _).cell c7 (by simp)⟩)
      | fail)
    (first
      | (go_at_call 52; clear tok; refine (hL _ kx).mono ?_; rintro e w1 ⟨v1, p1, rfl, r1, k1⟩; have s1 := kx.size; replace kx := kx.then k1; obtain ⟨g1, d1, rfl, -⟩ := own_at8 r1.row (by omega))
      | (go_at_call 52; refine (hR _ kx).mono ?_; rintro e w2 ⟨v2, p2, rfl, r2, k2⟩; have s2 := kx.size; replace kx := kx.then k2; obtain ⟨g2, d2, rfl, -⟩ := own_at8 r2.row (by omega))
      | (go_at_call 59; refine (hC _ kx).mono ?_; rintro e w3 ⟨v3, rfl, r3, k3⟩; have s3 := kx.size; replace kx := kx.then k3; obtain ⟨p3, d3, rfl⟩ := own_shape2 r3)
      | (go_at_call 60; refine (hO _ kx).mono ?_; rintro e w4 ⟨v4, rfl, r4, k4⟩; have s4 := kx.size; replace kx := kx.then k4; obtain ⟨p4, d4, rfl⟩ := own_shape2 r4)
      | fail)
  have h := HP.out
  have z1 := k1.size
  have z2 := k2.size
  have z3 := k3.size
  have z4 := k4.size
  obtain ⟨W, hW⟩ : ∃ W, W = w4.alloc (.cells #[.int .i64 (d.np : Int), .int .i64 (d.ns : Int), .int .i64 (d.lm : Int), .slice (some ⟨g1, 0, none⟩) (d.np + 3) d1, .slice (some ⟨g2, 0, none⟩) (d.np + 3) d2, .slice p3 d.loose.length d3, .slice p4 d.log.length d4, .int .i64 (d.lasted : Int), .int .i64 0, .int .i64 0, .bool false] 92) := ⟨_, rfl⟩
  have kW : Kept [] w4 W := by rw [hW]; exact (Kept.refl [] w4).alloc _
  have bW : Blk W w4.heap.size 92 ((⟨.slice (some ⟨g1, 0, none⟩) (d.np + 3) d1, p1, .slice (some ⟨g2, 0, none⟩) (d.np + 3) d2, p2, .slice p3 d.loose.length d3, R.fs, .slice p4 d.log.length d4, 0, R.Z⟩ : PDat).cells d.copy) := by rw [hW]; exact Blk.new w4 _ _
  have q1 := (r1.kept (((k2.then k3).then k4).then kW)).mono s1
  have q2 := (r2.kept ((k3.then k4).then kW)).mono s2
  have q3 := own_mono (own_of_kept r3 (k4.then kW) (by simp)) s3
  have q4 := own_mono (own_of_kept r4 kW (by simp)) s4
  have b1 : ∀ x ∈ blocks p1, x < w1.heap.size := fun x hx => (r1.fam.not8 hx).2.2
  have b2 : ∀ x ∈ blocks p2, w1.heap.size ≤ x ∧ x < w2.heap.size := fun x hx => ⟨(r2.fam.not8 hx).2.1, (r2.fam.not8 hx).2.2⟩
  have fin := PR.make2 (W := W) (base := w.heap.size) (g := w4.heap.size) (d := d.copy) (Z := R.Z) h.ok.copy ⟨rfl, rfl⟩ q1 q2 q3 (fun i f x hf hx => (h.loose i f x hf hx).kept (kx.then kW) (by simp)) (fun x hx => (h.frz x hx).2) q4
    (fun x hx hm => by have := b1 x hx; have := (b2 x hm).1; omega) (fun x hx => by have := own_ge r4 x hx; exact ⟨fun hm => by have := b1 x hm; omega, fun hm => by have := (b2 x hm).2; omega⟩) (fun x hx hm => by have h1 := own_lt r1.row x hx; have h2 := own_ge r2.row x hm; omega) bW (by omega)
  have FIN : Hid (Born (PD R.Z) w W (.pointer (some ⟨w4.heap.size, 0, none⟩)) d.copy) := ⟨_, fin.1, fin.2, kx.then kW⟩
  have HWW : Hid (W = w4.alloc (.cells #[.int .i64 (d.np : Int), .int .i64 (d.ns : Int), .int .i64 (d.lm : Int), .slice (some ⟨g1, 0, none⟩) (d.np + 3) d1, .slice (some ⟨g2, 0, none⟩) (d.np + 3) d2, .slice p3 d.loose.length d3, .slice p4 d.log.length d4, .int .i64 (d.lasted : Int), .int .i64 0, .int .i64 0, .bool false] 92)) := hW
  clear fin q1 q2 q3 q4 bW kW hW b1 b2 r1 r2 r3 r4 k1 k2 k3 k4 kx c0 c1 c2 c3 c4 c5 c6 c7 h hL hR hC hO s1 s2 s3 s4 z1 z2 z3 z4
  go_wp2
  rw [← HWW.out]
  go_ret
  exact ⟨_, rfl, FIN.out⟩
end Go.Proofs.Ytmipmiaflompmaa

/-
  OWN WORK. The program's disk: Crash.
-/
namespace Go.Proofs.Ytmipmiaflompmaa
open Go.RowKit
set_option linter.unusedVariables false

theorem pnext_any (vk : Value) (keep : List Int) (i : Nat) (w : World) (hk : Is w vk keep) (hi : i < 9223372036854775807) :
    Calls Try.prog 53 #[vk, .int .i64 (i : Int)] w fun e w' => e = .returned (.int .i64 (keepAt keep i)) ∧ w' = w := by
  obtain ⟨pk, ck, rfl, -⟩ := id hk
  by_cases hkl : keep.length = 0
  · have ek : keepAt keep i = 0 := by
      have : keep = [] := List.length_eq_zero_iff.1 hkl
      subst this
      rfl
    rw [ek, hkl]
    clear hk hi ek
    go_enter Try.func53, Try.ntmps53
    go_wp2
    go_ret
    exact ⟨rfl, rfl⟩
  · obtain ⟨kb, ko, kc, eK, -, hkc⟩ := hk.pos (by omega)
    cases eK
    have hkl0 : ¬ (keep.length : Int) = 0 := by omega
    have hmod : i % keep.length < keep.length := Nat.mod_lt _ (by omega)
    obtain ⟨kk, hkk⟩ : ∃ x, keep[i % keep.length]? = some x := ⟨_, List.getElem?_eq_getElem hmod⟩
    have ek : keepAt keep i = kk := by unfold keepAt; simp [List.getD, hkk]
    have kc0 := hkc _ _ hkk
    obtain ⟨j, hj⟩ : ∃ j, j = i % keep.length := ⟨_, rfl⟩
    rw [← hj] at hmod hkk kc0
    have hmod' : (j : Int) < (keep.length : Int) := by omega
    have hjk : j ≤ i := by rw [hj]; exact Nat.mod_le _ _
    have r1 : (i : Int) % (keep.length : Int) = (j : Int) := by rw [hj]; rfl
    have r2 : (i : Int).tmod (keep.length : Int) = (j : Int) := by rw [Int.tmod_eq_emod_of_nonneg (by omega), r1]
    have r3 : IntKind.i64.wrap (j : Int) = (j : Int) := wrap_i64_of (by omega) (by omega)
    rw [ek]
    clear hk hi ek hjk hj r1 hkk hkc hmod
    go_enter Try.func53, Try.ntmps53
    go_wp2
    go_ret
    exact ⟨rfl, rfl⟩
theorem Pls.lays {w w' : World} {base n j : Nat} {v u : Value} {pv : List Value} {ls : List (List UInt8)} {l : List UInt8} (h : Pls w base v n pv ls) (hu : pv[j]? = some u) (ho : w'.ownsRow base 5 1 u l.length (u8s l)) (k : Kept u.ownBlock.toList w w') : Pls w' base v n pv (ls.set j l) :=
  ⟨own_of_kept h.row k (fun y hy hm => (h.fam.not8 (mem_blocks hu (by simpa using hm))).1 (own_not8 h.row (by decide) y hy)), Fam.set h.fam j u l hu k ho⟩
set_option maxHeartbeats 6400000 in
theorem pCrash (Z : List Nat) (v : Value) (d : DS) (F : List Nat) (c : Int) (vk : Value) (keep : List Int) (w : World) (h : PD Z w v d F) (hk : Is w vk keep) :
    Calls Try.prog 16 #[v, .agg #[.int .i64 c, vk]] w fun e w' => ∃ u, e = .returned u ∧ Born (PD []) w w' u (d.crash c keep) := by
  obtain ⟨g, R, rfl, h, rfl, rfl⟩ := h
  obtain ⟨pk, ck, rfl, -⟩ := id hk
  obtain ⟨w0, hw0⟩ : ∃ w0, w0 = w.alloc (.cells #[.int .i64 c, .slice pk keep.length ck] 39) := ⟨_, rfl⟩
  have k0 : Kept [] w w0 := by rw [hw0]; exact (Kept.refl [] w).alloc _
  have bC : Blk w0 w.heap.size 39 [.int .i64 c, .slice pk keep.length ck] := by rw [hw0]; exact Blk.new w _ _
  have h0 := h.kept k0 (by simp) (by simp)
  have hcop := pcopied_any R.vl 0 (d.np + 3) R.pl (prows d.np d.rows) w0 h0.rowL (prows_length _ _) h0.bsL (prows_short h.ok.len h.ok.row h.ok.ns.2) (by have := h.ok.np; omega) (by omega)
  obtain ⟨gL, cL, eL, -⟩ := own_at8 h0.rowL (by omega)
  obtain ⟨pF, cF, eF⟩ := own_shape2 h0.rowF
  obtain ⟨plg, clg, elg, hbl, -⟩ := h0.shapes
  have c3 := h0.blk.cell (j := 3) (v := R.vl) rfl
  have c5 := h0.blk.cell (j := 5) (v := R.vf) rfl
  rw [eL] at c3 hcop
  rw [eF] at c5
  have q1 := bC.cell (j := 1) rfl
  have HK : Hid (Is w0 (.slice pk keep.length ck) keep) := hk.kept k0
  have H0 : Hid (PR w0 g d R) := h0
  have HB : Hid (Blk w0 w.heap.size 39 [.int .i64 c, .slice pk keep.length ck] ∧ Kept [] w w0) := ⟨bC, k0⟩
  have HW0 : Hid (w0 = w.alloc (.cells #[.int .i64 c, .slice pk keep.length ck] 39)) := hw0
  have HE : Hid (R.vl = .slice (some ⟨gL, 0, none⟩) (d.np + 3) cL ∧ R.vf = .slice pF d.loose.length cF ∧ R.vlog = .slice plg d.log.length clg) := ⟨eL, eF, elg⟩
  have HLN : Hid (d.loose.length ≤ maxLen) := (show d.loose.length ≤ maxLen by
    rcases h0.rowF.2 with ⟨-, e0⟩ | ⟨g9, cap9, cur9, -, -, -, h3, h4, -⟩
    · omega
    · omega)
  rw [hw0] at c3 hcop
  clear h h0 hk hw0 k0 bC eL eF elg hbl
  go_enter Try.func16, Try.ntmps16
  go_wp2_with fail
  refine hcop.mono ?_
  clear hcop
  rintro e w1 ⟨vp, pv, rfl, hP, k1⟩
  rw [← HW0.out] at hP k1
  clear c3
  obtain ⟨gP, cP, rfl, -⟩ := own_at8 hP.row (by omega)
  have z5 := k1.cell c5 (by simp)
  clear c5 q1
  have HP0 : Hid (Pls w1 w0.heap.size (.slice (some ⟨gP, 0, none⟩) (d.np + 3) cP) (d.np + 3) pv (prows d.np (crashRows keep (d.loose.take 0) 0 d.rows)) ∧ Kept [] w0 w1) := ⟨hP, k1⟩
  have hl63 : (d.loose.length : Int) ≤ 9223372036854775807 := by have := HLN.out; unfold maxLen at this; omega
  clear hP k1
  go_wp2
  go_loopw [19] (fun i wr => ∃ k : Nat, k ≤ d.loose.length ∧ i = .int .i64 k ∧ Hid (Pls wr w0.heap.size (.slice (some ⟨gP, 0, none⟩) (d.np + 3) cP) (d.np + 3) pv (prows d.np (crashRows keep (d.loose.take k) 0 d.rows)) ∧ Kept [] w0 wr)) (fun i _ => d.loose.length - (intOf i).toNat)
  case atStart => exact ⟨0, Nat.zero_le _, rfl, HP0⟩
  case round =>
    obtain ⟨k, hk, rfl, st⟩ := hrel
    by_cases hlt : k < d.loose.length
    · have hr := H0.out.kept st.out.2 (by simp) (by simp)
      have hfl : R.fs.length = d.loose.length := by have := hr.rowF.1; omega
      obtain ⟨f, hf⟩ : ∃ f, R.fs[k]? = some f := ⟨_, List.getElem?_eq_getElem (by omega)⟩
      obtain ⟨x, hx⟩ : ∃ x, d.loose[k]? = some x := ⟨_, List.getElem?_eq_getElem hlt⟩
      obtain ⟨xk, xb⟩ := x
      obtain ⟨gp, gb, vb, rfl, cap, hgp, hgb, hvb⟩ := hr.loose k f _ hf hx
      simp only at cap hgp hgb hvb
      obtain ⟨hxk, hxb⟩ := hr.ok.loose _ (List.mem_of_getElem? hx)
      simp only at hxk hxb
      have hrF := hr.rowF
      obtain ⟨gf, cf', ef', -⟩ := own_at8 hrF (by omega)
      rw [HE.out.2.1] at ef' hrF
      cases ef'
      have yf := (own_cell hrF hf).1
      unfold theWrite at yf
      have hpj := pix_lt hxk
      have hpl : pv.length = d.np + 3 := by have := st.out.1.row.1; omega
      obtain ⟨u, hu⟩ : ∃ u, pv[pix d.np xk]? = some u := ⟨_, List.getElem?_eq_getElem (by omega)⟩
      have hcu := (own_cell st.out.1.row hu).1
      obtain ⟨hsz, hrl⟩ := crashRows_sized keep (d.loose.take k) 0 d.rows hr.ok.row fun x hx => (hr.ok.loose x (List.mem_of_mem_take hx)).2
      rw [hr.ok.len] at hrl
      have hgd : (crashRows keep (d.loose.take k) 0 d.rows)[xk]? = some ((crashRows keep (d.loose.take k) 0 d.rows).getD xk []) := by
        rw [List.getD_eq_getElem?_getD, List.getElem?_eq_getElem (by rw [hrl]; exact hxk)]; rfl
      have hlen := hsz xk _ hgd
      have hou := st.out.1.fam.own (pix d.np xk) u _ hu (prows_at (crashRows keep (d.loose.take k) 0 d.rows) hxk)
      have b168 : xb.length ≤ 1000 := by rw [hxb]; have := sizeK_le d.np d.ns xk hr.ok.ns.2; omega
      have hkw : IntKind.i64.wrap (keepAt keep k) = keepAt keep k := by
        unfold keepAt
        rw [List.getD_eq_getElem?_getD]
        cases e : keep[k % keep.length]? with
        | none => exact wrap_i64_of (by show (-9223372036854775808 : Int) ≤ 0; omega) (by show (0 : Int) < _; omega)
        | some y => exact HK.out.wrap (List.mem_of_getElem? e)
      have ufar : ∀ y, u.ownBlock = some y → w0.heap.size ≤ y := fun y hy => own_ge hou y hy
      have zlt : ∀ y ∈ R.Z, y < w0.heap.size := fun y hy => (H0.out.frz y hy).2
      have hlay := write1_lays gp gb (pix d.np xk) vb xb gP (d.np + 3) cP w0.heap.size u _ (keepAt keep k) wr cap hpj (by have := hr.ok.np; omega) hcu hou (by rw [hxb, hlen]) (by rw [hlen]; exact sizeK_pos _ _ _) b168 hkw (fun y hy => ⟨fun e => by have := ufar y hy; have := zlt _ hgp; omega, fun e => by subst e; exact (st.out.1.fam.not8 (mem_blocks hu hy)).1 (own_not8 st.out.1.row (by decide) y rfl), fun e => by have := ufar y hy; have := zlt _ hgb; omega⟩)
      have hnx := pnext_any (.slice pk keep.length ck) keep k wr (HK.out.kept st.out.2) (by omega)
      have e4 : (over ((crashRows keep (d.loose.take k) 0 d.rows).getD xk []) 0 (xb.take (keepN (keepAt keep k) xb.length))).length = ((crashRows keep (d.loose.take k) 0 d.rows).getD xk []).length := over0_length (by rw [hxb, hlen]; exact Nat.le_refl _)
      rw [← e4] at hlay
      have ST : Hid (∀ (w4 : World), w4.ownsRow w0.heap.size 5 1 u (over ((crashRows keep (d.loose.take k) 0 d.rows).getD xk []) 0 (xb.take (keepN (keepAt keep k) xb.length))).length (u8s (over ((crashRows keep (d.loose.take k) 0 d.rows).getD xk []) 0 (xb.take (keepN (keepAt keep k) xb.length)))) → Kept u.ownBlock.toList wr w4 → Pls w4 w0.heap.size (.slice (some ⟨gP, 0, none⟩) (d.np + 3) cP) (d.np + 3) pv (prows d.np (crashRows keep (d.loose.take (k + 1)) 0 d.rows)) ∧ Kept [] w0 w4) := fun w4 o4 k4 => by
        refine ⟨?_, st.out.2.trans k4 (fun y hy => .inr (ufar y (by simpa using hy)))⟩
        rw [crash_take hx, crashLay_keep, prows_layR hrl hxk]
        exact st.out.1.lays hu o4 k4
      have hk' : (k : Int) < (d.loose.length : Int) := by omega
      have hk0 : (0 : Int) ≤ (k : Int) := by omega
      have wk : IntKind.i64.wrap ((k : Int) + 1) = (k : Int) + 1 := wrap_i64_of (by omega) (by omega)
      have y1 := st.out.2.cell (HB.out.1.cell (j := 1) rfl) (by simp)
      generalize keepAt keep k = kv at *
      clear hou hgd hlen hrl hsz hcu hu ufar zlt cap hvb hgp hgb hrF hx hf hxb hpl st hr e4 hkw b168 hpj hxk hfl
      go_wp2_with fail
      refine hnx.mono ?_
      rintro e w3 ⟨rfl, rfl⟩
      go_wp2_with fail
      refine hlay.mono ?_
      rintro e w4 ⟨rfl, o4, k4⟩
      have st4 := ST.out w4 o4 k4
      clear hlay hnx o4 k4 ST
      go_wp2
      go_roundw
      case rel => exact ⟨k + 1, by omega, by go_num, st4⟩
      case measure => simp [intOf]; omega
    · obtain rfl : k = d.loose.length := by omega
      have hk' : ¬ (d.loose.length : Int) < (d.loose.length : Int) := by omega
      have hr := H0.out.kept st.out.2 (by simp) (by simp)
      have hll := hr.ok.log
      have hlt := hr.ok.lasted
      have hlm := hr.ok.lm
      obtain ⟨q, hq⟩ : ∃ q, q = d.log.length - d.lasted := ⟨_, rfl⟩
      have e1 : IntKind.i64.wrap ((d.log.length : Int) - (d.lasted : Int)) = (q : Int) := by rw [show ((d.log.length : Int) - (d.lasted : Int)) = (q : Int) by omega]; exact wrap_i64_of (by omega) (by omega)
      have e2 : IntKind.i64.wrap ((q : Int) + 1) = (q : Int) + 1 := wrap_i64_of (by omega) (by omega)
      have hre := fun w' => prest_any c (q + 1) w' (by omega) (by omega)
      simp only [show (((q + 1 : Nat) : Int)) = (q : Int) + 1 by omega] at hre
      have hr1 := restN_lt c q
      obtain ⟨L, hL⟩ : ∃ L, L = crashLog d c := ⟨_, rfl⟩
      have eL : L = d.lasted + restN c (q + 1) := by rw [hL, hq]; rfl
      obtain ⟨rr, hrr⟩ : ∃ rr, rr = restN c (q + 1) := ⟨_, rfl⟩
      rw [← hrr] at hre hr1 eL
      have e3 : IntKind.i64.wrap ((d.lasted : Int) + (rr : Int)) = (L : Int) := by rw [show (d.lasted : Int) + (rr : Int) = (L : Int) by omega]; exact wrap_i64_of (by omega) (by omega)
      have hLl : L ≤ d.log.length := by omega
      have y0 := hr.blk.cell (j := 0) rfl
      have y1 := hr.blk.cell (j := 1) rfl
      have y2 := hr.blk.cell (j := 2) rfl
      have y6 := hr.blk.cell (j := 6) (v := R.vlog) rfl
      have y7 := hr.blk.cell (j := 7) rfl
      obtain ⟨-, -, -, hbl, -⟩ := hr.shapes
      rw [HE.out.2.2] at y6 hbl
      have yq := st.out.2.cell (HB.out.1.cell (j := 0) rfl) (by simp)
      obtain ⟨-, hcut, -, hbL, -⟩ := hbl.cuts (P := Try.prog) 33 5 Try.underlying33 (by kernel_rfl) L hLl
      have i0 : (0 : Int) ≤ (L : Int) := by omega
      have hla := fun W (kW : Kept [] wr W) => lasting_any (d.crash c keep) w0.heap.size (.slice (some ⟨gP, 0, none⟩) (d.np + 3) cP) (.slice plg L clg) pv W (hr.ok.crash c keep) ⟨rfl, rfl, rfl⟩ ⟨rfl, (by show crashLog d c = (d.log.take (crashLog d c)).length; rw [← hL, List.length_take]; omega)⟩ (by have := st.out.1.kept kW; rw [List.take_length] at this; exact this) (Nat.le_trans st.out.2.size kW.size) (by show Bs W _ (d.log.take (crashLog d c)); rw [← hL]; exact hbL.kept kW)
      have HLA : Hid (∀ W : World, Kept [] wr W → Calls Try.prog 45 #[.agg #[.int .i64 (d.np : Int), .int .i64 (d.ns : Int), .int .i64 (d.lm : Int)], .slice (some ⟨gP, 0, none⟩) (d.np + 3) cP, .slice plg L clg] W fun e w' => ∃ u, e = .returned u ∧ (∃ F, PD [] w' u (d.crash c keep) F ∧ (∀ x ∈ F, w0.heap.size ≤ x)) ∧ Kept [] W w') := hla
      have KK : Hid (Kept [] w wr ∧ w.heap.size ≤ w0.heap.size) := ⟨HB.out.2.then st.out.2, HB.out.2.size⟩
      clear hr hll hlt hlm hq hL eL hrr hr1 hbl hla st hbL hLl
      go_upto_region 7 with fail
      go_region_held3 (fun w' => w'.cell? ⟨g, 6, none⟩ = some (.slice plg d.log.length clg) ∧ w'.cell? ⟨g, 7, none⟩ = some (.int .i64 (d.lasted : Int)) ∧ w'.cell? ⟨w.heap.size, 0, none⟩ = some (.int .i64 c))
        (first
          | (with_reducible exact ⟨y6, y7, yq⟩)
          | (with_reducible exact ⟨(Kept.refl [] wr).drew.cell y6 (by simp), (Kept.refl [] wr).drew.cell y7 (by simp), (Kept.refl [] wr).drew.cell yq (by simp)⟩)
          | go_keep)
        (first
          | (go_at_call 54; refine (hre _).mono ?_; rintro e w5 ⟨rfl, rfl⟩)
          | fail)
      clear hre e1 e2 e3
      have kx : Kept [] wr wr.drew.drew := (Kept.refl [] wr).drew.drew
      go_upto_region 8 with fail
      go_region_held3 (fun w' => w'.cell? ⟨g, 0, none⟩ = some (.int .i64 (d.np : Int)) ∧ w'.cell? ⟨g, 1, none⟩ = some (.int .i64 (d.ns : Int)) ∧ w'.cell? ⟨g, 2, none⟩ = some (.int .i64 (d.lm : Int)) ∧ w'.cell? ⟨g, 6, none⟩ = some (.slice plg d.log.length clg))
        (first
          | (with_reducible exact ⟨kx.cell y0 (by simp), kx.cell y1 (by simp), kx.cell y2 (by simp), kx.cell y6 (by simp)⟩)
          | fail)
        (first
          | (go_at_call 45; refine (HLA.out _ kx).mono ?_; rintro e w6 ⟨u, rfl, ⟨F, hD, hF⟩, k6'⟩; replace kx := kx.then k6'; obtain ⟨gu, rfl⟩ := hD.ptr)
          | fail)
      have FIN : Hid (Born (PD []) w w6 (.pointer (some ⟨gu, 0, none⟩)) (d.crash c keep)) := ⟨F, hD, fun x hx => Nat.le_trans KK.out.2 (hF x hx), KK.out.1.then kx⟩
      clear hD hF kx k6' HLA y0 y1 y2 y6 y7 yq hcut
      go_wp2
      go_ret
      exact ⟨_, rfl, FIN.out⟩
end Go.Proofs.Ytmipmiaflompmaa

/-
  OWN WORK. The program's disk, by its pointer and its foot: the blocks that are its own, and those that never change (its loose writes' own cells; a copy has them too). One form for all calls.
-/
namespace Go.Proofs.Ytmipmiaflompmaa
open Go.RowKit
set_option linter.unusedVariables false

structure Foot where
  own : List Nat
  frz : List Nat
def Foot.all (F : Foot) : List Nat := F.own ++ F.frz
theorem Foot.mem_all {F : Foot} {x : Nat} : x ∈ F.all ↔ x ∈ F.own ∨ x ∈ F.frz := by unfold Foot.all; exact List.mem_append
theorem Foot.inOwn {F : Foot} {x : Nat} (h : x ∈ F.own) : x ∈ F.all := Foot.mem_all.2 (.inl h)
theorem Foot.inFrz {F : Foot} {x : Nat} (h : x ∈ F.frz) : x ∈ F.all := Foot.mem_all.2 (.inr h)
/-- a disk of the program's at v tells d; F: its foot -/
def PF (w : World) (v : Value) (d : DS) (F : Foot) : Prop := PD F.frz w v d F.own
/-- the own blocks of F turn, and F' is what is had then -/
def NextP (w w' : World) (F F' : Foot) : Prop := Kept F.own w w' ∧ (∀ x ∈ F'.own, x ∈ F.own ∨ w.heap.size ≤ x) ∧ ∀ x ∈ F'.frz, x ∈ F.frz ∨ w.heap.size ≤ x
theorem NextP.of {w w' : World} {F F' : List Nat} {Z Z' : List Nat} (h : Next w w' F F') (hz : Frz w Z Z') : NextP w w' ⟨F, Z⟩ ⟨F', Z'⟩ := ⟨h.1, h.2, hz⟩
theorem NextP.all {w w' : World} {F F' : Foot} (h : NextP w w' F F') : ∀ x ∈ F'.all, x ∈ F.all ∨ w.heap.size ≤ x := fun x hx => by
  rcases Foot.mem_all.1 hx with c | c
  · rcases h.2.1 x c with e | e
    · exact .inl (Foot.inOwn e)
    · exact .inr e
  · rcases h.2.2 x c with e | e
    · exact .inl (Foot.inFrz e)
    · exact .inr e
theorem NextP.after {w w1 w2 : World} {F F' : Foot} (h : NextP w1 w2 F F') (k : Kept [] w w1) : NextP w w2 F F' :=
  ⟨(k.mono (by simp)).trans h.1 (fun x hx => .inl hx), fun x hx => by have := k.size; rcases h.2.1 x hx with c | c; exact .inl c; exact .inr (by omega), fun x hx => by have := k.size; rcases h.2.2 x hx with c | c; exact .inl c; exact .inr (by omega)⟩
theorem NextP.trans {w w1 w2 : World} {F F' F'' : Foot} (h : NextP w w1 F F') (k : NextP w1 w2 F' F'') : NextP w w2 F F'' :=
  ⟨h.1.trans k.1 (fun x hx => h.2.1 x hx), fun x hx => by have := h.1.size; rcases k.2.1 x hx with c | c; exact h.2.1 x c; exact .inr (by omega), fun x hx => by have := h.1.size; rcases k.2.2 x hx with c | c; exact h.2.2 x c; exact .inr (by omega)⟩
theorem NextP.then {w w1 w2 : World} {F F' : Foot} (h : NextP w w1 F F') (k : Kept [] w1 w2) : NextP w w2 F F' :=
  ⟨h.1.trans k (by simp), h.2.1, h.2.2⟩
theorem PF.ptr {w : World} {v : Value} {d : DS} {F : Foot} (h : PF w v d F) : IsPtr v := PD.ptr h
theorem PF.ok {w : World} {v : Value} {d : DS} {F : Foot} (h : PF w v d F) : d.Ok := PD.ok h
theorem PF.lt {w : World} {v : Value} {d : DS} {F : Foot} (h : PF w v d F) : ∀ x ∈ F.all, x < w.heap.size := fun x hx => by
  rcases Foot.mem_all.1 hx with c | c
  · exact PD.lt h x c
  · exact (PD.frz h x c).2
theorem PF.own {w : World} {v : Value} {d : DS} {F : Foot} (h : PF w v d F) : ∀ x ∈ F.frz, x ∉ F.own := fun x hx => (PD.frz h x hx).1
theorem PF.kept {w w' : World} {v : Value} {d : DS} {F : Foot} {S : List Nat} (h : PF w v d F) (k : Kept S w w') (hS : ∀ x ∈ S, x ∉ F.all) : PF w' v d F := PD.kept h k (fun x hx hm => hS x hx (Foot.inOwn hm)) (fun x hx hm => hS x hx (Foot.inFrz hm))
/-- a disk made anew: what never changes of it lies in Z -/
def BornP (w w' : World) (v : Value) (d : DS) (Z : List Nat) : Prop := ∃ F : Foot, PF w' v d F ∧ (∀ x ∈ F.own, w.heap.size ≤ x) ∧ Kept [] w w' ∧ ∀ x ∈ F.frz, x ∈ Z
theorem BornP.of {w w' : World} {v : Value} {d : DS} {Z : List Nat} (h : Born (PD Z) w w' v d) : BornP w w' v d Z := by
  obtain ⟨F, h1, h2, h3⟩ := h
  exact ⟨⟨F, Z⟩, h1, h2, h3, fun x hx => hx⟩
def MadeP (w w' : World) (v : Value) (d : DS) (e : Int) : Prop := (e = 0 ∧ BornP w w' v d []) ∨ (e ≠ 0 ∧ v = .pointer none ∧ Kept [] w w')
theorem MadeP.of {w w' : World} {v : Value} {d : DS} {e : Int} (h : Made (PD []) w w' v d e) : MadeP w w' v d e := by
  rcases h with ⟨h1, h2⟩ | h
  · exact .inl ⟨h1, BornP.of h2⟩
  · exact .inr h
theorem fWritePage (v : Value) (d : DS) (F : Foot) (n : Int) (ub : Value) (b : List UInt8) (w : World) (h : PF w v d F) (hu : Bs w ub b) (hne : b ≠ [] → ∀ x, ub.ownBlock = some x → x ∉ F.own) (hcap : (d.loose.length + 1) * 40 ≤ 140737488355328) :
    Calls Try.prog 41 #[v, .int .i64 n, ub] w fun e w' => ∃ F', e = .returned (.int .i64 (writeE d (pageIx d.np n) b)) ∧ PF w' v (d.write (pageIx d.np n) b) F' ∧ NextP w w' F F' := by
  refine (pWritePage F.frz v d F.own n ub b w h hu hne hcap).mono ?_
  rintro e w' ⟨F', Z', h1, h2, h3, h4⟩
  exact ⟨⟨F', Z'⟩, h1, h2, NextP.of h3 h4⟩
theorem fWritePair (v : Value) (d : DS) (F : Foot) (ub : Value) (b : List UInt8) (w : World) (h : PF w v d F) (hu : Bs w ub b) (hne : b ≠ [] → ∀ x, ub.ownBlock = some x → x ∉ F.own) (hcap : (d.loose.length + 1) * 40 ≤ 140737488355328) :
    Calls Try.prog 48 #[v, ub] w fun e w' => ∃ F', e = .returned (.int .i64 (writeE d (some 0) b)) ∧ PF w' v (d.write (some 0) b) F' ∧ NextP w w' F F' := by
  refine (pWritePair F.frz v d F.own ub b w h hu hne hcap).mono ?_
  rintro e w' ⟨F', Z', h1, h2, h3, h4⟩
  exact ⟨⟨F', Z'⟩, h1, h2, NextP.of h3 h4⟩
theorem fWriteMaster (v : Value) (d : DS) (F : Foot) (n : Int) (ub : Value) (b : List UInt8) (w : World) (h : PF w v d F) (hu : Bs w ub b) (hne : b ≠ [] → ∀ x, ub.ownBlock = some x → x ∉ F.own) (hcap : (d.loose.length + 1) * 40 ≤ 140737488355328) :
    Calls Try.prog 49 #[v, .int .i64 n, ub] w fun e w' => ∃ F', e = .returned (.int .i64 (writeE d (masterIx d.np n) b)) ∧ PF w' v (d.write (masterIx d.np n) b) F' ∧ NextP w w' F F' := by
  refine (pWriteMaster F.frz v d F.own n ub b w h hu hne hcap).mono ?_
  rintro e w' ⟨F', Z', h1, h2, h3, h4⟩
  exact ⟨⟨F', Z'⟩, h1, h2, NextP.of h3 h4⟩
theorem fSync (v : Value) (d : DS) (F : Foot) (w : World) (h : PF w v d F) (hcap : d.loose.length * 40 ≤ 140737488355328) :
    Calls Try.prog 14 #[v] w fun e w' => ∃ F', e = .returned (.int .i64 (aliveE d)) ∧ PF w' v (d.sync false) F' ∧ NextP w w' F F' := by
  refine (pSync F.frz v d F.own w h hcap).mono ?_
  rintro e w' ⟨F', h1, h2, h3⟩
  exact ⟨⟨F', F.frz⟩, h1, h2, NextP.of h3 (Frz.refl _ _)⟩
theorem fSyncMasters (v : Value) (d : DS) (F : Foot) (w : World) (h : PF w v d F) (hcap : d.loose.length * 40 ≤ 140737488355328) :
    Calls Try.prog 15 #[v] w fun e w' => ∃ F', e = .returned (.int .i64 (aliveE d)) ∧ PF w' v (d.sync true) F' ∧ NextP w w' F F' := by
  refine (pSyncMasters F.frz v d F.own w h hcap).mono ?_
  rintro e w' ⟨F', h1, h2, h3⟩
  exact ⟨⟨F', F.frz⟩, h1, h2, NextP.of h3 (Frz.refl _ _)⟩
theorem fAppend (v : Value) (d : DS) (F : Foot) (ub : Value) (b : List UInt8) (w : World) (h : PF w v d F) (hu : Bs w ub b) (hne : b ≠ [] → ∀ x, ub.ownBlock = some x → x ∉ F.own) :
    Calls Try.prog 42 #[v, ub] w fun e w' => ∃ F', e = .returned (.int .i64 (appendE d b)) ∧ PF w' v (d.append b) F' ∧ NextP w w' F F' := by
  refine (pAppend F.frz v d F.own ub b w h hu hne).mono ?_
  rintro e w' ⟨F', h1, h2, h3⟩
  exact ⟨⟨F', F.frz⟩, h1, h2, NextP.of h3 (Frz.refl _ _)⟩
theorem fSyncLog (v : Value) (d : DS) (F : Foot) (w : World) (h : PF w v d F) :
    Calls Try.prog 31 #[v] w fun e w' => ∃ F', e = .returned (.int .i64 (aliveE d)) ∧ PF w' v (d.syncLog) F' ∧ NextP w w' F F' := by
  refine (pSyncLog F.frz v d F.own w h).mono ?_
  rintro e w' ⟨F', h1, h2, h3⟩
  exact ⟨⟨F', F.frz⟩, h1, h2, NextP.of h3 (Frz.refl _ _)⟩
theorem fCut (v : Value) (d : DS) (F : Foot) (n : Int) (w : World) (h : PF w v d F) :
    Calls Try.prog 58 #[v, .int .i64 n] w fun e w' => ∃ F', e = .returned (.int .i64 (cutE d n)) ∧ PF w' v (d.cut n) F' ∧ NextP w w' F F' := by
  refine (pCut F.frz v d F.own n w h).mono ?_
  rintro e w' ⟨F', h1, h2, h3⟩
  exact ⟨⟨F', F.frz⟩, h1, h2, NextP.of h3 (Frz.refl _ _)⟩
theorem fStop (v : Value) (d : DS) (F : Foot) (n : Int) (w : World) (h : PF w v d F) (hw : IntKind.i64.wrap n = n) :
    Calls Try.prog 23 #[v, .int .i64 n] w fun e w' => ∃ F', (∃ r, e = .returned r) ∧ PF w' v (d.halts n) F' ∧ NextP w w' F F' := by
  refine (pStop F.frz v d F.own n w h hw).mono ?_
  rintro e w' ⟨F', h1, h2, h3⟩
  exact ⟨⟨F', F.frz⟩, h1, h2, NextP.of h3 (Frz.refl _ _)⟩
theorem fReadPage (v : Value) (d : DS) (F : Foot) (n : Int) (w : World) (h : PF w v d F) :
    Calls Try.prog 37 #[v, .int .i64 n] w fun e w' => ∃ c F', e = .returned (.tuple #[c, .int .i64 (readE d (pageIx d.np n))]) ∧ w'.ownsRow w.heap.size 5 1 c (readL d (pageIx d.np n)).length (u8s (readL d (pageIx d.np n))) ∧ (∀ x, c.ownBlock = some x → x ∉ F'.all) ∧ PF w' v d.act F' ∧ NextP w w' F F' := by
  refine (pReadPage F.frz v d F.own n w h).mono ?_
  rintro e w' ⟨c, F', h1, h2, h3, h4, h5⟩
  exact ⟨c, ⟨F', F.frz⟩, h1, h2, fun x hx hm => (Foot.mem_all.1 hm).elim (h3 x hx) (fun hz => by have := own_ge h2 x hx; have := (PD.frz h x hz).2; omega), h4, NextP.of h5 (Frz.refl _ _)⟩
theorem fReadPair (v : Value) (d : DS) (F : Foot) (w : World) (h : PF w v d F) :
    Calls Try.prog 28 #[v] w fun e w' => ∃ c F', e = .returned (.tuple #[c, .int .i64 (readE d (some 0))]) ∧ w'.ownsRow w.heap.size 5 1 c (readL d (some 0)).length (u8s (readL d (some 0))) ∧ (∀ x, c.ownBlock = some x → x ∉ F'.all) ∧ PF w' v d.act F' ∧ NextP w w' F F' := by
  refine (pReadPair F.frz v d F.own w h).mono ?_
  rintro e w' ⟨c, F', h1, h2, h3, h4, h5⟩
  exact ⟨c, ⟨F', F.frz⟩, h1, h2, fun x hx hm => (Foot.mem_all.1 hm).elim (h3 x hx) (fun hz => by have := own_ge h2 x hx; have := (PD.frz h x hz).2; omega), h4, NextP.of h5 (Frz.refl _ _)⟩
theorem fReadMaster (v : Value) (d : DS) (F : Foot) (n : Int) (w : World) (h : PF w v d F) :
    Calls Try.prog 29 #[v, .int .i64 n] w fun e w' => ∃ c F', e = .returned (.tuple #[c, .int .i64 (readE d (masterIx d.np n))]) ∧ w'.ownsRow w.heap.size 5 1 c (readL d (masterIx d.np n)).length (u8s (readL d (masterIx d.np n))) ∧ (∀ x, c.ownBlock = some x → x ∉ F'.all) ∧ PF w' v d.act F' ∧ NextP w w' F F' := by
  refine (pReadMaster F.frz v d F.own n w h).mono ?_
  rintro e w' ⟨c, F', h1, h2, h3, h4, h5⟩
  exact ⟨c, ⟨F', F.frz⟩, h1, h2, fun x hx hm => (Foot.mem_all.1 hm).elim (h3 x hx) (fun hz => by have := own_ge h2 x hx; have := (PD.frz h x hz).2; omega), h4, NextP.of h5 (Frz.refl _ _)⟩
theorem fReadLog (v : Value) (d : DS) (F : Foot) (f n : Int) (w : World) (h : PF w v d F) :
    Calls Try.prog 38 #[v, .int .i64 f, .int .i64 n] w fun e w' => ∃ c F', e = .returned (.tuple #[c, .int .i64 (readLogE d f n)]) ∧ w'.ownsRow w.heap.size 5 1 c (readLogL d f n).length (u8s (readLogL d f n)) ∧ (∀ x, c.ownBlock = some x → x ∉ F'.all) ∧ PF w' v d.act F' ∧ NextP w w' F F' := by
  refine (pReadLog F.frz v d F.own f n w h).mono ?_
  rintro e w' ⟨c, F', h1, h2, h3, h4, h5⟩
  exact ⟨c, ⟨F', F.frz⟩, h1, h2, fun x hx hm => (Foot.mem_all.1 hm).elim (h3 x hx) (fun hz => by have := own_ge h2 x hx; have := (PD.frz h x hz).2; omega), h4, NextP.of h5 (Frz.refl _ _)⟩
theorem fActs (v : Value) (d : DS) (F : Foot) (w : World) (h : PF w v d F) :
    Calls Try.prog 26 #[v] w fun e w' => e = .returned (.int .i64 d.acts) ∧ Kept [] w w' := pActs F.frz v d F.own w h
theorem fDead (v : Value) (d : DS) (F : Foot) (w : World) (h : PF w v d F) :
    Calls Try.prog 25 #[v] w fun e w' => e = .returned (.bool d.dead) ∧ Kept [] w w' := pDead F.frz v d F.own w h
theorem fLogLen (v : Value) (d : DS) (F : Foot) (w : World) (h : PF w v d F) :
    Calls Try.prog 43 #[v] w fun e w' => e = .returned (.int .i64 (d.log.length : Int)) ∧ Kept [] w w' := pLogLen F.frz v d F.own w h
theorem fShape (v : Value) (d : DS) (F : Foot) (w : World) (h : PF w v d F) :
    Calls Try.prog 47 #[v] w fun e w' => e = .returned (.agg #[.int .i64 (d.np : Int), .int .i64 (d.ns : Int), .int .i64 (d.lm : Int)]) ∧ Kept [] w w' := pShape F.frz v d F.own w h
theorem fImage (v : Value) (d : DS) (F : Foot) (w : World) (h : PF w v d F) :
    Calls Try.prog 19 #[v] w fun e w' => ∃ V, e = .returned V.agg ∧ OwnIm w' w.heap.size V d.image ∧ Kept [] w w' := pImage F.frz v d F.own w h
theorem fLasts (v : Value) (d : DS) (F : Foot) (w : World) (h : PF w v d F) :
    Calls Try.prog 17 #[v] w fun e w' => ∃ V, e = .returned V.agg ∧ OwnIm w' w.heap.size V d.lasts ∧ Kept [] w w' := pLasts F.frz v d F.own w h
theorem fCopy (v : Value) (d : DS) (F : Foot) (w : World) (h : PF w v d F) (hcap : d.loose.length * 40 ≤ 140737488355328) :
    Calls Try.prog 27 #[v] w fun e w' => ∃ u, e = .returned u ∧ BornP w w' u d.copy F.frz := by
  refine (pCopy F.frz v d F.own w h hcap).mono ?_
  rintro e w' ⟨u, h1, h2⟩
  exact ⟨u, h1, BornP.of h2⟩
theorem fCrash (v : Value) (d : DS) (F : Foot) (c : Int) (vk : Value) (keep : List Int) (w : World) (h : PF w v d F) (hk : Is w vk keep) :
    Calls Try.prog 16 #[v, .agg #[.int .i64 c, vk]] w fun e w' => ∃ u, e = .returned u ∧ BornP w w' u (d.crash c keep) [] := by
  refine (pCrash F.frz v d F.own c vk keep w h hk).mono ?_
  rintro e w' ⟨u, h1, h2⟩
  exact ⟨u, h1, BornP.of h2⟩
theorem fNew (a b c : Int) (w : World) :
    Calls Try.prog 10 #[.agg #[.int .i64 a, .int .i64 b, .int .i64 c]] w fun e w' => ∃ u, e = .returned (.tuple #[u, .int .i64 (newE a b c)]) ∧ MadeP w w' u (newD a b c) (newE a b c) := by
  refine (pNew a b c w).mono ?_
  rintro e w' ⟨u, h1, h2⟩
  exact ⟨u, h1, MadeP.of h2⟩
theorem fLoad (a b c : Int) (V : IV) (m : IM) (w : World) (hV : SeeIm w V m) (hcap : (V.pv.length + 3) * 24 ≤ 140737488355328) :
    Calls Try.prog 32 #[.agg #[.int .i64 a, .int .i64 b, .int .i64 c], V.agg] w fun e w' => ∃ u, e = .returned (.tuple #[u, .int .i64 (loadE a b c m)]) ∧ MadeP w w' u (loadD a b c m) (loadE a b c m) := by
  refine (pLoad a b c V m w hV hcap).mono ?_
  rintro e w' ⟨u, h1, h2⟩
  exact ⟨u, h1, MadeP.of h2⟩
end Go.Proofs.Ytmipmiaflompmaa

/-
  OWN WORK. What the laws of disk lean on: same, mod; both disks at once; writes, reads.
-/
namespace Go.Proofs.Ytmipmiaflompmaa
open Go.RowKit
set_option linter.unusedVariables false

theorem Bs.text {w : World} {v : Value} {l : List UInt8} (h : Bs w v l) : (Go.convert 33 9 v).run Try.prog w = .ok (.string ⟨l.toArray⟩) w := h.convert Try.underlying33 Try.underlying5 Try.underlying9
theorem same_eq (u v : Value) (l : List UInt8) (w : World) (hu : Bs w u l) (hv : Bs w v l) :
    Calls Try.prog 20 #[u, v] w fun e w' => e = .returned (.bool true) ∧ w' = w := by
  have t1 := hu.text
  have t2 := hv.text
  go_enter Try.func20, Try.ntmps20
  go_wp2
  go_ret
  exact ⟨by simp, rfl⟩
theorem mod_any (n : Int) (m : Nat) (w : World) (hm : 0 < m) (hm2 : m ≤ 9223372036854775807) :
    Calls Try.prog 11 #[.int .i64 n, .int .i64 (m : Int)] w fun e w' => e = .returned (.int .i64 (restN n m : Int)) ∧ w' = w := by
  have h0 : ¬ (m : Int) = 0 := by omega
  have hp : (0 : Int) < (m : Int) := by omega
  have b1 := Int.tmod_lt_of_pos n hp
  have b2 := Int.lt_tmod_of_pos n hp
  have w1 : IntKind.i64.wrap (n.tmod (m : Int)) = n.tmod (m : Int) := wrap_i64_of (by omega) (by omega)
  rw [restN_int n m hm]
  by_cases c : n.tmod (m : Int) < 0
  · have w2 : IntKind.i64.wrap (n.tmod (m : Int) + (m : Int)) = n % (m : Int) := by rw [← tmod_neg hp c]; exact wrap_i64_of (by omega) (by omega)
    clear b1 b2 hm2
    go_enter Try.func11, Try.ntmps11
    go_wp2
    go_ret
    exact ⟨rfl, rfl⟩
  · have e := tmod_pos (n := n) hp (by omega)
    rw [← e]
    clear b1 b2 hm2 e
    go_enter Try.func11, Try.ntmps11
    go_wp2
    go_ret
    exact ⟨rfl, rfl⟩
/-- the program's disk and the document's tell the same, and have nothing in common -/
def Both (w : World) (v u : Value) (d : DS) (F : Foot) : Prop := ∃ (A : Foot) (B : List Nat), PF w v d A ∧ QD w u d B ∧ (∀ x ∈ A.all, x ∉ B) ∧ F = ⟨A.own ++ B, A.frz⟩
theorem Both.kept {w w' : World} {v u : Value} {d : DS} {F : Foot} {S : List Nat} (h : Both w v u d F) (k : Kept S w w') (hS : ∀ x ∈ S, x ∉ F.all) : Both w' v u d F := by
  obtain ⟨A, B, h1, h2, h3, rfl⟩ := h
  exact ⟨A, B, h1.kept k (fun x hx hm => hS x hx (by rcases Foot.mem_all.1 hm with c | c; exact Foot.inOwn (by simp [c]); exact Foot.inFrz (by simp [c]))), h2.kept k (fun x hx hm => hS x hx (Foot.inOwn (by simp [hm]))), h3, rfl⟩
theorem Both.lt {w : World} {v u : Value} {d : DS} {F : Foot} (h : Both w v u d F) : ∀ x ∈ F.all, x < w.heap.size := by
  obtain ⟨A, B, h1, h2, h3, rfl⟩ := h
  intro x hx
  rcases Foot.mem_all.1 hx with c | c
  · rcases List.mem_append.1 c with c | c
    · exact h1.lt x (Foot.inOwn c)
    · exact h2.lt x c
  · exact h1.lt x (Foot.inFrz c)
theorem Both.ok {w : World} {v u : Value} {d : DS} {F : Foot} (h : Both w v u d F) : d.Ok := by
  obtain ⟨A, B, h1, -⟩ := h
  exact h1.ok
theorem Both.own {w : World} {v u : Value} {d : DS} {F : Foot} (h : Both w v u d F) : ∀ x ∈ F.frz, x ∉ F.own := by
  obtain ⟨A, B, h1, h2, h3, rfl⟩ := h
  intro x hx hm
  rcases List.mem_append.1 hm with c | c
  · exact h1.own x hx c
  · exact h3 x (Foot.inFrz hx) c
/-- first the program's turns, then the document's -/
theorem both_step {w w1 w2 : World} {v u : Value} {d d' : DS} {A A' : Foot} {B B' : List Nat} (h1 : PF w1 v d' A') (x1 : NextP w w1 A A') (hq : QD w u d B) (hap : ∀ x ∈ A.all, x ∉ B) (h2 : QD w2 u d' B') (x2 : Next w1 w2 B B') : Both w2 v u d' ⟨A'.own ++ B', A'.frz⟩ ∧ NextP w w2 ⟨A.own ++ B, A.frz⟩ ⟨A'.own ++ B', A'.frz⟩ := by
  have hs := x1.1.size
  have hAB : ∀ x ∈ A'.all, x ∉ B := fun x hx hm => by
    rcases x1.all x hx with c | c
    · exact hap x c hm
    · have := hq.lt x hm; omega
  refine ⟨⟨A', B', h1.kept x2.1 (fun x hx hm => hAB x hm hx), h2, fun x hx hm => ?_, rfl⟩, (x1.1.mono (T := A.own ++ B) (by simp +contextual)).trans x2.1 (fun x hx => .inl (by simp [hx])), fun x hx => ?_, x1.2.2⟩
  · rcases x2.2 x hm with c | c
    · exact hAB x hx c
    · have := h1.lt x hx; omega
  · rcases List.mem_append.1 hx with c | c
    · rcases x1.2.1 x c with e | e
      · exact .inl (by simp [e])
      · exact .inr e
    · rcases x2.2 x c with e | e
      · exact .inl (by simp [e])
      · exact .inr (by omega)
/-- what a call of 'writes' answers, and what it makes -/
def isW (k : Int) : Bool := decide (k = 1) || decide (k = 3) || decide (k = 10) || decide (k = 4) || decide (k = 11) || decide (k = 6) || decide (k = 7) || decide (k = 8)
def wE (d : DS) (k n : Int) (b : List UInt8) : Int := if k = 1 then writeE d (pageIx d.np n) b else if k = 3 then writeE d (some 0) b else if k = 10 then writeE d (masterIx d.np n) b else if k = 4 then aliveE d else if k = 11 then aliveE d else if k = 6 then appendE d b else if k = 7 then aliveE d else if k = 8 then cutE d n else 0
def wD (d : DS) (k n : Int) (b : List UInt8) : DS := if k = 1 then d.write (pageIx d.np n) b else if k = 3 then d.write (some 0) b else if k = 10 then d.write (masterIx d.np n) b else if k = 4 then d.sync false else if k = 11 then d.sync true else if k = 6 then d.append b else if k = 7 then d.syncLog else if k = 8 then d.cut n else d
end Go.Proofs.Ytmipmiaflompmaa

/-
  OWN WORK. The laws of disk: writes.
-/
namespace Go.Proofs.Ytmipmiaflompmaa
open Go.RowKit
set_option linter.unusedVariables false

theorem Next.after {w w1 w2 : World} {F F' : List Nat} (h : Next w1 w2 F F') (k : Kept [] w w1) : Next w w2 F F' :=
  ⟨(k.mono (by simp)).trans h.1 (fun x hx => .inl hx), fun x hx => by have := k.size; rcases h.2 x hx with c | c; exact .inl c; exact .inr (by omega)⟩
set_option maxHeartbeats 800000 in
theorem writes_page (v u ub vk : Value) (d : DS) (F : Foot) (wh n m cl : Int) (b : List UInt8) (keep : List Int) (w : World) (h : Both w v u d F) (hb : Bs w ub b) (hk : Is w vk keep) (hne : b ≠ [] → ∀ x, ub.ownBlock = some x → x ∉ F.own) (hcap : (d.loose.length + 1) * 40 ≤ 140737488355328) :
    Calls Try.prog 65 #[v, u, .agg #[.int .i64 1, .int .i64 wh, .int .i64 n, .int .i64 m, ub, .int .i64 cl, vk]] w fun e w' => ∃ F', e = .returned (.tuple #[.int .i64 (wE d 1 n b), .int .i64 (wE d 1 n b), .bool (isW 1)]) ∧ Both w' v u (wD d 1 n b) F' ∧ NextP w w' F F' := by
  obtain ⟨A, B, hp, hq, hap, rfl⟩ := h
  obtain ⟨gv, rfl⟩ := hp.ptr
  obtain ⟨gu, rfl⟩ := hq.ptr
  obtain ⟨pb, cb, rfl, -⟩ := id hb
  obtain ⟨pk, ck, rfl, -⟩ := id hk
  have k0 := (Kept.refl [] w).alloc (.cells #[.int .i64 1, .int .i64 wh, .int .i64 n, .int .i64 m, .slice pb b.length cb, .int .i64 cl, .slice pk keep.length ck] 59)
  have bO := Blk.new w 59 [.int .i64 1, .int .i64 wh, .int .i64 n, .int .i64 m, .slice pb b.length cb, .int .i64 cl, .slice pk keep.length ck]
  have q0 := bO.cell (j := 0) rfl
  have q2 := bO.cell (j := 2) rfl
  have q4 := bO.cell (j := 4) rfl
  have nA : w.heap.size ∉ A.own := fun hm => by have := hp.lt _ (Foot.inOwn hm); omega
  have hP := fWritePage _ d A n (.slice pb b.length cb) b _ (hp.kept k0 (by simp)) (hb.kept k0) (fun h0 x hx hm => hne h0 x hx (by simp [hm])) hcap
  have hq1 := fun (w1 : World) (A' : Foot) (x1 : NextP (w.alloc (.cells #[.int .i64 1, .int .i64 wh, .int .i64 n, .int .i64 m, .slice pb b.length cb, .int .i64 cl, .slice pk keep.length ck] 59)) w1 A A') => qWrite _ d B 0 n (.slice pb b.length cb) b w1 ((hq.kept k0 (by simp)).kept x1.1 (fun x hx => hap x (Foot.inOwn hx))) ((hb.kept k0).keptNe x1.1 (fun h0 x hx hm => hne h0 x hx (by simp [hm]))) (fun h0 x hx hm => hne h0 x hx (by simp [hm])) hcap
  simp only [idxOf_page] at hq1
  have HQ : Hid (QD (w.alloc (.cells #[.int .i64 1, .int .i64 wh, .int .i64 n, .int .i64 m, .slice pb b.length cb, .int .i64 cl, .slice pk keep.length ck] 59)) _ d B) := hq.kept k0 (by simp)
  have HC : Hid ((d.loose.length + 1) * 40 ≤ 140737488355328) := hcap
  clear hcap hp hq hb hk bO hne
  go_enter Try.func65, Try.ntmps65
  go_wp2_with fail
  refine hP.mono ?_
  rintro e w1 ⟨A', rfl, p1, x1⟩
  have r2 := x1.1.cell q2 nA
  have r4 := x1.1.cell q4 nA
  have hQ := hq1 w1 A' x1
  clear hP hq1 q0 q2 q4
  go_wp2_with fail
  refine hQ.mono ?_
  rintro e w2 ⟨B', rfl, p2, x2⟩
  obtain ⟨f1, f2⟩ := both_step p1 x1 HQ.out hap p2 x2
  clear hQ p1 p2 r2 r4
  go_wp2
  go_returns
  exact ⟨_, rfl, f1, f2.after k0⟩
set_option maxHeartbeats 800000 in
theorem writes_pair (v u ub vk : Value) (d : DS) (F : Foot) (wh n m cl : Int) (b : List UInt8) (keep : List Int) (w : World) (h : Both w v u d F) (hb : Bs w ub b) (hk : Is w vk keep) (hne : b ≠ [] → ∀ x, ub.ownBlock = some x → x ∉ F.own) (hcap : (d.loose.length + 1) * 40 ≤ 140737488355328) :
    Calls Try.prog 65 #[v, u, .agg #[.int .i64 3, .int .i64 wh, .int .i64 n, .int .i64 m, ub, .int .i64 cl, vk]] w fun e w' => ∃ F', e = .returned (.tuple #[.int .i64 (wE d 3 n b), .int .i64 (wE d 3 n b), .bool (isW 3)]) ∧ Both w' v u (wD d 3 n b) F' ∧ NextP w w' F F' := by
  obtain ⟨A, B, hp, hq, hap, rfl⟩ := h
  obtain ⟨gv, rfl⟩ := hp.ptr
  obtain ⟨gu, rfl⟩ := hq.ptr
  obtain ⟨pb, cb, rfl, -⟩ := id hb
  obtain ⟨pk, ck, rfl, -⟩ := id hk
  have k0 := (Kept.refl [] w).alloc (.cells #[.int .i64 3, .int .i64 wh, .int .i64 n, .int .i64 m, .slice pb b.length cb, .int .i64 cl, .slice pk keep.length ck] 59)
  have bO := Blk.new w 59 [.int .i64 3, .int .i64 wh, .int .i64 n, .int .i64 m, .slice pb b.length cb, .int .i64 cl, .slice pk keep.length ck]
  have q0 := bO.cell (j := 0) rfl
  have q2 := bO.cell (j := 2) rfl
  have q4 := bO.cell (j := 4) rfl
  have nA : w.heap.size ∉ A.own := fun hm => by have := hp.lt _ (Foot.inOwn hm); omega
  have hP := fWritePair _ d A (.slice pb b.length cb) b _ (hp.kept k0 (by simp)) (hb.kept k0) (fun h0 x hx hm => hne h0 x hx (by simp [hm])) hcap
  have hq1 := fun (w1 : World) (A' : Foot) (x1 : NextP (w.alloc (.cells #[.int .i64 3, .int .i64 wh, .int .i64 n, .int .i64 m, .slice pb b.length cb, .int .i64 cl, .slice pk keep.length ck] 59)) w1 A A') => qWrite _ d B 1 0 (.slice pb b.length cb) b w1 ((hq.kept k0 (by simp)).kept x1.1 (fun x hx => hap x (Foot.inOwn hx))) ((hb.kept k0).keptNe x1.1 (fun h0 x hx hm => hne h0 x hx (by simp [hm]))) (fun h0 x hx hm => hne h0 x hx (by simp [hm])) hcap
  simp only [idxOf_pair] at hq1
  have HQ : Hid (QD (w.alloc (.cells #[.int .i64 3, .int .i64 wh, .int .i64 n, .int .i64 m, .slice pb b.length cb, .int .i64 cl, .slice pk keep.length ck] 59)) _ d B) := hq.kept k0 (by simp)
  have HC : Hid ((d.loose.length + 1) * 40 ≤ 140737488355328) := hcap
  clear hcap hp hq hb hk bO hne
  go_enter Try.func65, Try.ntmps65
  go_wp2_with fail
  refine hP.mono ?_
  rintro e w1 ⟨A', rfl, p1, x1⟩
  have r2 := x1.1.cell q2 nA
  have r4 := x1.1.cell q4 nA
  have hQ := hq1 w1 A' x1
  clear hP hq1 q0 q2 q4
  go_wp2_with fail
  refine hQ.mono ?_
  rintro e w2 ⟨B', rfl, p2, x2⟩
  obtain ⟨f1, f2⟩ := both_step p1 x1 HQ.out hap p2 x2
  clear hQ p1 p2 r2 r4
  go_wp2
  go_returns
  exact ⟨_, rfl, f1, f2.after k0⟩
set_option maxHeartbeats 800000 in
theorem writes_master (v u ub vk : Value) (d : DS) (F : Foot) (wh n m cl : Int) (b : List UInt8) (keep : List Int) (w : World) (h : Both w v u d F) (hb : Bs w ub b) (hk : Is w vk keep) (hne : b ≠ [] → ∀ x, ub.ownBlock = some x → x ∉ F.own) (hcap : (d.loose.length + 1) * 40 ≤ 140737488355328) :
    Calls Try.prog 65 #[v, u, .agg #[.int .i64 10, .int .i64 wh, .int .i64 n, .int .i64 m, ub, .int .i64 cl, vk]] w fun e w' => ∃ F', e = .returned (.tuple #[.int .i64 (wE d 10 n b), .int .i64 (wE d 10 n b), .bool (isW 10)]) ∧ Both w' v u (wD d 10 n b) F' ∧ NextP w w' F F' := by
  obtain ⟨A, B, hp, hq, hap, rfl⟩ := h
  obtain ⟨gv, rfl⟩ := hp.ptr
  obtain ⟨gu, rfl⟩ := hq.ptr
  obtain ⟨pb, cb, rfl, -⟩ := id hb
  obtain ⟨pk, ck, rfl, -⟩ := id hk
  have k0 := (Kept.refl [] w).alloc (.cells #[.int .i64 10, .int .i64 wh, .int .i64 n, .int .i64 m, .slice pb b.length cb, .int .i64 cl, .slice pk keep.length ck] 59)
  have bO := Blk.new w 59 [.int .i64 10, .int .i64 wh, .int .i64 n, .int .i64 m, .slice pb b.length cb, .int .i64 cl, .slice pk keep.length ck]
  have q0 := bO.cell (j := 0) rfl
  have q2 := bO.cell (j := 2) rfl
  have q4 := bO.cell (j := 4) rfl
  have nA : w.heap.size ∉ A.own := fun hm => by have := hp.lt _ (Foot.inOwn hm); omega
  have hP := fWriteMaster _ d A n (.slice pb b.length cb) b _ (hp.kept k0 (by simp)) (hb.kept k0) (fun h0 x hx hm => hne h0 x hx (by simp [hm])) hcap
  have hq1 := fun (w1 : World) (A' : Foot) (x1 : NextP (w.alloc (.cells #[.int .i64 10, .int .i64 wh, .int .i64 n, .int .i64 m, .slice pb b.length cb, .int .i64 cl, .slice pk keep.length ck] 59)) w1 A A') => qWrite _ d B 2 n (.slice pb b.length cb) b w1 ((hq.kept k0 (by simp)).kept x1.1 (fun x hx => hap x (Foot.inOwn hx))) ((hb.kept k0).keptNe x1.1 (fun h0 x hx hm => hne h0 x hx (by simp [hm]))) (fun h0 x hx hm => hne h0 x hx (by simp [hm])) hcap
  simp only [idxOf_master] at hq1
  have HQ : Hid (QD (w.alloc (.cells #[.int .i64 10, .int .i64 wh, .int .i64 n, .int .i64 m, .slice pb b.length cb, .int .i64 cl, .slice pk keep.length ck] 59)) _ d B) := hq.kept k0 (by simp)
  have HC : Hid ((d.loose.length + 1) * 40 ≤ 140737488355328) := hcap
  clear hcap hp hq hb hk bO hne
  go_enter Try.func65, Try.ntmps65
  go_wp2_with fail
  refine hP.mono ?_
  rintro e w1 ⟨A', rfl, p1, x1⟩
  have r2 := x1.1.cell q2 nA
  have r4 := x1.1.cell q4 nA
  have hQ := hq1 w1 A' x1
  clear hP hq1 q0 q2 q4
  go_wp2_with fail
  refine hQ.mono ?_
  rintro e w2 ⟨B', rfl, p2, x2⟩
  obtain ⟨f1, f2⟩ := both_step p1 x1 HQ.out hap p2 x2
  clear hQ p1 p2 r2 r4
  go_wp2
  go_returns
  exact ⟨_, rfl, f1, f2.after k0⟩
set_option maxHeartbeats 800000 in
theorem writes_sync (v u ub vk : Value) (d : DS) (F : Foot) (wh n m cl : Int) (b : List UInt8) (keep : List Int) (w : World) (h : Both w v u d F) (hb : Bs w ub b) (hk : Is w vk keep) (hne : b ≠ [] → ∀ x, ub.ownBlock = some x → x ∉ F.own) (hcap : (d.loose.length + 1) * 40 ≤ 140737488355328) :
    Calls Try.prog 65 #[v, u, .agg #[.int .i64 4, .int .i64 wh, .int .i64 n, .int .i64 m, ub, .int .i64 cl, vk]] w fun e w' => ∃ F', e = .returned (.tuple #[.int .i64 (wE d 4 n b), .int .i64 (wE d 4 n b), .bool (isW 4)]) ∧ Both w' v u (wD d 4 n b) F' ∧ NextP w w' F F' := by
  obtain ⟨A, B, hp, hq, hap, rfl⟩ := h
  obtain ⟨gv, rfl⟩ := hp.ptr
  obtain ⟨gu, rfl⟩ := hq.ptr
  obtain ⟨pb, cb, rfl, -⟩ := id hb
  obtain ⟨pk, ck, rfl, -⟩ := id hk
  have k0 := (Kept.refl [] w).alloc (.cells #[.int .i64 4, .int .i64 wh, .int .i64 n, .int .i64 m, .slice pb b.length cb, .int .i64 cl, .slice pk keep.length ck] 59)
  have bO := Blk.new w 59 [.int .i64 4, .int .i64 wh, .int .i64 n, .int .i64 m, .slice pb b.length cb, .int .i64 cl, .slice pk keep.length ck]
  have q0 := bO.cell (j := 0) rfl
  have q2 := bO.cell (j := 2) rfl
  have q4 := bO.cell (j := 4) rfl
  have nA : w.heap.size ∉ A.own := fun hm => by have := hp.lt _ (Foot.inOwn hm); omega
  have hP := fSync _ d A  _ (hp.kept k0 (by simp)) (by omega)
  have hq1 := fun (w1 : World) (A' : Foot) (x1 : NextP (w.alloc (.cells #[.int .i64 4, .int .i64 wh, .int .i64 n, .int .i64 m, .slice pb b.length cb, .int .i64 cl, .slice pk keep.length ck] 59)) w1 A A') => qSync _ d B false w1 ((hq.kept k0 (by simp)).kept x1.1 (fun x hx => hap x (Foot.inOwn hx))) (by omega)
  have HQ : Hid (QD (w.alloc (.cells #[.int .i64 4, .int .i64 wh, .int .i64 n, .int .i64 m, .slice pb b.length cb, .int .i64 cl, .slice pk keep.length ck] 59)) _ d B) := hq.kept k0 (by simp)
  have HC : Hid ((d.loose.length + 1) * 40 ≤ 140737488355328) := hcap
  clear hcap hp hq hb hk bO hne
  go_enter Try.func65, Try.ntmps65
  go_wp2_with fail
  refine hP.mono ?_
  rintro e w1 ⟨A', rfl, p1, x1⟩
  have r2 := x1.1.cell q2 nA
  have r4 := x1.1.cell q4 nA
  have hQ := hq1 w1 A' x1
  clear hP hq1 q0 q2 q4
  go_wp2_with fail
  refine hQ.mono ?_
  rintro e w2 ⟨B', rfl, p2, x2⟩
  obtain ⟨f1, f2⟩ := both_step p1 x1 HQ.out hap p2 x2
  clear hQ p1 p2 r2 r4
  go_wp2
  go_returns
  exact ⟨_, rfl, f1, f2.after k0⟩
set_option maxHeartbeats 800000 in
theorem writes_syncm (v u ub vk : Value) (d : DS) (F : Foot) (wh n m cl : Int) (b : List UInt8) (keep : List Int) (w : World) (h : Both w v u d F) (hb : Bs w ub b) (hk : Is w vk keep) (hne : b ≠ [] → ∀ x, ub.ownBlock = some x → x ∉ F.own) (hcap : (d.loose.length + 1) * 40 ≤ 140737488355328) :
    Calls Try.prog 65 #[v, u, .agg #[.int .i64 11, .int .i64 wh, .int .i64 n, .int .i64 m, ub, .int .i64 cl, vk]] w fun e w' => ∃ F', e = .returned (.tuple #[.int .i64 (wE d 11 n b), .int .i64 (wE d 11 n b), .bool (isW 11)]) ∧ Both w' v u (wD d 11 n b) F' ∧ NextP w w' F F' := by
  obtain ⟨A, B, hp, hq, hap, rfl⟩ := h
  obtain ⟨gv, rfl⟩ := hp.ptr
  obtain ⟨gu, rfl⟩ := hq.ptr
  obtain ⟨pb, cb, rfl, -⟩ := id hb
  obtain ⟨pk, ck, rfl, -⟩ := id hk
  have k0 := (Kept.refl [] w).alloc (.cells #[.int .i64 11, .int .i64 wh, .int .i64 n, .int .i64 m, .slice pb b.length cb, .int .i64 cl, .slice pk keep.length ck] 59)
  have bO := Blk.new w 59 [.int .i64 11, .int .i64 wh, .int .i64 n, .int .i64 m, .slice pb b.length cb, .int .i64 cl, .slice pk keep.length ck]
  have q0 := bO.cell (j := 0) rfl
  have q2 := bO.cell (j := 2) rfl
  have q4 := bO.cell (j := 4) rfl
  have nA : w.heap.size ∉ A.own := fun hm => by have := hp.lt _ (Foot.inOwn hm); omega
  have hP := fSyncMasters _ d A  _ (hp.kept k0 (by simp)) (by omega)
  have hq1 := fun (w1 : World) (A' : Foot) (x1 : NextP (w.alloc (.cells #[.int .i64 11, .int .i64 wh, .int .i64 n, .int .i64 m, .slice pb b.length cb, .int .i64 cl, .slice pk keep.length ck] 59)) w1 A A') => qSync _ d B true w1 ((hq.kept k0 (by simp)).kept x1.1 (fun x hx => hap x (Foot.inOwn hx))) (by omega)
  have HQ : Hid (QD (w.alloc (.cells #[.int .i64 11, .int .i64 wh, .int .i64 n, .int .i64 m, .slice pb b.length cb, .int .i64 cl, .slice pk keep.length ck] 59)) _ d B) := hq.kept k0 (by simp)
  have HC : Hid ((d.loose.length + 1) * 40 ≤ 140737488355328) := hcap
  clear hcap hp hq hb hk bO hne
  go_enter Try.func65, Try.ntmps65
  go_wp2_with fail
  refine hP.mono ?_
  rintro e w1 ⟨A', rfl, p1, x1⟩
  have r2 := x1.1.cell q2 nA
  have r4 := x1.1.cell q4 nA
  have hQ := hq1 w1 A' x1
  clear hP hq1 q0 q2 q4
  go_wp2_with fail
  refine hQ.mono ?_
  rintro e w2 ⟨B', rfl, p2, x2⟩
  obtain ⟨f1, f2⟩ := both_step p1 x1 HQ.out hap p2 x2
  clear hQ p1 p2 r2 r4
  go_wp2
  go_returns
  exact ⟨_, rfl, f1, f2.after k0⟩
set_option maxHeartbeats 800000 in
theorem writes_append (v u ub vk : Value) (d : DS) (F : Foot) (wh n m cl : Int) (b : List UInt8) (keep : List Int) (w : World) (h : Both w v u d F) (hb : Bs w ub b) (hk : Is w vk keep) (hne : b ≠ [] → ∀ x, ub.ownBlock = some x → x ∉ F.own) (hcap : (d.loose.length + 1) * 40 ≤ 140737488355328) :
    Calls Try.prog 65 #[v, u, .agg #[.int .i64 6, .int .i64 wh, .int .i64 n, .int .i64 m, ub, .int .i64 cl, vk]] w fun e w' => ∃ F', e = .returned (.tuple #[.int .i64 (wE d 6 n b), .int .i64 (wE d 6 n b), .bool (isW 6)]) ∧ Both w' v u (wD d 6 n b) F' ∧ NextP w w' F F' := by
  obtain ⟨A, B, hp, hq, hap, rfl⟩ := h
  obtain ⟨gv, rfl⟩ := hp.ptr
  obtain ⟨gu, rfl⟩ := hq.ptr
  obtain ⟨pb, cb, rfl, -⟩ := id hb
  obtain ⟨pk, ck, rfl, -⟩ := id hk
  have k0 := (Kept.refl [] w).alloc (.cells #[.int .i64 6, .int .i64 wh, .int .i64 n, .int .i64 m, .slice pb b.length cb, .int .i64 cl, .slice pk keep.length ck] 59)
  have bO := Blk.new w 59 [.int .i64 6, .int .i64 wh, .int .i64 n, .int .i64 m, .slice pb b.length cb, .int .i64 cl, .slice pk keep.length ck]
  have q0 := bO.cell (j := 0) rfl
  have q2 := bO.cell (j := 2) rfl
  have q4 := bO.cell (j := 4) rfl
  have nA : w.heap.size ∉ A.own := fun hm => by have := hp.lt _ (Foot.inOwn hm); omega
  have hP := fAppend _ d A (.slice pb b.length cb) b _ (hp.kept k0 (by simp)) (hb.kept k0) (fun h0 x hx hm => hne h0 x hx (by simp [hm]))
  have hq1 := fun (w1 : World) (A' : Foot) (x1 : NextP (w.alloc (.cells #[.int .i64 6, .int .i64 wh, .int .i64 n, .int .i64 m, .slice pb b.length cb, .int .i64 cl, .slice pk keep.length ck] 59)) w1 A A') => qAppend _ d B (.slice pb b.length cb) b w1 ((hq.kept k0 (by simp)).kept x1.1 (fun x hx => hap x (Foot.inOwn hx))) ((hb.kept k0).keptNe x1.1 (fun h0 x hx hm => hne h0 x hx (by simp [hm]))) (fun h0 x hx hm => hne h0 x hx (by simp [hm]))
  have HQ : Hid (QD (w.alloc (.cells #[.int .i64 6, .int .i64 wh, .int .i64 n, .int .i64 m, .slice pb b.length cb, .int .i64 cl, .slice pk keep.length ck] 59)) _ d B) := hq.kept k0 (by simp)
  have HC : Hid ((d.loose.length + 1) * 40 ≤ 140737488355328) := hcap
  clear hcap hp hq hb hk bO hne
  go_enter Try.func65, Try.ntmps65
  go_wp2_with fail
  refine hP.mono ?_
  rintro e w1 ⟨A', rfl, p1, x1⟩
  have r2 := x1.1.cell q2 nA
  have r4 := x1.1.cell q4 nA
  have hQ := hq1 w1 A' x1
  clear hP hq1 q0 q2 q4
  go_wp2_with fail
  refine hQ.mono ?_
  rintro e w2 ⟨B', rfl, p2, x2⟩
  obtain ⟨f1, f2⟩ := both_step p1 x1 HQ.out hap p2 x2
  clear hQ p1 p2 r2 r4
  go_wp2
  go_returns
  exact ⟨_, rfl, f1, f2.after k0⟩
set_option maxHeartbeats 800000 in
theorem writes_synclog (v u ub vk : Value) (d : DS) (F : Foot) (wh n m cl : Int) (b : List UInt8) (keep : List Int) (w : World) (h : Both w v u d F) (hb : Bs w ub b) (hk : Is w vk keep) (hne : b ≠ [] → ∀ x, ub.ownBlock = some x → x ∉ F.own) (hcap : (d.loose.length + 1) * 40 ≤ 140737488355328) :
    Calls Try.prog 65 #[v, u, .agg #[.int .i64 7, .int .i64 wh, .int .i64 n, .int .i64 m, ub, .int .i64 cl, vk]] w fun e w' => ∃ F', e = .returned (.tuple #[.int .i64 (wE d 7 n b), .int .i64 (wE d 7 n b), .bool (isW 7)]) ∧ Both w' v u (wD d 7 n b) F' ∧ NextP w w' F F' := by
  obtain ⟨A, B, hp, hq, hap, rfl⟩ := h
  obtain ⟨gv, rfl⟩ := hp.ptr
  obtain ⟨gu, rfl⟩ := hq.ptr
  obtain ⟨pb, cb, rfl, -⟩ := id hb
  obtain ⟨pk, ck, rfl, -⟩ := id hk
  have k0 := (Kept.refl [] w).alloc (.cells #[.int .i64 7, .int .i64 wh, .int .i64 n, .int .i64 m, .slice pb b.length cb, .int .i64 cl, .slice pk keep.length ck] 59)
  have bO := Blk.new w 59 [.int .i64 7, .int .i64 wh, .int .i64 n, .int .i64 m, .slice pb b.length cb, .int .i64 cl, .slice pk keep.length ck]
  have q0 := bO.cell (j := 0) rfl
  have q2 := bO.cell (j := 2) rfl
  have q4 := bO.cell (j := 4) rfl
  have nA : w.heap.size ∉ A.own := fun hm => by have := hp.lt _ (Foot.inOwn hm); omega
  have hP := fSyncLog _ d A  _ (hp.kept k0 (by simp))
  have hq1 := fun (w1 : World) (A' : Foot) (x1 : NextP (w.alloc (.cells #[.int .i64 7, .int .i64 wh, .int .i64 n, .int .i64 m, .slice pb b.length cb, .int .i64 cl, .slice pk keep.length ck] 59)) w1 A A') => qSyncLog _ d B w1 ((hq.kept k0 (by simp)).kept x1.1 (fun x hx => hap x (Foot.inOwn hx)))
  have HQ : Hid (QD (w.alloc (.cells #[.int .i64 7, .int .i64 wh, .int .i64 n, .int .i64 m, .slice pb b.length cb, .int .i64 cl, .slice pk keep.length ck] 59)) _ d B) := hq.kept k0 (by simp)
  have HC : Hid ((d.loose.length + 1) * 40 ≤ 140737488355328) := hcap
  clear hcap hp hq hb hk bO hne
  go_enter Try.func65, Try.ntmps65
  go_wp2_with fail
  refine hP.mono ?_
  rintro e w1 ⟨A', rfl, p1, x1⟩
  have r2 := x1.1.cell q2 nA
  have r4 := x1.1.cell q4 nA
  have hQ := hq1 w1 A' x1
  clear hP hq1 q0 q2 q4
  go_wp2_with fail
  refine hQ.mono ?_
  rintro e w2 ⟨B', rfl, p2, x2⟩
  obtain ⟨f1, f2⟩ := both_step p1 x1 HQ.out hap p2 x2
  clear hQ p1 p2 r2 r4
  go_wp2
  go_returns
  exact ⟨_, rfl, f1, f2.after k0⟩
set_option maxHeartbeats 800000 in
theorem writes_cut (v u ub vk : Value) (d : DS) (F : Foot) (wh n m cl : Int) (b : List UInt8) (keep : List Int) (w : World) (h : Both w v u d F) (hb : Bs w ub b) (hk : Is w vk keep) (hne : b ≠ [] → ∀ x, ub.ownBlock = some x → x ∉ F.own) (hcap : (d.loose.length + 1) * 40 ≤ 140737488355328) :
    Calls Try.prog 65 #[v, u, .agg #[.int .i64 8, .int .i64 wh, .int .i64 n, .int .i64 m, ub, .int .i64 cl, vk]] w fun e w' => ∃ F', e = .returned (.tuple #[.int .i64 (wE d 8 n b), .int .i64 (wE d 8 n b), .bool (isW 8)]) ∧ Both w' v u (wD d 8 n b) F' ∧ NextP w w' F F' := by
  obtain ⟨A, B, hp, hq, hap, rfl⟩ := h
  obtain ⟨gv, rfl⟩ := hp.ptr
  obtain ⟨gu, rfl⟩ := hq.ptr
  obtain ⟨pb, cb, rfl, -⟩ := id hb
  obtain ⟨pk, ck, rfl, -⟩ := id hk
  have k0 := (Kept.refl [] w).alloc (.cells #[.int .i64 8, .int .i64 wh, .int .i64 n, .int .i64 m, .slice pb b.length cb, .int .i64 cl, .slice pk keep.length ck] 59)
  have bO := Blk.new w 59 [.int .i64 8, .int .i64 wh, .int .i64 n, .int .i64 m, .slice pb b.length cb, .int .i64 cl, .slice pk keep.length ck]
  have q0 := bO.cell (j := 0) rfl
  have q2 := bO.cell (j := 2) rfl
  have q4 := bO.cell (j := 4) rfl
  have nA : w.heap.size ∉ A.own := fun hm => by have := hp.lt _ (Foot.inOwn hm); omega
  have hP := fCut _ d A n _ (hp.kept k0 (by simp))
  have hq1 := fun (w1 : World) (A' : Foot) (x1 : NextP (w.alloc (.cells #[.int .i64 8, .int .i64 wh, .int .i64 n, .int .i64 m, .slice pb b.length cb, .int .i64 cl, .slice pk keep.length ck] 59)) w1 A A') => qCut _ d B n w1 ((hq.kept k0 (by simp)).kept x1.1 (fun x hx => hap x (Foot.inOwn hx)))
  have HQ : Hid (QD (w.alloc (.cells #[.int .i64 8, .int .i64 wh, .int .i64 n, .int .i64 m, .slice pb b.length cb, .int .i64 cl, .slice pk keep.length ck] 59)) _ d B) := hq.kept k0 (by simp)
  have HC : Hid ((d.loose.length + 1) * 40 ≤ 140737488355328) := hcap
  clear hcap hp hq hb hk bO hne
  go_enter Try.func65, Try.ntmps65
  go_wp2_with fail
  refine hP.mono ?_
  rintro e w1 ⟨A', rfl, p1, x1⟩
  have r2 := x1.1.cell q2 nA
  have r4 := x1.1.cell q4 nA
  have hQ := hq1 w1 A' x1
  clear hP hq1 q0 q2 q4
  go_wp2_with fail
  refine hQ.mono ?_
  rintro e w2 ⟨B', rfl, p2, x2⟩
  obtain ⟨f1, f2⟩ := both_step p1 x1 HQ.out hap p2 x2
  clear hQ p1 p2 r2 r4
  go_wp2
  go_returns
  exact ⟨_, rfl, f1, f2.after k0⟩
theorem writes_none (v u ub vk : Value) (d : DS) (F : Foot) (wh n m cl : Int) (b : List UInt8) (keep : List Int) (w : World) (h : Both w v u d F) (hb : Bs w ub b) (hk : Is w vk keep) (hne : b ≠ [] → ∀ x, ub.ownBlock = some x → x ∉ F.own) (hcap : (d.loose.length + 1) * 40 ≤ 140737488355328) (K : Int) (h1 : ¬ K = 1) (h3 : ¬ K = 3) (h10 : ¬ K = 10) (h4 : ¬ K = 4) (h11 : ¬ K = 11) (h6 : ¬ K = 6) (h7 : ¬ K = 7) (h8 : ¬ K = 8) :
    Calls Try.prog 65 #[v, u, .agg #[.int .i64 K, .int .i64 wh, .int .i64 n, .int .i64 m, ub, .int .i64 cl, vk]] w fun e w' => ∃ F', e = .returned (.tuple #[.int .i64 (wE d K n b), .int .i64 (wE d K n b), .bool (isW K)]) ∧ Both w' v u (wD d K n b) F' ∧ NextP w w' F F' := by
  have e1 : wE d K n b = 0 := by unfold wE; rw [if_neg h1, if_neg h3, if_neg h10, if_neg h4, if_neg h11, if_neg h6, if_neg h7, if_neg h8]
  have e2 : wD d K n b = d := by unfold wD; rw [if_neg h1, if_neg h3, if_neg h10, if_neg h4, if_neg h11, if_neg h6, if_neg h7, if_neg h8]
  have e3 : isW K = false := by unfold isW; simp [h1, h3, h10, h4, h11, h6, h7, h8]
  rw [e1, e2, e3]
  obtain ⟨pb, cb, rfl, -⟩ := id hb
  obtain ⟨pk, ck, rfl, -⟩ := id hk
  have k0 := (Kept.refl [] w).alloc (.cells #[.int .i64 K, .int .i64 wh, .int .i64 n, .int .i64 m, .slice pb b.length cb, .int .i64 cl, .slice pk keep.length ck] 59)
  have bO := Blk.new w 59 [.int .i64 K, .int .i64 wh, .int .i64 n, .int .i64 m, .slice pb b.length cb, .int .i64 cl, .slice pk keep.length ck]
  have q0 := bO.cell (j := 0) rfl
  have fin := h.kept k0 (by simp)
  clear hcap hb hk bO hne h e1 e2 e3
  go_enter Try.func65, Try.ntmps65
  go_wp2
  go_returns
  exact ⟨_, rfl, fin, k0.mono (by simp), fun x hx => .inl hx, fun x hx => .inl hx⟩
theorem writes_any (v u ub vk : Value) (d : DS) (F : Foot) (wh n m cl : Int) (b : List UInt8) (keep : List Int) (w : World) (h : Both w v u d F) (hb : Bs w ub b) (hk : Is w vk keep) (hne : b ≠ [] → ∀ x, ub.ownBlock = some x → x ∉ F.own) (hcap : (d.loose.length + 1) * 40 ≤ 140737488355328) (K : Int) :
    Calls Try.prog 65 #[v, u, .agg #[.int .i64 K, .int .i64 wh, .int .i64 n, .int .i64 m, ub, .int .i64 cl, vk]] w fun e w' => ∃ F', e = .returned (.tuple #[.int .i64 (wE d K n b), .int .i64 (wE d K n b), .bool (isW K)]) ∧ Both w' v u (wD d K n b) F' ∧ NextP w w' F F' := by
  by_cases h1 : K = 1
  · subst h1; exact writes_page v u ub vk d F wh n m cl b keep w h hb hk hne hcap
  by_cases h3 : K = 3
  · subst h3; exact writes_pair v u ub vk d F wh n m cl b keep w h hb hk hne hcap
  by_cases h10 : K = 10
  · subst h10; exact writes_master v u ub vk d F wh n m cl b keep w h hb hk hne hcap
  by_cases h4 : K = 4
  · subst h4; exact writes_sync v u ub vk d F wh n m cl b keep w h hb hk hne hcap
  by_cases h11 : K = 11
  · subst h11; exact writes_syncm v u ub vk d F wh n m cl b keep w h hb hk hne hcap
  by_cases h6 : K = 6
  · subst h6; exact writes_append v u ub vk d F wh n m cl b keep w h hb hk hne hcap
  by_cases h7 : K = 7
  · subst h7; exact writes_synclog v u ub vk d F wh n m cl b keep w h hb hk hne hcap
  by_cases h8 : K = 8
  · subst h8; exact writes_cut v u ub vk d F wh n m cl b keep w h hb hk hne hcap
  exact writes_none v u ub vk d F wh n m cl b keep w h hb hk hne hcap K h1 h3 h10 h4 h11 h6 h7 h8
end Go.Proofs.Ytmipmiaflompmaa

/-
  OWN WORK. The laws of disk: asked.
-/
namespace Go.Proofs.Ytmipmiaflompmaa
open Go.RowKit
set_option linter.unusedVariables false

/-- the error that a call which is an act answers, and what it makes -/
def aE (d : DS) (k n m : Int) (b : List UInt8) : Int := if k = 0 then readE d (pageIx d.np n) else if k = 1 then writeE d (pageIx d.np n) b else if k = 2 then readE d (some 0) else if k = 3 then writeE d (some 0) b else if k = 4 then aliveE d else if k = 5 then readLogE d n m else if k = 6 then appendE d b else if k = 7 then aliveE d else if k = 8 then cutE d n else if k = 9 then readE d (masterIx d.np n) else if k = 10 then writeE d (masterIx d.np n) b else if k = 11 then aliveE d else 0
def aD (d : DS) (k n m : Int) (b : List UInt8) : DS := if k = 0 then d.act else if k = 1 then d.write (pageIx d.np n) b else if k = 2 then d.act else if k = 3 then d.write (some 0) b else if k = 4 then d.sync false else if k = 5 then d.act else if k = 6 then d.append b else if k = 7 then d.syncLog else if k = 8 then d.cut n else if k = 9 then d.act else if k = 10 then d.write (masterIx d.np n) b else if k = 11 then d.sync true else d
set_option maxHeartbeats 800000 in
theorem asked_rpage (v ub vk : Value) (d : DS) (F : Foot) (wh n m cl : Int) (b : List UInt8) (keep : List Int) (w : World) (h : PF w v d F) (hb : Bs w ub b) (hk : Is w vk keep) (hne : b ≠ [] → ∀ x, ub.ownBlock = some x → x ∉ F.own) (hcap : (d.loose.length + 1) * 40 ≤ 140737488355328) :
    Calls Try.prog 24 #[v, .agg #[.int .i64 0, .int .i64 wh, .int .i64 n, .int .i64 m, ub, .int .i64 cl, vk]] w fun e w' => ∃ c l F', e = .returned (.tuple #[c, .int .i64 l, .int .i64 (aE d 0 n m b)]) ∧ PF w' v (aD d 0 n m b) F' ∧ NextP w w' F F' := by
  obtain ⟨gv, rfl⟩ := h.ptr
  obtain ⟨pb, cb, rfl, -⟩ := id hb
  obtain ⟨pk, ck, rfl, -⟩ := id hk
  have k0 := (Kept.refl [] w).alloc (.cells #[.int .i64 0, .int .i64 wh, .int .i64 n, .int .i64 m, .slice pb b.length cb, .int .i64 cl, .slice pk keep.length ck] 59)
  have bO := Blk.new w 59 [.int .i64 0, .int .i64 wh, .int .i64 n, .int .i64 m, .slice pb b.length cb, .int .i64 cl, .slice pk keep.length ck]
  have q0 := bO.cell (j := 0) rfl
  have q2 := bO.cell (j := 2) rfl
  have q3 := bO.cell (j := 3) rfl
  have q4 := bO.cell (j := 4) rfl
  have hP := fReadPage _ d F n _ (h.kept k0 (by simp))
  clear hcap hb hk bO hne h
  go_enter Try.func24, Try.ntmps24
  go_wp2_with fail
  refine hP.mono ?_
  rintro e w1 ⟨c, F', rfl, o1, -, p1, x1⟩
  obtain ⟨pc, cc, rfl⟩ := own_shape2 o1
  have fin := x1.after k0
  clear hP q0 q2 q3 q4 o1
  go_wp2
  go_returns
  exact ⟨_, _, _, rfl, p1, fin⟩
set_option maxHeartbeats 800000 in
theorem asked_wpage (v ub vk : Value) (d : DS) (F : Foot) (wh n m cl : Int) (b : List UInt8) (keep : List Int) (w : World) (h : PF w v d F) (hb : Bs w ub b) (hk : Is w vk keep) (hne : b ≠ [] → ∀ x, ub.ownBlock = some x → x ∉ F.own) (hcap : (d.loose.length + 1) * 40 ≤ 140737488355328) :
    Calls Try.prog 24 #[v, .agg #[.int .i64 1, .int .i64 wh, .int .i64 n, .int .i64 m, ub, .int .i64 cl, vk]] w fun e w' => ∃ c l F', e = .returned (.tuple #[c, .int .i64 l, .int .i64 (aE d 1 n m b)]) ∧ PF w' v (aD d 1 n m b) F' ∧ NextP w w' F F' := by
  obtain ⟨gv, rfl⟩ := h.ptr
  obtain ⟨pb, cb, rfl, -⟩ := id hb
  obtain ⟨pk, ck, rfl, -⟩ := id hk
  have k0 := (Kept.refl [] w).alloc (.cells #[.int .i64 1, .int .i64 wh, .int .i64 n, .int .i64 m, .slice pb b.length cb, .int .i64 cl, .slice pk keep.length ck] 59)
  have bO := Blk.new w 59 [.int .i64 1, .int .i64 wh, .int .i64 n, .int .i64 m, .slice pb b.length cb, .int .i64 cl, .slice pk keep.length ck]
  have q0 := bO.cell (j := 0) rfl
  have q2 := bO.cell (j := 2) rfl
  have q3 := bO.cell (j := 3) rfl
  have q4 := bO.cell (j := 4) rfl
  have hP := fWritePage _ d F n (.slice pb b.length cb) b _ (h.kept k0 (by simp)) (hb.kept k0) hne hcap
  clear hcap hb hk bO hne h
  go_enter Try.func24, Try.ntmps24
  go_wp2_with fail
  refine hP.mono ?_
  rintro e w1 ⟨F', rfl, p1, x1⟩
  have fin := x1.after k0
  clear hP q0 q2 q3 q4
  go_wp2
  go_returns
  exact ⟨_, _, _, rfl, p1, fin⟩
set_option maxHeartbeats 800000 in
theorem asked_rpair (v ub vk : Value) (d : DS) (F : Foot) (wh n m cl : Int) (b : List UInt8) (keep : List Int) (w : World) (h : PF w v d F) (hb : Bs w ub b) (hk : Is w vk keep) (hne : b ≠ [] → ∀ x, ub.ownBlock = some x → x ∉ F.own) (hcap : (d.loose.length + 1) * 40 ≤ 140737488355328) :
    Calls Try.prog 24 #[v, .agg #[.int .i64 2, .int .i64 wh, .int .i64 n, .int .i64 m, ub, .int .i64 cl, vk]] w fun e w' => ∃ c l F', e = .returned (.tuple #[c, .int .i64 l, .int .i64 (aE d 2 n m b)]) ∧ PF w' v (aD d 2 n m b) F' ∧ NextP w w' F F' := by
  obtain ⟨gv, rfl⟩ := h.ptr
  obtain ⟨pb, cb, rfl, -⟩ := id hb
  obtain ⟨pk, ck, rfl, -⟩ := id hk
  have k0 := (Kept.refl [] w).alloc (.cells #[.int .i64 2, .int .i64 wh, .int .i64 n, .int .i64 m, .slice pb b.length cb, .int .i64 cl, .slice pk keep.length ck] 59)
  have bO := Blk.new w 59 [.int .i64 2, .int .i64 wh, .int .i64 n, .int .i64 m, .slice pb b.length cb, .int .i64 cl, .slice pk keep.length ck]
  have q0 := bO.cell (j := 0) rfl
  have q2 := bO.cell (j := 2) rfl
  have q3 := bO.cell (j := 3) rfl
  have q4 := bO.cell (j := 4) rfl
  have hP := fReadPair _ d F  _ (h.kept k0 (by simp))
  clear hcap hb hk bO hne h
  go_enter Try.func24, Try.ntmps24
  go_wp2_with fail
  refine hP.mono ?_
  rintro e w1 ⟨c, F', rfl, o1, -, p1, x1⟩
  obtain ⟨pc, cc, rfl⟩ := own_shape2 o1
  have fin := x1.after k0
  clear hP q0 q2 q3 q4 o1
  go_wp2
  go_returns
  exact ⟨_, _, _, rfl, p1, fin⟩
set_option maxHeartbeats 800000 in
theorem asked_wpair (v ub vk : Value) (d : DS) (F : Foot) (wh n m cl : Int) (b : List UInt8) (keep : List Int) (w : World) (h : PF w v d F) (hb : Bs w ub b) (hk : Is w vk keep) (hne : b ≠ [] → ∀ x, ub.ownBlock = some x → x ∉ F.own) (hcap : (d.loose.length + 1) * 40 ≤ 140737488355328) :
    Calls Try.prog 24 #[v, .agg #[.int .i64 3, .int .i64 wh, .int .i64 n, .int .i64 m, ub, .int .i64 cl, vk]] w fun e w' => ∃ c l F', e = .returned (.tuple #[c, .int .i64 l, .int .i64 (aE d 3 n m b)]) ∧ PF w' v (aD d 3 n m b) F' ∧ NextP w w' F F' := by
  obtain ⟨gv, rfl⟩ := h.ptr
  obtain ⟨pb, cb, rfl, -⟩ := id hb
  obtain ⟨pk, ck, rfl, -⟩ := id hk
  have k0 := (Kept.refl [] w).alloc (.cells #[.int .i64 3, .int .i64 wh, .int .i64 n, .int .i64 m, .slice pb b.length cb, .int .i64 cl, .slice pk keep.length ck] 59)
  have bO := Blk.new w 59 [.int .i64 3, .int .i64 wh, .int .i64 n, .int .i64 m, .slice pb b.length cb, .int .i64 cl, .slice pk keep.length ck]
  have q0 := bO.cell (j := 0) rfl
  have q2 := bO.cell (j := 2) rfl
  have q3 := bO.cell (j := 3) rfl
  have q4 := bO.cell (j := 4) rfl
  have hP := fWritePair _ d F (.slice pb b.length cb) b _ (h.kept k0 (by simp)) (hb.kept k0) hne hcap
  clear hcap hb hk bO hne h
  go_enter Try.func24, Try.ntmps24
  go_wp2_with fail
  refine hP.mono ?_
  rintro e w1 ⟨F', rfl, p1, x1⟩
  have fin := x1.after k0
  clear hP q0 q2 q3 q4
  go_wp2
  go_returns
  exact ⟨_, _, _, rfl, p1, fin⟩
set_option maxHeartbeats 800000 in
theorem asked_sync (v ub vk : Value) (d : DS) (F : Foot) (wh n m cl : Int) (b : List UInt8) (keep : List Int) (w : World) (h : PF w v d F) (hb : Bs w ub b) (hk : Is w vk keep) (hne : b ≠ [] → ∀ x, ub.ownBlock = some x → x ∉ F.own) (hcap : (d.loose.length + 1) * 40 ≤ 140737488355328) :
    Calls Try.prog 24 #[v, .agg #[.int .i64 4, .int .i64 wh, .int .i64 n, .int .i64 m, ub, .int .i64 cl, vk]] w fun e w' => ∃ c l F', e = .returned (.tuple #[c, .int .i64 l, .int .i64 (aE d 4 n m b)]) ∧ PF w' v (aD d 4 n m b) F' ∧ NextP w w' F F' := by
  obtain ⟨gv, rfl⟩ := h.ptr
  obtain ⟨pb, cb, rfl, -⟩ := id hb
  obtain ⟨pk, ck, rfl, -⟩ := id hk
  have k0 := (Kept.refl [] w).alloc (.cells #[.int .i64 4, .int .i64 wh, .int .i64 n, .int .i64 m, .slice pb b.length cb, .int .i64 cl, .slice pk keep.length ck] 59)
  have bO := Blk.new w 59 [.int .i64 4, .int .i64 wh, .int .i64 n, .int .i64 m, .slice pb b.length cb, .int .i64 cl, .slice pk keep.length ck]
  have q0 := bO.cell (j := 0) rfl
  have q2 := bO.cell (j := 2) rfl
  have q3 := bO.cell (j := 3) rfl
  have q4 := bO.cell (j := 4) rfl
  have hP := fSync _ d F  _ (h.kept k0 (by simp)) (by omega)
  clear hcap hb hk bO hne h
  go_enter Try.func24, Try.ntmps24
  go_wp2_with fail
  refine hP.mono ?_
  rintro e w1 ⟨F', rfl, p1, x1⟩
  have fin := x1.after k0
  clear hP q0 q2 q3 q4
  go_wp2
  go_returns
  exact ⟨_, _, _, rfl, p1, fin⟩
set_option maxHeartbeats 800000 in
theorem asked_rlog (v ub vk : Value) (d : DS) (F : Foot) (wh n m cl : Int) (b : List UInt8) (keep : List Int) (w : World) (h : PF w v d F) (hb : Bs w ub b) (hk : Is w vk keep) (hne : b ≠ [] → ∀ x, ub.ownBlock = some x → x ∉ F.own) (hcap : (d.loose.length + 1) * 40 ≤ 140737488355328) :
    Calls Try.prog 24 #[v, .agg #[.int .i64 5, .int .i64 wh, .int .i64 n, .int .i64 m, ub, .int .i64 cl, vk]] w fun e w' => ∃ c l F', e = .returned (.tuple #[c, .int .i64 l, .int .i64 (aE d 5 n m b)]) ∧ PF w' v (aD d 5 n m b) F' ∧ NextP w w' F F' := by
  obtain ⟨gv, rfl⟩ := h.ptr
  obtain ⟨pb, cb, rfl, -⟩ := id hb
  obtain ⟨pk, ck, rfl, -⟩ := id hk
  have k0 := (Kept.refl [] w).alloc (.cells #[.int .i64 5, .int .i64 wh, .int .i64 n, .int .i64 m, .slice pb b.length cb, .int .i64 cl, .slice pk keep.length ck] 59)
  have bO := Blk.new w 59 [.int .i64 5, .int .i64 wh, .int .i64 n, .int .i64 m, .slice pb b.length cb, .int .i64 cl, .slice pk keep.length ck]
  have q0 := bO.cell (j := 0) rfl
  have q2 := bO.cell (j := 2) rfl
  have q3 := bO.cell (j := 3) rfl
  have q4 := bO.cell (j := 4) rfl
  have hP := fReadLog _ d F n m _ (h.kept k0 (by simp))
  clear hcap hb hk bO hne h
  go_enter Try.func24, Try.ntmps24
  go_wp2_with fail
  refine hP.mono ?_
  rintro e w1 ⟨c, F', rfl, o1, -, p1, x1⟩
  obtain ⟨pc, cc, rfl⟩ := own_shape2 o1
  have fin := x1.after k0
  clear hP q0 q2 q3 q4 o1
  go_wp2
  go_returns
  exact ⟨_, _, _, rfl, p1, fin⟩
set_option maxHeartbeats 800000 in
theorem asked_append (v ub vk : Value) (d : DS) (F : Foot) (wh n m cl : Int) (b : List UInt8) (keep : List Int) (w : World) (h : PF w v d F) (hb : Bs w ub b) (hk : Is w vk keep) (hne : b ≠ [] → ∀ x, ub.ownBlock = some x → x ∉ F.own) (hcap : (d.loose.length + 1) * 40 ≤ 140737488355328) :
    Calls Try.prog 24 #[v, .agg #[.int .i64 6, .int .i64 wh, .int .i64 n, .int .i64 m, ub, .int .i64 cl, vk]] w fun e w' => ∃ c l F', e = .returned (.tuple #[c, .int .i64 l, .int .i64 (aE d 6 n m b)]) ∧ PF w' v (aD d 6 n m b) F' ∧ NextP w w' F F' := by
  obtain ⟨gv, rfl⟩ := h.ptr
  obtain ⟨pb, cb, rfl, -⟩ := id hb
  obtain ⟨pk, ck, rfl, -⟩ := id hk
  have k0 := (Kept.refl [] w).alloc (.cells #[.int .i64 6, .int .i64 wh, .int .i64 n, .int .i64 m, .slice pb b.length cb, .int .i64 cl, .slice pk keep.length ck] 59)
  have bO := Blk.new w 59 [.int .i64 6, .int .i64 wh, .int .i64 n, .int .i64 m, .slice pb b.length cb, .int .i64 cl, .slice pk keep.length ck]
  have q0 := bO.cell (j := 0) rfl
  have q2 := bO.cell (j := 2) rfl
  have q3 := bO.cell (j := 3) rfl
  have q4 := bO.cell (j := 4) rfl
  have hP := fAppend _ d F (.slice pb b.length cb) b _ (h.kept k0 (by simp)) (hb.kept k0) hne
  clear hcap hb hk bO hne h
  go_enter Try.func24, Try.ntmps24
  go_wp2_with fail
  refine hP.mono ?_
  rintro e w1 ⟨F', rfl, p1, x1⟩
  have fin := x1.after k0
  clear hP q0 q2 q3 q4
  go_wp2
  go_returns
  exact ⟨_, _, _, rfl, p1, fin⟩
set_option maxHeartbeats 800000 in
theorem asked_slog (v ub vk : Value) (d : DS) (F : Foot) (wh n m cl : Int) (b : List UInt8) (keep : List Int) (w : World) (h : PF w v d F) (hb : Bs w ub b) (hk : Is w vk keep) (hne : b ≠ [] → ∀ x, ub.ownBlock = some x → x ∉ F.own) (hcap : (d.loose.length + 1) * 40 ≤ 140737488355328) :
    Calls Try.prog 24 #[v, .agg #[.int .i64 7, .int .i64 wh, .int .i64 n, .int .i64 m, ub, .int .i64 cl, vk]] w fun e w' => ∃ c l F', e = .returned (.tuple #[c, .int .i64 l, .int .i64 (aE d 7 n m b)]) ∧ PF w' v (aD d 7 n m b) F' ∧ NextP w w' F F' := by
  obtain ⟨gv, rfl⟩ := h.ptr
  obtain ⟨pb, cb, rfl, -⟩ := id hb
  obtain ⟨pk, ck, rfl, -⟩ := id hk
  have k0 := (Kept.refl [] w).alloc (.cells #[.int .i64 7, .int .i64 wh, .int .i64 n, .int .i64 m, .slice pb b.length cb, .int .i64 cl, .slice pk keep.length ck] 59)
  have bO := Blk.new w 59 [.int .i64 7, .int .i64 wh, .int .i64 n, .int .i64 m, .slice pb b.length cb, .int .i64 cl, .slice pk keep.length ck]
  have q0 := bO.cell (j := 0) rfl
  have q2 := bO.cell (j := 2) rfl
  have q3 := bO.cell (j := 3) rfl
  have q4 := bO.cell (j := 4) rfl
  have hP := fSyncLog _ d F  _ (h.kept k0 (by simp))
  clear hcap hb hk bO hne h
  go_enter Try.func24, Try.ntmps24
  go_wp2_with fail
  refine hP.mono ?_
  rintro e w1 ⟨F', rfl, p1, x1⟩
  have fin := x1.after k0
  clear hP q0 q2 q3 q4
  go_wp2
  go_returns
  exact ⟨_, _, _, rfl, p1, fin⟩
set_option maxHeartbeats 800000 in
theorem asked_cut (v ub vk : Value) (d : DS) (F : Foot) (wh n m cl : Int) (b : List UInt8) (keep : List Int) (w : World) (h : PF w v d F) (hb : Bs w ub b) (hk : Is w vk keep) (hne : b ≠ [] → ∀ x, ub.ownBlock = some x → x ∉ F.own) (hcap : (d.loose.length + 1) * 40 ≤ 140737488355328) :
    Calls Try.prog 24 #[v, .agg #[.int .i64 8, .int .i64 wh, .int .i64 n, .int .i64 m, ub, .int .i64 cl, vk]] w fun e w' => ∃ c l F', e = .returned (.tuple #[c, .int .i64 l, .int .i64 (aE d 8 n m b)]) ∧ PF w' v (aD d 8 n m b) F' ∧ NextP w w' F F' := by
  obtain ⟨gv, rfl⟩ := h.ptr
  obtain ⟨pb, cb, rfl, -⟩ := id hb
  obtain ⟨pk, ck, rfl, -⟩ := id hk
  have k0 := (Kept.refl [] w).alloc (.cells #[.int .i64 8, .int .i64 wh, .int .i64 n, .int .i64 m, .slice pb b.length cb, .int .i64 cl, .slice pk keep.length ck] 59)
  have bO := Blk.new w 59 [.int .i64 8, .int .i64 wh, .int .i64 n, .int .i64 m, .slice pb b.length cb, .int .i64 cl, .slice pk keep.length ck]
  have q0 := bO.cell (j := 0) rfl
  have q2 := bO.cell (j := 2) rfl
  have q3 := bO.cell (j := 3) rfl
  have q4 := bO.cell (j := 4) rfl
  have hP := fCut _ d F n _ (h.kept k0 (by simp))
  clear hcap hb hk bO hne h
  go_enter Try.func24, Try.ntmps24
  go_wp2_with fail
  refine hP.mono ?_
  rintro e w1 ⟨F', rfl, p1, x1⟩
  have fin := x1.after k0
  clear hP q0 q2 q3 q4
  go_wp2
  go_returns
  exact ⟨_, _, _, rfl, p1, fin⟩
set_option maxHeartbeats 800000 in
theorem asked_rmas (v ub vk : Value) (d : DS) (F : Foot) (wh n m cl : Int) (b : List UInt8) (keep : List Int) (w : World) (h : PF w v d F) (hb : Bs w ub b) (hk : Is w vk keep) (hne : b ≠ [] → ∀ x, ub.ownBlock = some x → x ∉ F.own) (hcap : (d.loose.length + 1) * 40 ≤ 140737488355328) :
    Calls Try.prog 24 #[v, .agg #[.int .i64 9, .int .i64 wh, .int .i64 n, .int .i64 m, ub, .int .i64 cl, vk]] w fun e w' => ∃ c l F', e = .returned (.tuple #[c, .int .i64 l, .int .i64 (aE d 9 n m b)]) ∧ PF w' v (aD d 9 n m b) F' ∧ NextP w w' F F' := by
  obtain ⟨gv, rfl⟩ := h.ptr
  obtain ⟨pb, cb, rfl, -⟩ := id hb
  obtain ⟨pk, ck, rfl, -⟩ := id hk
  have k0 := (Kept.refl [] w).alloc (.cells #[.int .i64 9, .int .i64 wh, .int .i64 n, .int .i64 m, .slice pb b.length cb, .int .i64 cl, .slice pk keep.length ck] 59)
  have bO := Blk.new w 59 [.int .i64 9, .int .i64 wh, .int .i64 n, .int .i64 m, .slice pb b.length cb, .int .i64 cl, .slice pk keep.length ck]
  have q0 := bO.cell (j := 0) rfl
  have q2 := bO.cell (j := 2) rfl
  have q3 := bO.cell (j := 3) rfl
  have q4 := bO.cell (j := 4) rfl
  have hP := fReadMaster _ d F n _ (h.kept k0 (by simp))
  clear hcap hb hk bO hne h
  go_enter Try.func24, Try.ntmps24
  go_wp2_with fail
  refine hP.mono ?_
  rintro e w1 ⟨c, F', rfl, o1, -, p1, x1⟩
  obtain ⟨pc, cc, rfl⟩ := own_shape2 o1
  have fin := x1.after k0
  clear hP q0 q2 q3 q4 o1
  go_wp2
  go_returns
  exact ⟨_, _, _, rfl, p1, fin⟩
set_option maxHeartbeats 800000 in
theorem asked_wmas (v ub vk : Value) (d : DS) (F : Foot) (wh n m cl : Int) (b : List UInt8) (keep : List Int) (w : World) (h : PF w v d F) (hb : Bs w ub b) (hk : Is w vk keep) (hne : b ≠ [] → ∀ x, ub.ownBlock = some x → x ∉ F.own) (hcap : (d.loose.length + 1) * 40 ≤ 140737488355328) :
    Calls Try.prog 24 #[v, .agg #[.int .i64 10, .int .i64 wh, .int .i64 n, .int .i64 m, ub, .int .i64 cl, vk]] w fun e w' => ∃ c l F', e = .returned (.tuple #[c, .int .i64 l, .int .i64 (aE d 10 n m b)]) ∧ PF w' v (aD d 10 n m b) F' ∧ NextP w w' F F' := by
  obtain ⟨gv, rfl⟩ := h.ptr
  obtain ⟨pb, cb, rfl, -⟩ := id hb
  obtain ⟨pk, ck, rfl, -⟩ := id hk
  have k0 := (Kept.refl [] w).alloc (.cells #[.int .i64 10, .int .i64 wh, .int .i64 n, .int .i64 m, .slice pb b.length cb, .int .i64 cl, .slice pk keep.length ck] 59)
  have bO := Blk.new w 59 [.int .i64 10, .int .i64 wh, .int .i64 n, .int .i64 m, .slice pb b.length cb, .int .i64 cl, .slice pk keep.length ck]
  have q0 := bO.cell (j := 0) rfl
  have q2 := bO.cell (j := 2) rfl
  have q3 := bO.cell (j := 3) rfl
  have q4 := bO.cell (j := 4) rfl
  have hP := fWriteMaster _ d F n (.slice pb b.length cb) b _ (h.kept k0 (by simp)) (hb.kept k0) hne hcap
  clear hcap hb hk bO hne h
  go_enter Try.func24, Try.ntmps24
  go_wp2_with fail
  refine hP.mono ?_
  rintro e w1 ⟨F', rfl, p1, x1⟩
  have fin := x1.after k0
  clear hP q0 q2 q3 q4
  go_wp2
  go_returns
  exact ⟨_, _, _, rfl, p1, fin⟩
set_option maxHeartbeats 800000 in
theorem asked_smas (v ub vk : Value) (d : DS) (F : Foot) (wh n m cl : Int) (b : List UInt8) (keep : List Int) (w : World) (h : PF w v d F) (hb : Bs w ub b) (hk : Is w vk keep) (hne : b ≠ [] → ∀ x, ub.ownBlock = some x → x ∉ F.own) (hcap : (d.loose.length + 1) * 40 ≤ 140737488355328) :
    Calls Try.prog 24 #[v, .agg #[.int .i64 11, .int .i64 wh, .int .i64 n, .int .i64 m, ub, .int .i64 cl, vk]] w fun e w' => ∃ c l F', e = .returned (.tuple #[c, .int .i64 l, .int .i64 (aE d 11 n m b)]) ∧ PF w' v (aD d 11 n m b) F' ∧ NextP w w' F F' := by
  obtain ⟨gv, rfl⟩ := h.ptr
  obtain ⟨pb, cb, rfl, -⟩ := id hb
  obtain ⟨pk, ck, rfl, -⟩ := id hk
  have k0 := (Kept.refl [] w).alloc (.cells #[.int .i64 11, .int .i64 wh, .int .i64 n, .int .i64 m, .slice pb b.length cb, .int .i64 cl, .slice pk keep.length ck] 59)
  have bO := Blk.new w 59 [.int .i64 11, .int .i64 wh, .int .i64 n, .int .i64 m, .slice pb b.length cb, .int .i64 cl, .slice pk keep.length ck]
  have q0 := bO.cell (j := 0) rfl
  have q2 := bO.cell (j := 2) rfl
  have q3 := bO.cell (j := 3) rfl
  have q4 := bO.cell (j := 4) rfl
  have hP := fSyncMasters _ d F  _ (h.kept k0 (by simp)) (by omega)
  clear hcap hb hk bO hne h
  go_enter Try.func24, Try.ntmps24
  go_wp2_with fail
  refine hP.mono ?_
  rintro e w1 ⟨F', rfl, p1, x1⟩
  have fin := x1.after k0
  clear hP q0 q2 q3 q4
  go_wp2
  go_returns
  exact ⟨_, _, _, rfl, p1, fin⟩
theorem asked_none (v ub vk : Value) (d : DS) (F : Foot) (wh n m cl : Int) (b : List UInt8) (keep : List Int) (w : World) (h : PF w v d F) (hb : Bs w ub b) (hk : Is w vk keep) (hne : b ≠ [] → ∀ x, ub.ownBlock = some x → x ∉ F.own) (hcap : (d.loose.length + 1) * 40 ≤ 140737488355328) (K : Int) (h0 : ¬ K = 0) (h1 : ¬ K = 1) (h2 : ¬ K = 2) (h3 : ¬ K = 3) (h4 : ¬ K = 4) (h5 : ¬ K = 5) (h6 : ¬ K = 6) (h7 : ¬ K = 7) (h8 : ¬ K = 8) (h9 : ¬ K = 9) (h10 : ¬ K = 10) (h11 : ¬ K = 11) :
    Calls Try.prog 24 #[v, .agg #[.int .i64 K, .int .i64 wh, .int .i64 n, .int .i64 m, ub, .int .i64 cl, vk]] w fun e w' => ∃ c l F', e = .returned (.tuple #[c, .int .i64 l, .int .i64 (aE d K n m b)]) ∧ PF w' v (aD d K n m b) F' ∧ NextP w w' F F' := by
  have e1 : aE d K n m b = 0 := by unfold aE; rw [if_neg h0, if_neg h1, if_neg h2, if_neg h3, if_neg h4, if_neg h5, if_neg h6, if_neg h7, if_neg h8, if_neg h9, if_neg h10, if_neg h11]
  have e2 : aD d K n m b = d := by unfold aD; rw [if_neg h0, if_neg h1, if_neg h2, if_neg h3, if_neg h4, if_neg h5, if_neg h6, if_neg h7, if_neg h8, if_neg h9, if_neg h10, if_neg h11]
  rw [e1, e2]
  obtain ⟨pb, cb, rfl, -⟩ := id hb
  obtain ⟨pk, ck, rfl, -⟩ := id hk
  have k0 := (Kept.refl [] w).alloc (.cells #[.int .i64 K, .int .i64 wh, .int .i64 n, .int .i64 m, .slice pb b.length cb, .int .i64 cl, .slice pk keep.length ck] 59)
  have bO := Blk.new w 59 [.int .i64 K, .int .i64 wh, .int .i64 n, .int .i64 m, .slice pb b.length cb, .int .i64 cl, .slice pk keep.length ck]
  have q0 := bO.cell (j := 0) rfl
  have fin := h.kept k0 (by simp)
  clear hcap hb hk bO hne h e1 e2
  go_enter Try.func24, Try.ntmps24
  go_wp2
  go_returns
  exact ⟨_, _, _, rfl, fin, k0.mono (by simp), fun x hx => .inl hx, fun x hx => .inl hx⟩
theorem asked_any (v ub vk : Value) (d : DS) (F : Foot) (wh n m cl : Int) (b : List UInt8) (keep : List Int) (w : World) (h : PF w v d F) (hb : Bs w ub b) (hk : Is w vk keep) (hne : b ≠ [] → ∀ x, ub.ownBlock = some x → x ∉ F.own) (hcap : (d.loose.length + 1) * 40 ≤ 140737488355328) (K : Int) :
    Calls Try.prog 24 #[v, .agg #[.int .i64 K, .int .i64 wh, .int .i64 n, .int .i64 m, ub, .int .i64 cl, vk]] w fun e w' => ∃ c l F', e = .returned (.tuple #[c, .int .i64 l, .int .i64 (aE d K n m b)]) ∧ PF w' v (aD d K n m b) F' ∧ NextP w w' F F' := by
  by_cases h0 : K = 0
  · subst h0; exact asked_rpage v ub vk d F wh n m cl b keep w h hb hk hne hcap
  by_cases h1 : K = 1
  · subst h1; exact asked_wpage v ub vk d F wh n m cl b keep w h hb hk hne hcap
  by_cases h2 : K = 2
  · subst h2; exact asked_rpair v ub vk d F wh n m cl b keep w h hb hk hne hcap
  by_cases h3 : K = 3
  · subst h3; exact asked_wpair v ub vk d F wh n m cl b keep w h hb hk hne hcap
  by_cases h4 : K = 4
  · subst h4; exact asked_sync v ub vk d F wh n m cl b keep w h hb hk hne hcap
  by_cases h5 : K = 5
  · subst h5; exact asked_rlog v ub vk d F wh n m cl b keep w h hb hk hne hcap
  by_cases h6 : K = 6
  · subst h6; exact asked_append v ub vk d F wh n m cl b keep w h hb hk hne hcap
  by_cases h7 : K = 7
  · subst h7; exact asked_slog v ub vk d F wh n m cl b keep w h hb hk hne hcap
  by_cases h8 : K = 8
  · subst h8; exact asked_cut v ub vk d F wh n m cl b keep w h hb hk hne hcap
  by_cases h9 : K = 9
  · subst h9; exact asked_rmas v ub vk d F wh n m cl b keep w h hb hk hne hcap
  by_cases h10 : K = 10
  · subst h10; exact asked_wmas v ub vk d F wh n m cl b keep w h hb hk hne hcap
  by_cases h11 : K = 11
  · subst h11; exact asked_smas v ub vk d F wh n m cl b keep w h hb hk hne hcap
  exact asked_none v ub vk d F wh n m cl b keep w h hb hk hne hcap K h0 h1 h2 h3 h4 h5 h6 h7 h8 h9 h10 h11
end Go.Proofs.Ytmipmiaflompmaa

/-
  OWN WORK. Plain disks: calls that are acts, and a stop.
-/
namespace Go.Proofs.Ytmipmiaflompmaa
set_option linter.unusedVariables false

/-- a call that is not done -/
theorem aE_dead (d : DS) (K n m : Int) (b : List UInt8) (hK : 0 ≤ K ∧ K ≤ 11) (h : d.alive = false) : aE d K n m b = 1 ∧ aD d K n m b = d.act := by
  have r1 : ∀ ix, readE d ix = 1 := fun ix => by unfold readE; rw [h]; rfl
  have w1 : ∀ ix, writeE d ix b = 1 := fun ix => by unfold writeE; rw [h]; rfl
  have w2 : ∀ ix, d.write ix b = d.act := fun ix => by
    unfold DS.write
    cases ix with
    | none => rfl
    | some k => simp [h]
  have a1 : aliveE d = 1 := by unfold aliveE; rw [h]; rfl
  have s1 : ∀ x, d.sync x = d.act := fun x => by unfold DS.sync; rw [h]; rfl
  have l1 : readLogE d n m = 1 := by unfold readLogE; rw [h]; rfl
  have p1 : appendE d b = 1 := by unfold appendE; rw [h]; rfl
  have p2 : d.append b = d.act := by unfold DS.append; rw [p1]; rfl
  have y1 : d.syncLog = d.act := by unfold DS.syncLog; rw [h]; rfl
  have c1 : cutE d n = 1 := by unfold cutE; rw [h]; rfl
  have c2 : d.cut n = d.act := by unfold DS.cut; rw [c1]; rfl
  rcases (by omega : K = 0 ∨ K = 1 ∨ K = 2 ∨ K = 3 ∨ K = 4 ∨ K = 5 ∨ K = 6 ∨ K = 7 ∨ K = 8 ∨ K = 9 ∨ K = 10 ∨ K = 11) with rfl | rfl | rfl | rfl | rfl | rfl | rfl | rfl | rfl | rfl | rfl | rfl
  · exact ⟨r1 _, rfl⟩
  · exact ⟨w1 _, w2 _⟩
  · exact ⟨r1 (some 0), rfl⟩
  · exact ⟨w1 (some 0), w2 (some 0)⟩
  · exact ⟨a1, s1 _⟩
  · exact ⟨l1, rfl⟩
  · exact ⟨p1, p2⟩
  · exact ⟨a1, y1⟩
  · exact ⟨c1, c2⟩
  · exact ⟨r1 _, rfl⟩
  · exact ⟨w1 _, w2 _⟩
  · exact ⟨a1, s1 _⟩
/-- a call that is done: its error is another one; acts, stop and death are the act's -/
theorem aE_alive (d : DS) (K n m : Int) (b : List UInt8) (hK : 0 ≤ K ∧ K ≤ 11) (h : d.alive = true) : aE d K n m b ≠ 1 ∧ (aD d K n m b).acts = d.act.acts ∧ (aD d K n m b).stop = d.act.stop ∧ (aD d K n m b).dead = d.act.dead := by
  have r1 : ∀ ix, readE d ix ≠ 1 := fun ix => by
    unfold readE
    rw [if_pos h]
    cases ix <;> simp
  have w1 : ∀ ix, writeE d ix b ≠ 1 := fun ix => by
    unfold writeE
    rw [if_pos h]
    cases ix with
    | none => simp
    | some k => simp only; split <;> omega
  have w2 : ∀ ix, (d.write ix b).acts = d.act.acts ∧ (d.write ix b).stop = d.act.stop ∧ (d.write ix b).dead = d.act.dead := fun ix => by
    unfold DS.write
    cases ix with
    | none => exact ⟨rfl, rfl, rfl⟩
    | some k => simp only; split <;> exact ⟨rfl, rfl, rfl⟩
  have a1 : aliveE d ≠ 1 := by unfold aliveE; rw [if_pos h]; omega
  have s1 : ∀ x, (d.sync x).acts = d.act.acts ∧ (d.sync x).stop = d.act.stop ∧ (d.sync x).dead = d.act.dead := fun x => by unfold DS.sync; split <;> exact ⟨rfl, rfl, rfl⟩
  have l1 : readLogE d n m ≠ 1 := by unfold readLogE; rw [if_pos h]; split <;> omega
  have p1 : appendE d b ≠ 1 := by unfold appendE; rw [if_pos h]; split <;> omega
  have p2 : (d.append b).acts = d.act.acts ∧ (d.append b).stop = d.act.stop ∧ (d.append b).dead = d.act.dead := by unfold DS.append; split <;> exact ⟨rfl, rfl, rfl⟩
  have y1 : d.syncLog.acts = d.act.acts ∧ d.syncLog.stop = d.act.stop ∧ d.syncLog.dead = d.act.dead := by unfold DS.syncLog; split <;> exact ⟨rfl, rfl, rfl⟩
  have c1 : cutE d n ≠ 1 := by unfold cutE; rw [if_pos h]; split <;> omega
  have c2 : (d.cut n).acts = d.act.acts ∧ (d.cut n).stop = d.act.stop ∧ (d.cut n).dead = d.act.dead := by unfold DS.cut; split <;> exact ⟨rfl, rfl, rfl⟩
  rcases (by omega : K = 0 ∨ K = 1 ∨ K = 2 ∨ K = 3 ∨ K = 4 ∨ K = 5 ∨ K = 6 ∨ K = 7 ∨ K = 8 ∨ K = 9 ∨ K = 10 ∨ K = 11) with rfl | rfl | rfl | rfl | rfl | rfl | rfl | rfl | rfl | rfl | rfl | rfl
  · exact ⟨r1 _, rfl, rfl, rfl⟩
  · exact ⟨w1 _, w2 _⟩
  · exact ⟨r1 (some 0), rfl, rfl, rfl⟩
  · exact ⟨w1 (some 0), w2 (some 0)⟩
  · exact ⟨a1, s1 _⟩
  · exact ⟨l1, rfl, rfl, rfl⟩
  · exact ⟨p1, p2⟩
  · exact ⟨a1, y1⟩
  · exact ⟨c1, c2⟩
  · exact ⟨r1 _, rfl, rfl, rfl⟩
  · exact ⟨w1 _, w2 _⟩
  · exact ⟨a1, s1 _⟩
/-- how a disk stands behind Stop(n) and k acts that were done -/
def StAt (n : Int) (k : Nat) (d : DS) : Prop := d.acts = (k : Int) ∧ ((n < 1 ∧ d.stop = 0 ∧ d.dead = false) ∨ (1 ≤ n ∧ (k : Int) ≤ n - 1 ∧ d.stop = n - (k : Int) ∧ d.dead = false) ∨ (1 ≤ n ∧ (k : Int) = n - 1 ∧ d.dead = true))
/-- the next call: dead, and nothing changes; or done -/
theorem StAt.next {n : Int} {k : Nat} {d : DS} (h : StAt n k d) (hk : (k : Int) < 9223372036854775807) (K x m : Int) (b : List UInt8) (hK : 0 ≤ K ∧ K ≤ 11) :
    ((1 ≤ n ∧ n - 1 ≤ (k : Int)) ∧ aE d K x m b = 1 ∧ (aD d K x m b).dead = true ∧ StAt n k (aD d K x m b) ∧ (aD d K x m b).image = d.image) ∨ (¬ (1 ≤ n ∧ n - 1 ≤ (k : Int)) ∧ aE d K x m b ≠ 1 ∧ (aD d K x m b).dead = false ∧ StAt n (k + 1) (aD d K x m b)) := by
  obtain ⟨ha, hh⟩ := h
  have hw : IntKind.i64.wrap (d.acts + 1) = ((k + 1 : Nat) : Int) := by rw [ha]; exact wrap_i64_of (by omega) (by omega)
  by_cases hd : 1 ≤ n ∧ n - 1 ≤ (k : Int)
  · left
    have hal : d.alive = false := by
      rcases hh with c | c | c
      · omega
      · have : d.stop = 1 := by omega
        simp [DS.alive, this]
      · simp [DS.alive, c.2.2]
    obtain ⟨e1, e2⟩ := aE_dead d K x m b hK hal
    have hdd : d.act.dead = true ∧ d.act.acts = d.acts := by
      unfold DS.act
      rcases hh with c | c | c
      · omega
      · rw [if_neg (by simp [c.2.2.2]), if_pos (by omega)]
        exact ⟨rfl, rfl⟩
      · rw [if_pos c.2.2]
        exact ⟨c.2.2, rfl⟩
    rw [e2]
    refine ⟨hd, e1, hdd.1, ⟨hdd.2.trans ha, .inr (.inr ⟨hd.1, by rcases hh with c | c | c <;> omega, hdd.1⟩)⟩, ?_⟩
    unfold DS.image
    rw [d.act_np, d.act_seen, d.act_log]
  · right
    have hal : d.alive = true ∧ d.dead = false ∧ d.stop ≠ 1 := by
      rcases hh with c | c | c
      · exact ⟨by simp [DS.alive, c.2.1, c.2.2], c.2.2, by omega⟩
      · have : d.stop ≠ 1 := by omega
        exact ⟨by simp [DS.alive, c.2.2.2, this], c.2.2.2, this⟩
      · omega
    obtain ⟨e1, e2, e3, e4⟩ := aE_alive d K x m b hK hal.1
    have hact : d.act = { d with stop := if 1 < d.stop then d.stop - 1 else d.stop, acts := IntKind.i64.wrap (d.acts + 1) } := by
      unfold DS.act
      rw [if_neg (by simp [hal.2.1]), if_neg hal.2.2]
    rw [hact] at e2 e3 e4
    simp only at e2 e3 e4
    rw [hw] at e2
    refine ⟨hd, e1, e4.trans hal.2.1, e2, ?_⟩
    rcases hh with c | c | c
    · left
      refine ⟨c.1, ?_, e4.trans hal.2.1⟩
      rw [e3, if_neg (by omega)]
      exact c.2.1
    · right; left
      refine ⟨c.1, by omega, ?_, e4.trans hal.2.1⟩
      rw [e3, if_pos (by omega)]
      omega
    · omega
end Go.Proofs.Ytmipmiaflompmaa

/-
  OWN WORK. Plain disks: what a crash that keeps all, one that keeps nothing, and three syncs leave.
-/
namespace Go.Proofs.Ytmipmiaflompmaa
set_option linter.unusedVariables false

theorem crash_ones (xs : List (Nat × List UInt8)) : ∀ (i : Nat) (rows : List (List UInt8)), crashRows [1] xs i rows = laid rows xs := by
  induction xs with
  | nil => intro i rows; rfl
  | cons x xs ih =>
    intro i rows
    show crashRows [1] xs (i + 1) (crashLay rows x (keepAt [1] i)) = laid (layR rows x.1 x.2 x.2.length) xs
    have h1 : keepAt [1] i = 1 := by
      unfold keepAt
      rw [show i % ([1] : List Int).length = 0 by simp; omega]
      rfl
    rw [ih, h1]
    rfl
theorem crash_zero (xs : List (Nat × List UInt8)) : ∀ (i : Nat) (rows : List (List UInt8)), crashRows [] xs i rows = rows := by
  induction xs with
  | nil => intro i rows; rfl
  | cons x xs ih =>
    intro i rows
    show crashRows [] xs (i + 1) (crashLay rows x (keepAt [] i)) = rows
    have h1 : keepAt [] i = 0 := by simp [keepAt, List.getD]
    rw [ih, h1]
    rfl
theorem restN_neg (m : Nat) : restN (-1) (m + 1) = m := by
  unfold restN
  have : (-1 : Int) % ((m + 1 : Nat) : Int) = (m : Int) := by
    rw [Int.neg_emod]
    split
    · rename_i h
      have := Int.le_of_dvd (by omega) h
      have : m = 0 := by omega
      subst this
      rfl
    · rcases Nat.eq_zero_or_pos m with e | e
      · subst e; simp at *
      · rw [Int.emod_eq_of_lt (by omega) (by omega)]
        simp; omega
  rw [this]
  rfl
theorem restN_zero (m : Nat) : restN 0 m = 0 := by simp [restN]
theorem DS.Ok.allLog {d : DS} (h : d.Ok) : crashLog d (-1) = d.log.length := by
  unfold crashLog
  rw [restN_neg]
  have := h.lasted
  omega
theorem crash_all_image {d : DS} (h : d.Ok) : (d.crash (-1) [1]).image = d.image ∧ (d.crash (-1) [1]).lasts = d.image := by
  have hl := h.allLog
  have e1 : (d.crash (-1) [1]).rows = d.seen := crash_ones _ _ _
  have e2 : (d.crash (-1) [1]).log = d.log := by
    show d.log.take (crashLog d (-1)) = d.log
    rw [hl, List.take_length]
  have e3 : (d.crash (-1) [1]).lasted = d.log.length := hl
  refine ⟨?_, ?_⟩
  · show imOf d.np (laid (d.crash (-1) [1]).rows []) (d.crash (-1) [1]).log = imOf d.np d.seen d.log
    rw [e1, e2]
    rfl
  · show imOf d.np (d.crash (-1) [1]).rows ((d.crash (-1) [1]).log.take (d.crash (-1) [1]).lasted) = imOf d.np d.seen d.log
    rw [e1, e2, e3, List.take_length]
theorem crash_none_image {d : DS} (h : d.Ok) : (d.crash 0 []).image = d.lasts ∧ (d.crash 0 []).lasts = d.lasts := by
  have hl : crashLog d 0 = d.lasted := by unfold crashLog; rw [restN_zero]; omega
  have e1 : (d.crash 0 []).rows = d.rows := crash_zero _ _ _
  have e2 : (d.crash 0 []).log = d.log.take d.lasted := by
    show d.log.take (crashLog d 0) = _
    rw [hl]
  have e3 : (d.crash 0 []).lasted = d.lasted := hl
  refine ⟨?_, ?_⟩
  · show imOf d.np (laid (d.crash 0 []).rows []) (d.crash 0 []).log = imOf d.np d.rows (d.log.take d.lasted)
    rw [e1, e2]
    rfl
  · show imOf d.np (d.crash 0 []).rows ((d.crash 0 []).log.take (d.crash 0 []).lasted) = imOf d.np d.rows (d.log.take d.lasted)
    rw [e1, e2, e3, List.take_take, Nat.min_self]
theorem layR_comm2 (rows : List (List UInt8)) {k k' : Nat} (b b' : List UInt8) (n n' : Nat) (h : k ≠ k') : layR (layR rows k b n) k' b' n' = layR (layR rows k' b' n') k b n := by
  unfold layR
  have g1 : (rows.set k (over (rows.getD k []) 0 (b.take n))).getD k' [] = rows.getD k' [] := by simp [List.getD, List.getElem?_set_ne h]
  have g2 : (rows.set k' (over (rows.getD k' []) 0 (b'.take n'))).getD k [] = rows.getD k [] := by simp [List.getD, List.getElem?_set_ne (Ne.symm h)]
  rw [g1, g2]
  exact List.set_comm _ _ h
theorem laid_layR (ys : List (Nat × List UInt8)) (k : Nat) (b : List UInt8) (n : Nat) : ∀ rows : List (List UInt8), (∀ y ∈ ys, y.1 ≠ k) → laid (layR rows k b n) ys = layR (laid rows ys) k b n := by
  induction ys with
  | nil => intro rows _; rfl
  | cons y ys ih =>
    intro rows h
    show laid (layR (layR rows k b n) y.1 y.2 y.2.length) ys = layR (laid (layR rows y.1 y.2 y.2.length) ys) k b n
    rw [layR_comm2 rows b y.2 n y.2.length (Ne.symm (h y (by simp))), ih _ (fun z hz => h z (by simp [hz]))]
theorem laid_split (f : Nat → Bool) (xs : List (Nat × List UInt8)) : ∀ rows : List (List UInt8), laid rows xs = laid (laid rows (xs.filter fun x => f x.1)) (xs.filter fun x => !f x.1) := by
  induction xs with
  | nil => intro rows; rfl
  | cons x xs ih =>
    intro rows
    show laid (layR rows x.1 x.2 x.2.length) xs = _
    rw [ih]
    cases hx : f x.1 with
    | true =>
      rw [List.filter_cons_of_pos (by simpa using hx), List.filter_cons_of_neg (by simp [hx])]
      rfl
    | false =>
      rw [List.filter_cons_of_neg (by simp [hx]), List.filter_cons_of_pos (by simp [hx])]
      show laid (laid (layR rows x.1 x.2 x.2.length) (xs.filter fun x => f x.1)) _ = laid (layR (laid rows (xs.filter fun x => f x.1)) x.1 x.2 x.2.length) _
      rw [laid_layR]
      intro y hy e
      have := (List.mem_filter.1 hy).2
      rw [e, hx] at this
      cases this
theorem act_free {d : DS} (h1 : d.dead = false) (h2 : d.stop = 0) : d.alive = true ∧ d.act = { d with acts := IntKind.i64.wrap (d.acts + 1) } := by
  refine ⟨by simp [DS.alive, h1, h2], ?_⟩
  unfold DS.act
  rw [if_neg (by simp [h1]), if_neg (by omega), if_neg (by omega)]
/-- the three syncs of a copy -/
def DS.synced (d : DS) : DS := ((d.copy.sync true).sync false).syncLog
theorem synced_eq (d : DS) : d.synced = { d with rows := d.seen, loose := [], lasted := d.log.length, acts := 3, stop := 0, dead := false } := by
  unfold DS.synced
  obtain ⟨a1, b1⟩ := act_free (d := d.copy) rfl rfl
  have e1 : d.copy.sync true = { d.copy with rows := laid d.rows (d.loose.filter fun x => isMaster d.np x.1 == true), loose := d.loose.filter (fun x => !(isMaster d.np x.1 == true)), acts := 1 } := by
    unfold DS.sync
    rw [if_pos a1, b1]
    rfl
  rw [e1]
  obtain ⟨a2, b2⟩ := act_free (d := { d.copy with rows := laid d.rows (d.loose.filter fun x => isMaster d.np x.1 == true), loose := d.loose.filter (fun x => !(isMaster d.np x.1 == true)), acts := 1 }) rfl rfl
  have e2 : DS.sync { d.copy with rows := laid d.rows (d.loose.filter fun x => isMaster d.np x.1 == true), loose := d.loose.filter (fun x => !(isMaster d.np x.1 == true)), acts := 1 } false = { d.copy with rows := d.seen, loose := [], acts := 2 } := by
    unfold DS.sync
    rw [if_pos a2, b2]
    have r1 : laid (laid d.rows (d.loose.filter fun x => isMaster d.np x.1 == true)) ((d.loose.filter fun x => !(isMaster d.np x.1 == true)).filter fun x => isMaster d.np x.1 == false) = d.seen := by
      unfold DS.seen
      rw [laid_split (fun k => isMaster d.np k == true) d.loose d.rows, List.filter_filter]
      congr 1
      apply List.filter_congr
      intro x _
      cases isMaster d.np x.1 <;> rfl
    have r2 : (d.loose.filter fun x => !(isMaster d.np x.1 == true)).filter (fun x => !(isMaster d.np x.1 == false)) = [] := by
      rw [List.filter_filter, List.filter_eq_nil_iff]
      intro x _
      cases isMaster d.np x.1 <;> simp
    show ({ d.copy with rows := laid (laid d.rows (d.loose.filter fun x => isMaster d.np x.1 == true)) ((d.loose.filter fun x => !(isMaster d.np x.1 == true)).filter fun x => isMaster d.np x.1 == false), loose := (d.loose.filter fun x => !(isMaster d.np x.1 == true)).filter (fun x => !(isMaster d.np x.1 == false)), acts := 2 } : DS) = _
    rw [r1, r2]
  rw [e2]
  obtain ⟨a3, b3⟩ := act_free (d := { d.copy with rows := d.seen, loose := [], acts := 2 }) rfl rfl
  unfold DS.syncLog
  rw [if_pos a3, b3]
  rfl
theorem synced_image (d : DS) : d.synced.image = d.image ∧ d.synced.lasts = d.image ∧ d.synced.acts = 3 := by
  rw [synced_eq]
  refine ⟨rfl, ?_, rfl⟩
  show imOf d.np d.seen (d.log.take d.log.length) = imOf d.np d.seen d.log
  rw [List.take_length]
end Go.Proofs.Ytmipmiaflompmaa

/-
  OWN WORK. The laws of disk: reads.
-/
namespace Go.Proofs.Ytmipmiaflompmaa
open Go.RowKit
set_option linter.unusedVariables false

/-- what a call of 'reads' makes -/
def rD (d : DS) (k : Int) : DS := if k = 0 ∨ k = 2 ∨ k = 9 ∨ k = 5 then d.act else d
set_option maxHeartbeats 800000 in
theorem reads_page (v u ub vk : Value) (d : DS) (F : Foot) (wh n m cl : Int) (b : List UInt8) (keep : List Int) (w : World) (h : Both w v u d F) (hb : Bs w ub b) (hk : Is w vk keep) :
    Calls Try.prog 66 #[v, u, .agg #[.int .i64 0, .int .i64 wh, .int .i64 n, .int .i64 m, ub, .int .i64 cl, vk]] w fun e w' => ∃ F', e = .returned (.bool true) ∧ Both w' v u (rD d 0) F' ∧ NextP w w' F F' := by
  obtain ⟨A, B, hp, hq, hap, rfl⟩ := h
  obtain ⟨gv, rfl⟩ := hp.ptr
  obtain ⟨gu, rfl⟩ := hq.ptr
  obtain ⟨pb, cb, rfl, -⟩ := id hb
  obtain ⟨pk, ck, rfl, -⟩ := id hk
  have k0 := (Kept.refl [] w).alloc (.cells #[.int .i64 0, .int .i64 wh, .int .i64 n, .int .i64 m, .slice pb b.length cb, .int .i64 cl, .slice pk keep.length ck] 59)
  have bO := Blk.new w 59 [.int .i64 0, .int .i64 wh, .int .i64 n, .int .i64 m, .slice pb b.length cb, .int .i64 cl, .slice pk keep.length ck]
  have q0 := bO.cell (j := 0) rfl
  have q2 := bO.cell (j := 2) rfl
  have q3 := bO.cell (j := 3) rfl
  have nA : w.heap.size ∉ A.own := fun hm => by have := hp.lt _ (Foot.inOwn hm); omega
  have hP := fReadPage _ d A n _ (hp.kept k0 (by simp))
  have hq1 := fun (w1 : World) (A' : Foot) (x1 : NextP (w.alloc (.cells #[.int .i64 0, .int .i64 wh, .int .i64 n, .int .i64 m, .slice pb b.length cb, .int .i64 cl, .slice pk keep.length ck] 59)) w1 A A') => qRead _ d B 0 n w1 ((hq.kept k0 (by simp)).kept x1.1 (fun x hx => hap x (Foot.inOwn hx)))
  simp only [idxOf_page] at hq1
  have HQ : Hid (QD (w.alloc (.cells #[.int .i64 0, .int .i64 wh, .int .i64 n, .int .i64 m, .slice pb b.length cb, .int .i64 cl, .slice pk keep.length ck] 59)) _ d B) := hq.kept k0 (by simp)
  have hlB : ∀ x ∈ B, x < w.heap.size := hq.lt
  clear hp hq hb hk bO
  generalize readE d (pageIx d.np n) = E at *
  go_enter Try.func66, Try.ntmps66
  go_wp2_with fail
  refine hP.mono ?_
  rintro e w1 ⟨c1, A', rfl, o1, -, p1, x1⟩
  have r2 := x1.1.cell q2 nA
  have r3 := x1.1.cell q3 nA
  have hQ := hq1 w1 A' x1
  clear hP hq1 q0 q2 q3
  go_wp2_with fail
  refine hQ.mono ?_
  rintro e w2 ⟨c2, B', rfl, o2, -, p2, x2⟩
  obtain ⟨f1, f2⟩ := both_step p1 x1 HQ.out hap p2 x2
  have s1 : Bs w2 c1 _ := (Bs.ofOwn o1).keptOwn x2.1 (fun x hx hm => by have h1 := own_ge o1 x hx; have h2 := hlB x hm; have h3 := k0.size; omega)
  have hS := same_eq c1 c2 _ w2 s1 (Bs.ofOwn o2)
  obtain ⟨pc1, cc1, rfl⟩ := own_shape2 o1
  obtain ⟨pc2, cc2, rfl⟩ := own_shape2 o2
  clear hQ p1 p2 r2 r3 s1 o1 o2
  go_wp2_with fail
  refine hS.mono ?_
  rintro e w3 ⟨rfl, rfl⟩
  clear hS
  go_wp2
  go_ret
  exact ⟨_, by simp, f1, f2.after k0⟩
set_option maxHeartbeats 800000 in
theorem reads_pair (v u ub vk : Value) (d : DS) (F : Foot) (wh n m cl : Int) (b : List UInt8) (keep : List Int) (w : World) (h : Both w v u d F) (hb : Bs w ub b) (hk : Is w vk keep) :
    Calls Try.prog 66 #[v, u, .agg #[.int .i64 2, .int .i64 wh, .int .i64 n, .int .i64 m, ub, .int .i64 cl, vk]] w fun e w' => ∃ F', e = .returned (.bool true) ∧ Both w' v u (rD d 2) F' ∧ NextP w w' F F' := by
  obtain ⟨A, B, hp, hq, hap, rfl⟩ := h
  obtain ⟨gv, rfl⟩ := hp.ptr
  obtain ⟨gu, rfl⟩ := hq.ptr
  obtain ⟨pb, cb, rfl, -⟩ := id hb
  obtain ⟨pk, ck, rfl, -⟩ := id hk
  have k0 := (Kept.refl [] w).alloc (.cells #[.int .i64 2, .int .i64 wh, .int .i64 n, .int .i64 m, .slice pb b.length cb, .int .i64 cl, .slice pk keep.length ck] 59)
  have bO := Blk.new w 59 [.int .i64 2, .int .i64 wh, .int .i64 n, .int .i64 m, .slice pb b.length cb, .int .i64 cl, .slice pk keep.length ck]
  have q0 := bO.cell (j := 0) rfl
  have q2 := bO.cell (j := 2) rfl
  have q3 := bO.cell (j := 3) rfl
  have nA : w.heap.size ∉ A.own := fun hm => by have := hp.lt _ (Foot.inOwn hm); omega
  have hP := fReadPair _ d A  _ (hp.kept k0 (by simp))
  have hq1 := fun (w1 : World) (A' : Foot) (x1 : NextP (w.alloc (.cells #[.int .i64 2, .int .i64 wh, .int .i64 n, .int .i64 m, .slice pb b.length cb, .int .i64 cl, .slice pk keep.length ck] 59)) w1 A A') => qRead _ d B 1 0 w1 ((hq.kept k0 (by simp)).kept x1.1 (fun x hx => hap x (Foot.inOwn hx)))
  simp only [idxOf_pair] at hq1
  have HQ : Hid (QD (w.alloc (.cells #[.int .i64 2, .int .i64 wh, .int .i64 n, .int .i64 m, .slice pb b.length cb, .int .i64 cl, .slice pk keep.length ck] 59)) _ d B) := hq.kept k0 (by simp)
  have hlB : ∀ x ∈ B, x < w.heap.size := hq.lt
  clear hp hq hb hk bO
  generalize readE d (some 0) = E at *
  go_enter Try.func66, Try.ntmps66
  go_wp2_with fail
  refine hP.mono ?_
  rintro e w1 ⟨c1, A', rfl, o1, -, p1, x1⟩
  have r2 := x1.1.cell q2 nA
  have r3 := x1.1.cell q3 nA
  have hQ := hq1 w1 A' x1
  clear hP hq1 q0 q2 q3
  go_wp2_with fail
  refine hQ.mono ?_
  rintro e w2 ⟨c2, B', rfl, o2, -, p2, x2⟩
  obtain ⟨f1, f2⟩ := both_step p1 x1 HQ.out hap p2 x2
  have s1 : Bs w2 c1 _ := (Bs.ofOwn o1).keptOwn x2.1 (fun x hx hm => by have h1 := own_ge o1 x hx; have h2 := hlB x hm; have h3 := k0.size; omega)
  have hS := same_eq c1 c2 _ w2 s1 (Bs.ofOwn o2)
  obtain ⟨pc1, cc1, rfl⟩ := own_shape2 o1
  obtain ⟨pc2, cc2, rfl⟩ := own_shape2 o2
  clear hQ p1 p2 r2 r3 s1 o1 o2
  go_wp2_with fail
  refine hS.mono ?_
  rintro e w3 ⟨rfl, rfl⟩
  clear hS
  go_wp2
  go_ret
  exact ⟨_, by simp, f1, f2.after k0⟩
set_option maxHeartbeats 800000 in
theorem reads_master (v u ub vk : Value) (d : DS) (F : Foot) (wh n m cl : Int) (b : List UInt8) (keep : List Int) (w : World) (h : Both w v u d F) (hb : Bs w ub b) (hk : Is w vk keep) :
    Calls Try.prog 66 #[v, u, .agg #[.int .i64 9, .int .i64 wh, .int .i64 n, .int .i64 m, ub, .int .i64 cl, vk]] w fun e w' => ∃ F', e = .returned (.bool true) ∧ Both w' v u (rD d 9) F' ∧ NextP w w' F F' := by
  obtain ⟨A, B, hp, hq, hap, rfl⟩ := h
  obtain ⟨gv, rfl⟩ := hp.ptr
  obtain ⟨gu, rfl⟩ := hq.ptr
  obtain ⟨pb, cb, rfl, -⟩ := id hb
  obtain ⟨pk, ck, rfl, -⟩ := id hk
  have k0 := (Kept.refl [] w).alloc (.cells #[.int .i64 9, .int .i64 wh, .int .i64 n, .int .i64 m, .slice pb b.length cb, .int .i64 cl, .slice pk keep.length ck] 59)
  have bO := Blk.new w 59 [.int .i64 9, .int .i64 wh, .int .i64 n, .int .i64 m, .slice pb b.length cb, .int .i64 cl, .slice pk keep.length ck]
  have q0 := bO.cell (j := 0) rfl
  have q2 := bO.cell (j := 2) rfl
  have q3 := bO.cell (j := 3) rfl
  have nA : w.heap.size ∉ A.own := fun hm => by have := hp.lt _ (Foot.inOwn hm); omega
  have hP := fReadMaster _ d A n _ (hp.kept k0 (by simp))
  have hq1 := fun (w1 : World) (A' : Foot) (x1 : NextP (w.alloc (.cells #[.int .i64 9, .int .i64 wh, .int .i64 n, .int .i64 m, .slice pb b.length cb, .int .i64 cl, .slice pk keep.length ck] 59)) w1 A A') => qRead _ d B 2 n w1 ((hq.kept k0 (by simp)).kept x1.1 (fun x hx => hap x (Foot.inOwn hx)))
  simp only [idxOf_master] at hq1
  have HQ : Hid (QD (w.alloc (.cells #[.int .i64 9, .int .i64 wh, .int .i64 n, .int .i64 m, .slice pb b.length cb, .int .i64 cl, .slice pk keep.length ck] 59)) _ d B) := hq.kept k0 (by simp)
  have hlB : ∀ x ∈ B, x < w.heap.size := hq.lt
  clear hp hq hb hk bO
  generalize readE d (masterIx d.np n) = E at *
  go_enter Try.func66, Try.ntmps66
  go_wp2_with fail
  refine hP.mono ?_
  rintro e w1 ⟨c1, A', rfl, o1, -, p1, x1⟩
  have r2 := x1.1.cell q2 nA
  have r3 := x1.1.cell q3 nA
  have hQ := hq1 w1 A' x1
  clear hP hq1 q0 q2 q3
  go_wp2_with fail
  refine hQ.mono ?_
  rintro e w2 ⟨c2, B', rfl, o2, -, p2, x2⟩
  obtain ⟨f1, f2⟩ := both_step p1 x1 HQ.out hap p2 x2
  have s1 : Bs w2 c1 _ := (Bs.ofOwn o1).keptOwn x2.1 (fun x hx hm => by have h1 := own_ge o1 x hx; have h2 := hlB x hm; have h3 := k0.size; omega)
  have hS := same_eq c1 c2 _ w2 s1 (Bs.ofOwn o2)
  obtain ⟨pc1, cc1, rfl⟩ := own_shape2 o1
  obtain ⟨pc2, cc2, rfl⟩ := own_shape2 o2
  clear hQ p1 p2 r2 r3 s1 o1 o2
  go_wp2_with fail
  refine hS.mono ?_
  rintro e w3 ⟨rfl, rfl⟩
  clear hS
  go_wp2
  go_ret
  exact ⟨_, by simp, f1, f2.after k0⟩
set_option maxHeartbeats 800000 in
theorem reads_log (v u ub vk : Value) (d : DS) (F : Foot) (wh n m cl : Int) (b : List UInt8) (keep : List Int) (w : World) (h : Both w v u d F) (hb : Bs w ub b) (hk : Is w vk keep) :
    Calls Try.prog 66 #[v, u, .agg #[.int .i64 5, .int .i64 wh, .int .i64 n, .int .i64 m, ub, .int .i64 cl, vk]] w fun e w' => ∃ F', e = .returned (.bool true) ∧ Both w' v u (rD d 5) F' ∧ NextP w w' F F' := by
  obtain ⟨A, B, hp, hq, hap, rfl⟩ := h
  obtain ⟨gv, rfl⟩ := hp.ptr
  obtain ⟨gu, rfl⟩ := hq.ptr
  obtain ⟨pb, cb, rfl, -⟩ := id hb
  obtain ⟨pk, ck, rfl, -⟩ := id hk
  have k0 := (Kept.refl [] w).alloc (.cells #[.int .i64 5, .int .i64 wh, .int .i64 n, .int .i64 m, .slice pb b.length cb, .int .i64 cl, .slice pk keep.length ck] 59)
  have bO := Blk.new w 59 [.int .i64 5, .int .i64 wh, .int .i64 n, .int .i64 m, .slice pb b.length cb, .int .i64 cl, .slice pk keep.length ck]
  have q0 := bO.cell (j := 0) rfl
  have q2 := bO.cell (j := 2) rfl
  have q3 := bO.cell (j := 3) rfl
  have nA : w.heap.size ∉ A.own := fun hm => by have := hp.lt _ (Foot.inOwn hm); omega
  have hP := fReadLog _ d A n m _ (hp.kept k0 (by simp))
  have hq1 := fun (w1 : World) (A' : Foot) (x1 : NextP (w.alloc (.cells #[.int .i64 5, .int .i64 wh, .int .i64 n, .int .i64 m, .slice pb b.length cb, .int .i64 cl, .slice pk keep.length ck] 59)) w1 A A') => qReadLog _ d B n m w1 ((hq.kept k0 (by simp)).kept x1.1 (fun x hx => hap x (Foot.inOwn hx)))
  have HQ : Hid (QD (w.alloc (.cells #[.int .i64 5, .int .i64 wh, .int .i64 n, .int .i64 m, .slice pb b.length cb, .int .i64 cl, .slice pk keep.length ck] 59)) _ d B) := hq.kept k0 (by simp)
  have hlB : ∀ x ∈ B, x < w.heap.size := hq.lt
  clear hp hq hb hk bO
  generalize readLogE d n m = E at *
  go_enter Try.func66, Try.ntmps66
  go_wp2_with fail
  refine hP.mono ?_
  rintro e w1 ⟨c1, A', rfl, o1, -, p1, x1⟩
  have r2 := x1.1.cell q2 nA
  have r3 := x1.1.cell q3 nA
  have hQ := hq1 w1 A' x1
  clear hP hq1 q0 q2 q3
  go_wp2_with fail
  refine hQ.mono ?_
  rintro e w2 ⟨c2, B', rfl, o2, -, p2, x2⟩
  obtain ⟨f1, f2⟩ := both_step p1 x1 HQ.out hap p2 x2
  have s1 : Bs w2 c1 _ := (Bs.ofOwn o1).keptOwn x2.1 (fun x hx hm => by have h1 := own_ge o1 x hx; have h2 := hlB x hm; have h3 := k0.size; omega)
  have hS := same_eq c1 c2 _ w2 s1 (Bs.ofOwn o2)
  obtain ⟨pc1, cc1, rfl⟩ := own_shape2 o1
  obtain ⟨pc2, cc2, rfl⟩ := own_shape2 o2
  clear hQ p1 p2 r2 r3 s1 o1 o2
  go_wp2_with fail
  refine hS.mono ?_
  rintro e w3 ⟨rfl, rfl⟩
  clear hS
  go_wp2
  go_ret
  exact ⟨_, by simp, f1, f2.after k0⟩
theorem reads_none (v u ub vk : Value) (d : DS) (F : Foot) (wh n m cl : Int) (b : List UInt8) (keep : List Int) (w : World) (h : Both w v u d F) (hb : Bs w ub b) (hk : Is w vk keep) (K : Int) (h0 : ¬ K = 0) (h2 : ¬ K = 2) (h9 : ¬ K = 9) (h5 : ¬ K = 5) :
    Calls Try.prog 66 #[v, u, .agg #[.int .i64 K, .int .i64 wh, .int .i64 n, .int .i64 m, ub, .int .i64 cl, vk]] w fun e w' => ∃ F', e = .returned (.bool true) ∧ Both w' v u (rD d K) F' ∧ NextP w w' F F' := by
  have e2 : rD d K = d := by unfold rD; rw [if_neg (by omega)]
  rw [e2]
  obtain ⟨pb, cb, rfl, -⟩ := id hb
  obtain ⟨pk, ck, rfl, -⟩ := id hk
  have k0 := (Kept.refl [] w).alloc (.cells #[.int .i64 K, .int .i64 wh, .int .i64 n, .int .i64 m, .slice pb b.length cb, .int .i64 cl, .slice pk keep.length ck] 59)
  have bO := Blk.new w 59 [.int .i64 K, .int .i64 wh, .int .i64 n, .int .i64 m, .slice pb b.length cb, .int .i64 cl, .slice pk keep.length ck]
  have q0 := bO.cell (j := 0) rfl
  have fin := h.kept k0 (by simp)
  clear hb hk bO h e2
  go_enter Try.func66, Try.ntmps66
  go_wp2
  go_ret
  exact ⟨_, rfl, fin, k0.mono (by simp), fun x hx => .inl hx, fun x hx => .inl hx⟩
theorem reads_any (v u ub vk : Value) (d : DS) (F : Foot) (wh n m cl : Int) (b : List UInt8) (keep : List Int) (w : World) (h : Both w v u d F) (hb : Bs w ub b) (hk : Is w vk keep) (K : Int) :
    Calls Try.prog 66 #[v, u, .agg #[.int .i64 K, .int .i64 wh, .int .i64 n, .int .i64 m, ub, .int .i64 cl, vk]] w fun e w' => ∃ F', e = .returned (.bool true) ∧ Both w' v u (rD d K) F' ∧ NextP w w' F F' := by
  by_cases h0 : K = 0
  · subst h0; exact reads_page v u ub vk d F wh n m cl b keep w h hb hk
  by_cases h2 : K = 2
  · subst h2; exact reads_pair v u ub vk d F wh n m cl b keep w h hb hk
  by_cases h9 : K = 9
  · subst h9; exact reads_master v u ub vk d F wh n m cl b keep w h hb hk
  by_cases h5 : K = 5
  · subst h5; exact reads_log v u ub vk d F wh n m cl b keep w h hb hk
  exact reads_none v u ub vk d F wh n m cl b keep w h hb hk K h0 h2 h9 h5
end Go.Proofs.Ytmipmiaflompmaa

/-
  OWN WORK. The laws of disk: sameImages.
-/
namespace Go.Proofs.Ytmipmiaflompmaa
open Go.RowKit
set_option linter.unusedVariables false

theorem SeeIm.pageAt {w : World} {V : IV} {m : IM} (h : SeeIm w V m) {i : Nat} (hi : i < m.ps.length) : ∃ b o c v l, V.vp = .slice (some ⟨b, o, none⟩) m.ps.length c ∧ w.cell? ⟨b, o + i, none⟩ = some v ∧ m.ps[i]? = some l ∧ Bs w v l := by
  obtain ⟨p, c, e, h1, h2, h3, h4⟩ := h.vp
  have hl := h.len
  obtain ⟨v, hv⟩ : ∃ v, V.pv[i]? = some v := ⟨_, List.getElem?_eq_getElem (by omega)⟩
  obtain ⟨l, hll⟩ : ∃ l, m.ps[i]? = some l := ⟨_, List.getElem?_eq_getElem hi⟩
  cases p with
  | none => have := h4 rfl; omega
  | some a =>
    have hc := h3 a rfl i v hv
    have hs := spot_of_cell (h3 a rfl 0 V.pv[0] (List.getElem?_eq_getElem (by omega)))
    have hs' : a.spot = none := by
      unfold Addr.add at hs
      split at hs <;> simp_all
    rw [add_none hs'] at hc
    exact ⟨a.block, a.off, c, v, l, by rw [e, hl]; obtain ⟨b, o, s⟩ := a; simp at hs'; subst hs'; rfl, hc, hll, h.ps i v l hv hll⟩
set_option maxHeartbeats 3200000 in
theorem sameImages_eq (V U : IV) (m : IM) (w : World) (hV : SeeIm w V m) (hU : SeeIm w U m) :
    Calls Try.prog 21 #[V.agg, U.agg] w fun e w' => e = .returned (.bool true) ∧ Kept [] w w' := by
  have HV : Hid (SeeIm w V m) := hV
  have HU : Hid (SeeIm w U m) := hU
  obtain ⟨u0, v0, e0, l0, m0', -⟩ := hV.vp
  obtain ⟨u1, v1, e1, -⟩ := hV.pair
  obtain ⟨u2, v2, e2, -⟩ := hV.log
  obtain ⟨u3, v3, e3, -⟩ := hV.m0
  obtain ⟨u4, v4, e4, -⟩ := hV.m1
  obtain ⟨a0, b0, f0, -⟩ := hU.vp
  obtain ⟨a1, b1, f1, -⟩ := hU.pair
  obtain ⟨a2, b2, f2, -⟩ := hU.log
  obtain ⟨a3, b3, f3, -⟩ := hU.m0
  obtain ⟨a4, b4, f4, -⟩ := hU.m1
  rw [hV.len] at e0 l0
  rw [hU.len] at f0
  have hbig : m.ps.length ≤ 9223372036854775807 := by unfold maxLen at m0'; omega
  have HB : Hid (m.ps.length ≤ 9223372036854775807) := hbig
  clear l0 m0' hbig
  obtain ⟨w2, hw2⟩ : ∃ w2, w2 = (w.alloc (.cells #[V.vp, V.pair, V.log, V.m0, V.m1] 43)).alloc (.cells #[U.vp, U.pair, U.log, U.m0, U.m1] 43) := ⟨_, rfl⟩
  have k2 : Kept [] w w2 := by rw [hw2]; exact ((Kept.refl [] w).alloc _).alloc _
  have bV : Blk w2 w.heap.size 43 [V.vp, V.pair, V.log, V.m0, V.m1] := by
    rw [hw2]
    exact (Blk.new w _ _).kept ((Kept.refl [] _).alloc _) (by simp)
  have bU : Blk w2 (w.heap.size + 1) 43 [U.vp, U.pair, U.log, U.m0, U.m1] := by
    rw [hw2]
    have := Blk.new (w.alloc (.cells #[V.vp, V.pair, V.log, V.m0, V.m1] 43)) 43 [U.vp, U.pair, U.log, U.m0, U.m1]
    rwa [World.size_alloc] at this
  have hs1 := same_eq _ _ m.pair w2 (hV.pair.kept k2) (hU.pair.kept k2)
  have hs2 := same_eq _ _ m.log w2 (hV.log.kept k2) (hU.log.kept k2)
  have hs3 := same_eq _ _ m.m0 w2 (hV.m0.kept k2) (hU.m0.kept k2)
  have hs4 := same_eq _ _ m.m1 w2 (hV.m1.kept k2) (hU.m1.kept k2)
  obtain ⟨⟨i0, i1, i2, i3, i4⟩, -⟩ := bV.five
  obtain ⟨⟨j0, j1, j2, j3, j4⟩, -⟩ := bU.five
  have K2 : Hid (Kept [] w w2) := k2
  have HVP : Hid (V.vp = .slice u0 m.ps.length v0 ∧ U.vp = .slice a0 m.ps.length b0) := ⟨e0, f0⟩
  unfold IV.agg
  rw [e0, e1, e2, e3, e4, f0, f1, f2, f3, f4] at hw2
  rw [e0, e1, e2, e3, e4, f0, f1, f2, f3, f4]
  rw [e0] at i0
  rw [e1] at i1 hs1
  rw [e2] at i2 hs2
  rw [e3] at i3 hs3
  rw [e4] at i4 hs4
  rw [f0] at j0
  rw [f1] at j1 hs1
  rw [f2] at j2 hs2
  rw [f3] at j3 hs3
  rw [f4] at j4 hs4
  have HW2 : Hid (w2 = (w.alloc (.cells #[.slice u0 m.ps.length v0, .slice u1 m.pair.length v1, .slice u2 m.log.length v2, .slice u3 m.m0.length v3, .slice u4 m.m1.length v4] 43)).alloc (.cells #[.slice a0 m.ps.length b0, .slice a1 m.pair.length b1, .slice a2 m.log.length b2, .slice a3 m.m0.length b3, .slice a4 m.m1.length b4] 43)) := hw2
  rw [hw2] at i0 i1 i2 i3 i4 j0 j1 j2 j3 j4
  clear bV bU hV hU e0 e1 e2 e3 e4 f0 f1 f2 f3 f4 hw2 k2
  go_enter Try.func21, Try.ntmps21
  go_wp2_with fail
  rw [← HW2.out]
  refine hs1.mono ?_
  rintro e w2 ⟨rfl, rfl⟩
  rw [← HW2.out] at i0 i1 i2 i3 i4 j0 j1 j2 j3 j4
  go_wp2_with fail
  refine hs2.mono ?_
  rintro e w2 ⟨rfl, rfl⟩
  go_wp2_with fail
  refine hs3.mono ?_
  rintro e w2 ⟨rfl, rfl⟩
  go_wp2_with fail
  refine hs4.mono ?_
  rintro e w2 ⟨rfl, rfl⟩
  clear hs1 hs2 hs3 hs4 i1 i2 i3 i4 j1 j2 j3 j4
  go_wp2_with fail
  go_loopw [5] (fun i wr => ∃ t : Nat, t ≤ m.ps.length ∧ i = .int .i64 t ∧ Kept [] w2 wr) (fun i _ => m.ps.length - (intOf i).toNat)
  case atStart => exact ⟨0, Nat.zero_le _, rfl, Kept.refl _ _⟩
  case round =>
    obtain ⟨t, ht, rfl, kr⟩ := hrel
    have x0 := kr.cell i0 (by simp)
    have y0 := kr.cell j0 (by simp)
    by_cases hlt : t < m.ps.length
    · obtain ⟨gb, go, gc, gv, gl, q1, q2, q3, q4⟩ := HV.out.pageAt hlt
      obtain ⟨hb, ho, hc, hv, hl, r1, r2, r3, r4⟩ := HU.out.pageAt hlt
      rw [HVP.out.1] at q1
      rw [HVP.out.2] at r1
      cases q1
      cases r1
      obtain rfl : gl = hl := Option.some.inj (q3.symm.trans r3)
      have kk := K2.out.then kr
      have p1 := kk.cell q2 (by simp)
      have p2 := kk.cell r2 (by simp)
      have hs := fun (w' : World) (k : Kept [] w w') => same_eq gv hv gl w' (q4.kept k) (r4.kept k)
      obtain ⟨z1, z2, rfl, -⟩ := id q4
      obtain ⟨z3, z4, rfl, -⟩ := id r4
      have hlt' : (t : Int) < (m.ps.length : Int) := by omega
      have wk : IntKind.i64.wrap ((t : Int) + 1) = (t : Int) + 1 := wrap_i64_of (by omega) (by have := HB.out; omega)
      clear q2 q3 q4 r2 r3 r4
      go_wp2
      go_region_held3 (fun w' => w'.cell? ⟨w.heap.size, 0, none⟩ = some (.slice (some ⟨gb, go, none⟩) m.ps.length v0) ∧ w'.cell? ⟨w.heap.size + 1, 0, none⟩ = some (.slice (some ⟨hb, ho, none⟩) m.ps.length b0) ∧ w'.cell? ⟨gb, go + t, none⟩ = some (.slice z1 gl.length z2) ∧ w'.cell? ⟨hb, ho + t, none⟩ = some (.slice z3 gl.length z4))
        (first | (exact ⟨x0, y0, p1, p2⟩) | go_keep)
        (first
          | (go_at_call 20; refine (hs _ (by exact kk.drew)).mono ?_; rintro e w5 ⟨rfl, rfl⟩)
          | fail)
      clear hs
      go_wp2
      go_roundw
      case rel => exact ⟨t + 1, by omega, by go_num, kr.drew⟩
      case measure => simp [intOf]; omega
    · have hlt' : ¬ (t : Int) < (m.ps.length : Int) := by omega
      go_wp2
      go_ret
      exact ⟨rfl, K2.out.then kr⟩
end Go.Proofs.Ytmipmiaflompmaa

/-
  OWN WORK. The laws of disk: a book of disks.
-/
namespace Go.Proofs.Ytmipmiaflompmaa
open Go.RowKit
set_option linter.unusedVariables false

/-- two disks of a book, what they tell, their blocks -/
structure Ent where
  v : Value
  u : Value
  d : DS
  F : Foot
/-- neither turns what the other has -/
def Far (A B : Foot) : Prop := (∀ x ∈ A.own, x ∉ B.all) ∧ ∀ x ∈ B.own, x ∉ A.all
theorem Far.symm {A B : Foot} (h : Far A B) : Far B A := ⟨h.2, h.1⟩
theorem Far.next {w w' : World} {A B B' : Foot} (h : Far A B) (hA : ∀ x ∈ A.all, x < w.heap.size) (hx : NextP w w' B B') : Far A B' :=
  ⟨fun x hx1 hx2 => by
    rcases hx.all x hx2 with c | c
    · exact h.1 x hx1 c
    · have := hA x (Foot.inOwn hx1); omega, fun x hx1 hx2 => by
    rcases hx.2.1 x hx1 with c | c
    · exact h.2 x c hx2
    · have := hA x hx2; omega⟩
/-- the book at block g; all of it lies from base on -/
structure Book (base : Nat) (w : World) (g : Nat) (vD vR : Value) (E : List Ent) : Prop where
  blk : Blk w g 56 [vD, vR]
  rowD : w.ownsRow base 27 1 vD E.length (E.map (·.v))
  rowR : w.ownsRow base 76 1 vR E.length (E.map (·.u))
  both : ∀ e ∈ E, Both w e.v e.u e.d e.F
  apart : E.Pairwise fun a b => Far a.F b.F
  own : ∀ e ∈ E, g ∉ e.F.all ∧ (∀ x, vD.ownBlock = some x → x ∉ e.F.all) ∧ (∀ x, vR.ownBlock = some x → x ∉ e.F.all)
  low : base ≤ g ∧ ∀ e ∈ E, ∀ x ∈ e.F.all, base ≤ x
theorem own_differ {w : World} {b1 b2 e1 e2 n1 n2 : Nat} {v1 v2 : Value} {xs ys : List Value} (h1 : w.ownsRow b1 e1 1 v1 n1 xs) (h2 : w.ownsRow b2 e2 1 v2 n2 ys) (he : e1 ≠ e2) {x : Nat} (hx : v1.ownBlock = some x) : v2.ownBlock ≠ some x := by
  intro hy
  rcases h1.2 with ⟨rfl, _⟩ | ⟨g1, cap1, cur1, rfl, -, a1, -⟩
  · cases hx
  · rcases h2.2 with ⟨rfl, _⟩ | ⟨g2, cap2, cur2, rfl, -, a2, -⟩
    · cases hy
    · simp [Value.ownBlock] at hx hy
      subst hx
      subst hy
      rw [a1] at a2
      simp at a2
      exact he a2.2
theorem own_at {w : World} {base e n : Nat} {v : Value} {xs : List Value} (h : w.ownsRow base e 1 v n xs) (hn : 0 < n) : ∃ g c, v = .slice (some ⟨g, 0, none⟩) n c ∧ n ≤ c ∧ c ≤ maxLen ∧ ∀ (j : Nat) u, xs[j]? = some u → w.cell? ⟨g, j, none⟩ = some u := by
  rcases h.2 with ⟨-, e0⟩ | ⟨g, cap, cur, rfl, -, h2, h3, h4, -, h5⟩
  · omega
  · refine ⟨g, cap, rfl, h3, h4, fun j u hj => ?_⟩
    rw [← h5, List.getElem?_take] at hj
    split at hj
    · simp [World.cell?, h2]
      simpa using hj
    · cases hj
/-- a pair of disks turns -/
theorem Book.step {base g i : Nat} {w w' : World} {vD vR : Value} {E : List Ent} {e : Ent} {d' : DS} {F' : Foot} (h : Book base w g vD vR E) (hi : E[i]? = some e) (hB : Both w' e.v e.u d' F') (hx : NextP w w' e.F F') : Book base w' g vD vR (E.set i ⟨e.v, e.u, d', F'⟩) := by
  have he : e ∈ E := List.mem_of_getElem? hi
  obtain ⟨hil, hie⟩ := List.getElem?_eq_some_iff.1 hi
  have hb0 : base ≤ w.heap.size := Nat.le_trans h.low.1 (Nat.le_of_lt h.blk.lt)
  obtain ⟨o1, o2, o3⟩ := h.own e he
  have emap : ∀ (f : Ent → Value), f ⟨e.v, e.u, d', F'⟩ = f e → (E.set i ⟨e.v, e.u, d', F'⟩).map f = E.map f := fun f hf => by
    apply List.ext_getElem?
    intro j
    rw [List.getElem?_map, List.getElem?_map, List.getElem?_set]
    by_cases c : i = j
    · subst c
      rw [if_pos rfl, if_pos hil, hi]
      simp [hf]
    · rw [if_neg c]
  -- the others are apart from e
  have hap : ∀ j (a : Ent), E[j]? = some a → j ≠ i → Far a.F e.F := fun j a hj hne => by
    obtain ⟨hjl, hje⟩ := List.getElem?_eq_some_iff.1 hj
    rcases Nat.lt_or_gt_of_ne hne with c | c
    · have := (List.pairwise_iff_getElem.1 h.apart) j i hjl hil c
      rw [hje, hie] at this
      exact this
    · have := (List.pairwise_iff_getElem.1 h.apart) i j hil hjl c
      rw [hje, hie] at this
      exact this.symm
  have hap2 : ∀ j (a : Ent), E[j]? = some a → j ≠ i → Far a.F F' := fun j a hj hne => (hap j a hj hne).next (h.both a (List.mem_of_getElem? hj)).lt hx
  have mem : ∀ a ∈ E.set i ⟨e.v, e.u, d', F'⟩, a = ⟨e.v, e.u, d', F'⟩ ∨ ∃ j, j ≠ i ∧ E[j]? = some a := fun a ha => by
    obtain ⟨j, hj⟩ := List.getElem?_of_mem ha
    rw [List.getElem?_set] at hj
    by_cases c : i = j
    · rw [if_pos c] at hj
      rw [if_pos hil] at hj
      left
      exact (Option.some.inj hj).symm
    · rw [if_neg c] at hj
      exact .inr ⟨j, fun e => c e.symm, hj⟩
  refine ⟨h.blk.kept hx.1 (fun hm => o1 (Foot.inOwn hm)), ?_, ?_, fun a ha => ?_, ?_, fun a ha => ?_, h.low.1, fun a ha x hxa => ?_⟩
  · rw [List.length_set, emap _ rfl]
    exact own_of_kept h.rowD hx.1 (fun x h1 h2 => o2 x h1 (Foot.inOwn h2))
  · rw [List.length_set, emap _ rfl]
    exact own_of_kept h.rowR hx.1 (fun x h1 h2 => o3 x h1 (Foot.inOwn h2))
  · rcases mem a ha with rfl | ⟨j, hj, hja⟩
    · exact hB
    · exact (h.both a (List.mem_of_getElem? hja)).kept hx.1 (fun x hx1 hx2 => (hap j a hja hj).2 x hx1 hx2)
  · rw [List.pairwise_iff_getElem]
    intro j k hj hk hjk
    simp only [List.length_set] at hj hk
    rw [List.getElem_set, List.getElem_set]
    by_cases c1 : i = j
    · rw [if_pos c1, if_neg (by omega)]
      exact (hap2 k _ (List.getElem?_eq_getElem hk) (by omega)).symm
    · rw [if_neg c1]
      by_cases c2 : i = k
      · rw [if_pos c2]
        exact hap2 j _ (List.getElem?_eq_getElem hj) (fun e => c1 e.symm)
      · rw [if_neg c2]
        exact (List.pairwise_iff_getElem.1 h.apart) j k hj hk hjk
  · rcases mem a ha with rfl | ⟨j, hj, hja⟩
    · refine ⟨fun hm => ?_, fun x hx1 hm => ?_, fun x hx1 hm => ?_⟩
      · rcases hx.all g hm with c | c
        · exact o1 c
        · have := h.blk.lt; omega
      · rcases hx.all x hm with c | c
        · exact o2 x hx1 c
        · have := own_lt h.rowD x hx1; omega
      · rcases hx.all x hm with c | c
        · exact o3 x hx1 c
        · have := own_lt h.rowR x hx1; omega
    · exact h.own a (List.mem_of_getElem? hja)
  · rcases mem a ha with rfl | ⟨j, hj, hja⟩
    · rcases hx.all x hxa with c | c
      · exact h.low.2 e he x c
      · omega
    · exact h.low.2 a (List.mem_of_getElem? hja) x hxa
/-- nothing of it is touched -/
theorem Book.kept {base g : Nat} {w w' : World} {vD vR : Value} {E : List Ent} {S : List Nat} (h : Book base w g vD vR E) (k : Kept S w w') (hS : ∀ x ∈ S, x < base) : Book base w' g vD vR E := by
  have n1 := h.low
  refine ⟨h.blk.kept k (fun hm => by have := hS g hm; omega), own_of_kept h.rowD k (fun x hx hm => by have := own_ge h.rowD x hx; have := hS x hm; omega), own_of_kept h.rowR k (fun x hx hm => by have := own_ge h.rowR x hx; have := hS x hm; omega), fun e he => (h.both e he).kept k (fun x hx hm => by have := n1.2 e he x hm; have := hS x hx; omega), h.apart, h.own, h.low⟩
/-- where the pointers lie -/
theorem Book.at {base g i : Nat} {w : World} {vD vR : Value} {E : List Ent} {e : Ent} (h : Book base w g vD vR E) (hi : E[i]? = some e) :
    ∃ bD cD bR cR, vD = .slice (some ⟨bD, 0, none⟩) E.length cD ∧ vR = .slice (some ⟨bR, 0, none⟩) E.length cR ∧ w.cell? ⟨bD, i, none⟩ = some e.v ∧ w.cell? ⟨bR, i, none⟩ = some e.u ∧ w.cell? ⟨g, 0, none⟩ = some vD ∧ w.cell? ⟨g, 1, none⟩ = some vR := by
  obtain ⟨hil, hie⟩ := List.getElem?_eq_some_iff.1 hi
  obtain ⟨bD, cD, rfl, -, -, hD⟩ := own_at h.rowD (by omega)
  obtain ⟨bR, cR, rfl, -, -, hR⟩ := own_at h.rowR (by omega)
  refine ⟨bD, cD, bR, cR, rfl, rfl, ?_, ?_, h.blk.cell (j := 0) rfl, h.blk.cell (j := 1) rfl⟩
  · exact hD i _ (by rw [List.getElem?_map, hi]; rfl)
  · exact hR i _ (by rw [List.getElem?_map, hi]; rfl)
end Go.Proofs.Ytmipmiaflompmaa

/-
  OWN WORK. The laws of disk: stands.
-/
namespace Go.Proofs.Ytmipmiaflompmaa
open Go.RowKit
set_option linter.unusedVariables false

theorem QD.fields {w : World} {v : Value} {d : DS} {F : List Nat} (h : QD w v d F) : ∃ g, v = .pointer (some ⟨g, 0, none⟩) ∧ w.cell? ⟨g, 0, none⟩ = some (.int .i64 (d.np : Int)) ∧ w.cell? ⟨g, 1, none⟩ = some (.int .i64 (d.ns : Int)) ∧ w.cell? ⟨g, 2, none⟩ = some (.int .i64 (d.lm : Int)) ∧ (∃ p c, w.cell? ⟨g, 9, none⟩ = some (.slice p d.log.length c)) ∧ w.cell? ⟨g, 11, none⟩ = some (.int .i64 d.acts) ∧ w.cell? ⟨g, 13, none⟩ = some (.bool d.dead) := by
  obtain ⟨g, R, e, h, -⟩ := h
  obtain ⟨p, c, el, -⟩ := h.shapes
  have c9 := h.blk.cell (j := 9) rfl
  rw [el] at c9
  exact ⟨g, e, h.blk.cell (j := 0) rfl, h.blk.cell (j := 1) rfl, h.blk.cell (j := 2) rfl, ⟨p, c, c9⟩, h.blk.cell (j := 11) rfl, h.blk.cell (j := 13) rfl⟩
theorem OwnIm.see {w : World} {b : Nat} {V : IV} {m : IM} (h : OwnIm w b V m) : SeeIm w V m := by
  have hl := h.len
  have at' : ∀ (i : Nat) v l, V.rows[i]? = some v → m.all[i]? = some l → Bs w v l := fun i v l hv hl => Bs.ofOwn (h.fam.own i v l hv hl)
  refine ⟨?_, hl, fun i v l hv hll => ?_, at' 1 _ _ rfl rfl, at' 0 _ _ rfl rfl, ?_, ?_⟩
  · rcases h.row.2 with ⟨e, e0⟩ | ⟨g, cap, cur, e, -, h2, h3, h4, -, h5⟩
    · exact ⟨none, 0, by rw [e, e0], by omega, by unfold maxLen; omega, fun a ha => (by cases ha), fun _ => e0⟩
    · refine ⟨some ⟨g, 0, none⟩, cap, e, h3, h4, fun a ha i v hv => ?_, fun hn => (by cases hn)⟩
      cases ha
      rw [add_none rfl]
      have hi := (List.getElem?_eq_some_iff.1 hv).1
      have hc : cur[i]? = some v := by
        have : (cur.toList.take (V.pv.length * 1))[i]? = some v := by rw [h5]; exact hv
        rw [List.getElem?_take, if_pos (by omega)] at this
        simpa using this
      simp [World.cell?, h2, hc]
  · have hi := (List.getElem?_eq_some_iff.1 hv).1
    refine at' (i + 2) v l ?_ ?_
    · show (V.pv ++ [V.m0, V.m1])[i]? = some v
      rw [List.getElem?_append_left hi]; exact hv
    · show (m.ps ++ [m.m0, m.m1])[i]? = some l
      rw [List.getElem?_append_left (by omega)]; exact hll
  · refine at' (V.pv.length + 2) _ _ ?_ ?_
    · show (V.pv ++ [V.m0, V.m1])[V.pv.length]? = some V.m0
      simp
    · show (m.ps ++ [m.m0, m.m1])[V.pv.length]? = some m.m0
      rw [hl]; simp
  · refine at' (V.pv.length + 3) _ _ ?_ ?_
    · show (V.pv ++ [V.m0, V.m1])[V.pv.length + 1]? = some V.m1
      simp
    · show (m.ps ++ [m.m0, m.m1])[V.pv.length + 1]? = some m.m1
      rw [hl]; simp
set_option maxHeartbeats 6400000 in
theorem stands_any (base g k : Nat) (vD vR : Value) (E : List Ent) (e : Ent) (w : World) (h : Book base w g vD vR E) (hi : E[k]? = some e) :
    Calls Try.prog 40 #[.pointer (some ⟨g, 0, none⟩), .int .i64 (k : Int)] w fun r w' => r = .returned (.bool true) ∧ Kept [] w w' := by
  obtain ⟨bD, cD, bR, cR, rfl, rfl, d0, r0, g0, g1⟩ := h.at hi
  obtain ⟨v, u, d, F⟩ := e
  obtain ⟨A, B, hp, hq, -, -⟩ := h.both _ (List.mem_of_getElem? hi)
  simp only at hp hq d0 r0
  obtain ⟨gv, rfl⟩ := hp.ptr
  obtain ⟨gu, e1, f0, f1, f2, ⟨p9, q9, f9⟩, f11, f13⟩ := hq.fields
  subst e1
  have hkl : k < E.length := (List.getElem?_eq_some_iff.1 hi).1
  have hkl' : (k : Int) < (E.length : Int) := by omega
  have hk0 : (0 : Int) ≤ (k : Int) := by omega
  have HP : Hid (PF w (.pointer (some ⟨gv, 0, none⟩)) d A) := hp
  have HQ : Hid (QD w (.pointer (some ⟨gu, 0, none⟩)) d B) := hq
  clear hp hq hi h
  go_enter Try.func40, Try.ntmps40
  go_wp2
  go_region_held3 (fun w' => w'.cell? ⟨g, 0, none⟩ = some (.slice (some ⟨bD, 0, none⟩) E.length cD) ∧ w'.cell? ⟨g, 1, none⟩ = some (.slice (some ⟨bR, 0, none⟩) E.length cR) ∧ w'.cell? ⟨bD, k, none⟩ = some (.pointer (some ⟨gv, 0, none⟩)) ∧ w'.cell? ⟨bR, k, none⟩ = some (.pointer (some ⟨gu, 0, none⟩)))
    (first | (exact ⟨g0, g1, d0, r0⟩) | go_keep) (fail)
  clear g0 g1 d0 r0
  go_wp2_with fail
  refine (fImage _ d A _ (HP.out.kept (Kept.refl [] w).drew (by simp))).mono ?_
  rintro e w1 ⟨V1, rfl, hV1, k1⟩
  go_wp2_with fail
  refine (fLasts _ d A _ ((HP.out.kept (Kept.refl [] w).drew (by simp)).kept k1 (by simp))).mono ?_
  rintro e w2 ⟨V2, rfl, hV2, k2⟩
  obtain ⟨vp1, pv1, pair1, log1, m01, m11⟩ := V1
  obtain ⟨u0, v0, u1, v1, u2, v2, u3, v3, u4, v4, x0, x1, x2, x3, x4⟩ := hV1.shapes
  simp only at x0 x1 x2 x3 x4
  subst x0 x1 x2 x3 x4
  obtain ⟨vp2, pv2, pair2, log2, m02, m12⟩ := V2
  obtain ⟨a0, b0, a1, b1, a2, b2, a3, b3, a4, b4, y0, y1, y2, y3, y4⟩ := hV2.shapes
  simp only at y0 y1 y2 y3 y4
  subst y0 y1 y2 y3 y4
  unfold IV.agg
  dsimp only
  go_wp2_with fail
  obtain ⟨w4, hw4⟩ : ∃ w4, w4 = (w2.alloc (.cells #[.slice u0 pv1.length v0, .slice u1 d.image.pair.length v1, .slice u2 d.image.log.length v2, .slice u3 d.image.m0.length v3, .slice u4 d.image.m1.length v4] 43)).alloc (.cells #[.slice a0 pv2.length b0, .slice a1 d.lasts.pair.length b1, .slice a2 d.lasts.log.length b2, .slice a3 d.lasts.m0.length b3, .slice a4 d.lasts.m1.length b4] 43) := ⟨_, rfl⟩
  have k4 : Kept [] w2 w4 := by rw [hw4]; exact ((Kept.refl [] w2).alloc _).alloc _
  have kw : Kept [] w w4 := (((Kept.refl [] w).drew.then k1).then k2).then k4
  have bV : Blk w4 w2.heap.size 43 [.slice u0 pv1.length v0, .slice u1 d.image.pair.length v1, .slice u2 d.image.log.length v2, .slice u3 d.image.m0.length v3, .slice u4 d.image.m1.length v4] := by
    rw [hw4]
    exact (Blk.new w2 _ _).kept ((Kept.refl [] _).alloc _) (by simp)
  have bU : Blk w4 (w2.heap.size + 1) 43 [.slice a0 pv2.length b0, .slice a1 d.lasts.pair.length b1, .slice a2 d.lasts.log.length b2, .slice a3 d.lasts.m0.length b3, .slice a4 d.lasts.m1.length b4] := by
    rw [hw4]
    have := Blk.new (w2.alloc (.cells #[.slice u0 pv1.length v0, .slice u1 d.image.pair.length v1, .slice u2 d.image.log.length v2, .slice u3 d.image.m0.length v3, .slice u4 d.image.m1.length v4] 43)) 43 [.slice a0 pv2.length b0, .slice a1 d.lasts.pair.length b1, .slice a2 d.lasts.log.length b2, .slice a3 d.lasts.m0.length b3, .slice a4 d.lasts.m1.length b4]
    rwa [World.size_alloc] at this
  obtain ⟨⟨i0, i1, i2, i3, i4⟩, -⟩ := bV.five
  obtain ⟨⟨j0, j1, j2, j3, j4⟩, -⟩ := bU.five
  have x0 := kw.cell f0 (by simp)
  have x1 := kw.cell f1 (by simp)
  have x2 := kw.cell f2 (by simp)
  have x9 := kw.cell f9 (by simp)
  have x11 := kw.cell f11 (by simp)
  have x13 := kw.cell f13 (by simp)
  have P4 : Hid (PF w4 (.pointer (some ⟨gv, 0, none⟩)) d A) := HP.out.kept kw (by simp)
  have Q4 : Hid (QD w4 (.pointer (some ⟨gu, 0, none⟩)) d B) := HQ.out.kept kw (by simp)
  have S1 : Hid (SeeIm w4 ⟨.slice u0 pv1.length v0, pv1, .slice u1 d.image.pair.length v1, .slice u2 d.image.log.length v2, .slice u3 d.image.m0.length v3, .slice u4 d.image.m1.length v4⟩ d.image) := (hV1.see.kept k2).kept k4
  have S2 : Hid (SeeIm w4 ⟨.slice a0 pv2.length b0, pv2, .slice a1 d.lasts.pair.length b1, .slice a2 d.lasts.log.length b2, .slice a3 d.lasts.m0.length b3, .slice a4 d.lasts.m1.length b4⟩ d.lasts) := hV2.see.kept k4
  have KW : Hid (Kept [] w w4) := kw
  have kk : Kept [] w4 w4.drew := (Kept.refl [] w4).drew
  rw [← hw4]
  clear hV1 hV2 k1 k2 k4 bV bU f0 f1 f2 f9 f11 f13 HP HQ hw4 kw hkl hkl' hk0
  generalize w2.heap.size = z2 at *
  have tok : True := trivial
  go_region_held3 (fun w' => w'.cell? ⟨gu, 0, none⟩ = some (.int .i64 (d.np : Int)) ∧ w'.cell? ⟨gu, 1, none⟩ = some (.int .i64 (d.ns : Int)) ∧ w'.cell? ⟨gu, 2, none⟩ = some (.int .i64 (d.lm : Int)) ∧ w'.cell? ⟨gu, 9, none⟩ = some (.slice p9 d.log.length q9) ∧ w'.cell? ⟨gu, 11, none⟩ = some (.int .i64 d.acts) ∧ w'.cell? ⟨gu, 13, none⟩ = some (.bool d.dead) ∧ w'.cell? ⟨z2, 0, none⟩ = some (.slice u0 pv1.length v0) ∧ w'.cell? ⟨z2, 1, none⟩ = some (.slice u1 d.image.pair.length v1) ∧ w'.cell? ⟨z2, 2, none⟩ = some (.slice u2 d.image.log.length v2) ∧ w'.cell? ⟨z2, 3, none⟩ = some (.slice u3 d.image.m0.length v3) ∧ w'.cell? ⟨z2, 4, none⟩ = some (.slice u4 d.image.m1.length v4) ∧ w'.cell? ⟨z2 + 1, 0, none⟩ = some (.slice a0 pv2.length b0) ∧ w'.cell? ⟨z2 + 1, 1, none⟩ = some (.slice a1 d.lasts.pair.length b1) ∧ w'.cell? ⟨z2 + 1, 2, none⟩ = some (.slice a2 d.lasts.log.length b2) ∧ w'.cell? ⟨z2 + 1, 3, none⟩ = some (.slice a3 d.lasts.m0.length b3) ∧ w'.cell? ⟨z2 + 1, 4, none⟩ = some (.slice a4 d.lasts.m1.length b4))
    (first
      | (with_reducible exact ⟨kk.cell x0 (by simp), kk.cell x1 (by simp), kk.cell x2 (by simp), kk.cell x9 (by simp), kk.cell x11 (by simp), kk.cell x13 (by simp), kk.cell i0 (by simp), kk.cell i1 (by simp), kk.cell i2 (by simp), kk.cell i3 (by simp), kk.cell i4 (by simp), kk.cell j0 (by simp), kk.cell j1 (by simp), kk.cell j2 (by simp), kk.cell j3 (by simp), kk.cell j4 (by simp)⟩)
      | fail)
    (first
      | (go_at_call 26; refine (fActs _ d A _ (P4.out.kept kk (by simp))).mono ?_; rintro e w5 ⟨rfl, kn⟩; replace kk := kk.then kn; clear kn)
      | (go_at_call 25; refine (fDead _ d A _ (P4.out.kept kk (by simp))).mono ?_; rintro e w6 ⟨rfl, kn⟩; replace kk := kk.then kn; clear kn)
      | (go_at_call 43; refine (fLogLen _ d A _ (P4.out.kept kk (by simp))).mono ?_; rintro e w7 ⟨rfl, kn⟩; replace kk := kk.then kn; clear kn)
      | (go_at_call 47; refine (fShape _ d A _ (P4.out.kept kk (by simp))).mono ?_; rintro e w8 ⟨rfl, kn⟩; replace kk := kk.then kn; clear kn)
      | (go_at_call 34; refine (qImage _ d B _ (Q4.out.kept kk (by simp))).mono ?_; rintro e w9 ⟨V3, rfl, hV3, kn⟩; replace kk := kk.then kn; clear kn)
      | (go_at_call 35; refine (qLasts _ d B _ (Q4.out.kept kk (by simp))).mono ?_; rintro e w10 ⟨V4, rfl, hV4, kn⟩; replace kk := kk.then kn; clear kn)
      | (go_at_call 21; clear tok; refine (sameImages_eq ⟨.slice u0 pv1.length v0, pv1, .slice u1 d.image.pair.length v1, .slice u2 d.image.log.length v2, .slice u3 d.image.m0.length v3, .slice u4 d.image.m1.length v4⟩ V3 d.image _ (by exact S1.out.kept kk) (by exact hV3.see)).mono ?_; rintro e w11 ⟨rfl, kn⟩; replace kk := kk.then kn; clear kn)
      | (go_at_call 21; refine (sameImages_eq ⟨.slice a0 pv2.length b0, pv2, .slice a1 d.lasts.pair.length b1, .slice a2 d.lasts.log.length b2, .slice a3 d.lasts.m0.length b3, .slice a4 d.lasts.m1.length b4⟩ V4 d.lasts _ (by exact S2.out.kept kk) (by exact hV4.see)).mono ?_; rintro e w12 ⟨rfl, kn⟩; replace kk := kk.then kn; clear kn)
      | fail)
  have kf := KW.out.then kk
  clear S1 S2 P4 Q4 kk
  go_wp2
  go_ret
  exact ⟨by simp, kf⟩
end Go.Proofs.Ytmipmiaflompmaa

/-
  OWN WORK. The laws of disk: what lies below a base stays; one call more on a book, in plain words.
-/
namespace Go.Proofs.Ytmipmiaflompmaa
open Go.RowKit
set_option linter.unusedVariables false

/-- all that lies below base is as it was -/
def Past (base : Nat) (w w' : World) : Prop := ∃ S, Kept S w w' ∧ ∀ x ∈ S, base ≤ x
theorem Past.of {base : Nat} {w w' : World} {S : List Nat} (k : Kept S w w') (h : ∀ x ∈ S, base ≤ x) : Past base w w' := ⟨S, k, h⟩
theorem Past.kept {base : Nat} {w w' : World} (k : Kept [] w w') : Past base w w' := ⟨[], k, by simp⟩
theorem Past.trans {base : Nat} {a b c : World} (h : Past base a b) (k : Past base b c) : Past base a c := by
  obtain ⟨S, h1, h2⟩ := h
  obtain ⟨T, k1, k2⟩ := k
  exact ⟨S ++ T, (h1.mono (by simp +contextual)).trans k1 (fun x hx => .inl (by simp [hx])), fun x hx => by rcases List.mem_append.1 hx with c | c; exact h2 x c; exact k2 x c⟩
theorem Past.size {base : Nat} {a b : World} (h : Past base a b) : a.heap.size ≤ b.heap.size := by
  obtain ⟨S, k, -⟩ := h
  exact k.size
theorem Past.all {w w' : World} (h : Past w.heap.size w w') : Kept [] w w' := by
  obtain ⟨S, k, hS⟩ := h
  exact ⟨k.os, k.tape, k.output, k.size, fun x hx _ => k.block x hx fun hm => by have := hS x hm; omega⟩
theorem Bs.past {base : Nat} {w w' : World} {v : Value} {l : List UInt8} (h : Bs w v l) (k : Past base w w') (hb : l ≠ [] → ∀ x, v.ownBlock = some x → x < base) : Bs w' v l := by
  obtain ⟨S, k, hS⟩ := k
  exact h.keptNe k fun h0 x hx hm => by have := hb h0 x hx; have := hS x hm; omega
theorem Is.past {base : Nat} {w w' : World} {v : Value} {l : List Int} (h : Is w v l) (k : Past base w w') (hb : l ≠ [] → ∀ x, v.ownBlock = some x → x < base) : Is w' v l := by
  obtain ⟨S, k, hS⟩ := k
  by_cases hl : l = []
  · subst hl
    obtain ⟨p, c, e, h1, h2, h3, h5, -⟩ := h
    exact ⟨p, c, e, h1, h2, h3, h5, fun a _ i x hx => by simp at hx⟩
  · exact h.keptOwn k fun x hx hm => by have := hb hl x hx; have := hS x hm; omega
/-- each disk of the book has at most M loose writes -/
def Few (M : Nat) (E : List Ent) : Prop := ∀ e ∈ E, e.d.loose.length ≤ M
theorem Few.mono {M N : Nat} {E : List Ent} (h : Few M E) (hm : M ≤ N) : Few N E := fun e he => Nat.le_trans (h e he) hm
theorem Few.set {M : Nat} {E : List Ent} {i : Nat} {e : Ent} (h : Few M E) (he : e.d.loose.length ≤ M) : Few M (E.set i e) := fun a ha => by
  obtain ⟨j, hj⟩ := List.getElem?_of_mem ha
  rw [List.getElem?_set] at hj
  split at hj
  · split at hj
    · cases hj; exact he
    · cases hj
  · exact h a (List.mem_of_getElem? hj)
theorem Few.push {M : Nat} {E : List Ent} {e : Ent} (h : Few M E) (he : e.d.loose.length ≤ M) : Few M (E ++ [e]) := fun a ha => by
  rcases List.mem_append.1 ha with c | c
  · exact h a c
  · simp at c; subst c; exact he
theorem wD_loose (d : DS) (k n : Int) (b : List UInt8) : (wD d k n b).loose.length ≤ d.loose.length + 1 := by
  have ha := d.act_loose
  have hwr : ∀ ix, (d.write ix b).loose.length ≤ d.loose.length + 1 := fun ix => by
    unfold DS.write
    split
    · rw [ha]; omega
    · split
      · simp
      · rw [ha]; omega
  have hsy : ∀ m, (d.sync m).loose.length ≤ d.loose.length + 1 := fun m => by
    unfold DS.sync
    split
    · have := List.length_filter_le (fun x : Nat × List UInt8 => !(isMaster d.np x.1 == m)) d.loose
      show (d.loose.filter _).length ≤ _
      omega
    · rw [ha]; omega
  unfold wD
  split
  · exact hwr _
  split
  · exact hwr _
  split
  · exact hwr _
  split
  · exact hsy _
  split
  · exact hsy _
  split
  · unfold DS.append
    split
    · show d.act.loose.length ≤ _
      rw [ha]; omega
    · rw [ha]; omega
  split
  · unfold DS.syncLog
    split
    · show d.act.loose.length ≤ _
      rw [ha]; omega
    · rw [ha]; omega
  split
  · unfold DS.cut
    split
    · show d.act.loose.length ≤ _
      rw [ha]; omega
    · rw [ha]; omega
  · omega
theorem rD_loose (d : DS) (k : Int) : (rD d k).loose.length = d.loose.length := by
  unfold rD
  split
  · rw [d.act_loose]
  · rfl
theorem halts_loose (d : DS) (n : Int) : (d.halts n).loose.length = d.loose.length := by
  unfold DS.halts
  split <;> rfl
/-- all disks of the book have that shape -/
def Shp (a b c : Int) (E : List Ent) : Prop := ∀ e ∈ E, (e.d.np : Int) = a ∧ (e.d.ns : Int) = b ∧ (e.d.lm : Int) = c
/-- the same shape -/
def SameShape (d d' : DS) : Prop := d'.np = d.np ∧ d'.ns = d.ns ∧ d'.lm = d.lm
theorem SameShape.trans {a b c : DS} (h : SameShape a b) (k : SameShape b c) : SameShape a c := ⟨k.1.trans h.1, k.2.1.trans h.2.1, k.2.2.trans h.2.2⟩
theorem Shp.set {a b c : Int} {E : List Ent} {i : Nat} {e e' : Ent} (h : Shp a b c E) (hi : E[i]? = some e) (hd : SameShape e.d e'.d) : Shp a b c (E.set i e') := fun x hx => by
  obtain ⟨j, hj⟩ := List.getElem?_of_mem hx
  rw [List.getElem?_set] at hj
  have h0 := h e (List.mem_of_getElem? hi)
  split at hj
  · split at hj
    · cases hj
      rw [hd.1, hd.2.1, hd.2.2]
      exact h0
    · cases hj
  · exact h x (List.mem_of_getElem? hj)
theorem Shp.push {a b c : Int} {E : List Ent} {i : Nat} {e e' : Ent} (h : Shp a b c E) (hi : E[i]? = some e) (hd : SameShape e.d e'.d) : Shp a b c (E ++ [e']) := fun x hx => by
  rcases List.mem_append.1 hx with q | q
  · exact h x q
  · simp at q
    subst q
    rw [hd.1, hd.2.1, hd.2.2]
    exact h e (List.mem_of_getElem? hi)
theorem act_shape (d : DS) : SameShape d d.act := ⟨d.act_np, d.act_ns, d.act_lm⟩
theorem write_shape (d : DS) (ix : Option Nat) (b : List UInt8) : SameShape d (d.write ix b) := by
  unfold DS.write
  split
  · exact act_shape d
  · split
    · exact act_shape d
    · exact act_shape d
theorem sync_shape (d : DS) (m : Bool) : SameShape d (d.sync m) := by
  unfold DS.sync
  split
  · exact act_shape d
  · exact act_shape d
theorem append_shape (d : DS) (b : List UInt8) : SameShape d (d.append b) := by
  unfold DS.append
  split
  · exact act_shape d
  · exact act_shape d
theorem syncLog_shape (d : DS) : SameShape d d.syncLog := by
  unfold DS.syncLog
  split
  · exact act_shape d
  · exact act_shape d
theorem cut_shape (d : DS) (n : Int) : SameShape d (d.cut n) := by
  unfold DS.cut
  split
  · exact act_shape d
  · exact act_shape d
theorem halts_shape (d : DS) (n : Int) : SameShape d (d.halts n) := by
  unfold DS.halts
  split
  · exact ⟨rfl, rfl, rfl⟩
  · exact ⟨rfl, rfl, rfl⟩
set_option maxHeartbeats 1000000 in
theorem wD_shape (d : DS) (k n : Int) (b : List UInt8) : SameShape d (wD d k n b) := by
  unfold wD
  by_cases h1 : k = 1
  · rw [if_pos h1]; exact write_shape _ _ _
  rw [if_neg h1]
  by_cases h3 : k = 3
  · rw [if_pos h3]; exact write_shape _ _ _
  rw [if_neg h3]
  by_cases h10 : k = 10
  · rw [if_pos h10]; exact write_shape _ _ _
  rw [if_neg h10]
  by_cases h4 : k = 4
  · rw [if_pos h4]; exact sync_shape _ _
  rw [if_neg h4]
  by_cases h11 : k = 11
  · rw [if_pos h11]; exact sync_shape _ _
  rw [if_neg h11]
  by_cases h6 : k = 6
  · rw [if_pos h6]; exact append_shape _ _
  rw [if_neg h6]
  by_cases h7 : k = 7
  · rw [if_pos h7]; exact syncLog_shape _
  rw [if_neg h7]
  by_cases h8 : k = 8
  · rw [if_pos h8]; exact cut_shape _ _
  rw [if_neg h8]
  exact ⟨rfl, rfl, rfl⟩
theorem rD_shape (d : DS) (k : Int) : SameShape d (rD d k) := by
  unfold rD
  split
  · exact act_shape d
  · exact ⟨rfl, rfl, rfl⟩
theorem Book.past {base g i : Nat} {w w' : World} {vD vR : Value} {E : List Ent} {e : Ent} {F' : Foot} (h : Book base w g vD vR E) (hi : E[i]? = some e) (hx : NextP w w' e.F F') : Past base w w' := ⟨e.F.own, hx.1, fun x hm => h.low.2 e (List.mem_of_getElem? hi) x (Foot.inOwn hm)⟩
end Go.Proofs.Ytmipmiaflompmaa

/-
  OWN WORK. The laws of disk: play, but for crashes and copies.
-/
namespace Go.Proofs.Ytmipmiaflompmaa
open Go.RowKit
set_option linter.unusedVariables false

theorem play_empty (base g M : Nat) (vD vR ub vk : Value) (E : List Ent) (wh n m cl : Int) (b : List UInt8) (keep : List Int) (w : World) (h : Book base w g vD vR E) (hM : Few M E) (hcap : (M + 1) * 40 ≤ 140737488355328) (hcap2 : (E.length + 1) * 8 ≤ 140737488355328) (hb : Bs w ub b) (hk : Is w vk keep) (hub : b ≠ [] → ∀ x, ub.ownBlock = some x → x < base) (hvk : keep ≠ [] → ∀ x, vk.ownBlock = some x → x < base) (hn : IntKind.i64.wrap n = n) (K : Int) (h0 : E = []) :
    Calls Try.prog 30 #[.pointer (some ⟨g, 0, none⟩), .agg #[.int .i64 K, .int .i64 wh, .int .i64 n, .int .i64 m, ub, .int .i64 cl, vk]] w fun r w' => r = .returned (.bool true) ∧ ∃ vD' vR' E', Book base w' g vD' vR' E' ∧ Few (M + 1) E' ∧ E.length ≤ E'.length ∧ E'.length ≤ E.length + 1 ∧ ((E = [] → E' = []) ∧ ∀ a b c, Shp a b c E → Shp a b c E') ∧ Past base w w' := by
  subst h0
  obtain ⟨pb, cb, rfl, -⟩ := id hb
  obtain ⟨pk, ck, rfl, -⟩ := id hk
  have k0 := (Kept.refl [] w).alloc (.cells #[.int .i64 K, .int .i64 wh, .int .i64 n, .int .i64 m, .slice pb b.length cb, .int .i64 cl, .slice pk keep.length ck] 59)
  have g0 := (h.kept k0 (by simp)).blk.cell (j := 0) rfl
  obtain ⟨pD, cD, eD⟩ := own_shape2 h.rowD
  simp only [List.length_nil] at eD
  subst eD
  have fin : ∃ vD' vR' E', Book base (w.alloc (.cells #[.int .i64 K, .int .i64 wh, .int .i64 n, .int .i64 m, .slice pb b.length cb, .int .i64 cl, .slice pk keep.length ck] 59)) g vD' vR' E' ∧ Few (M + 1) E' ∧ ([] : List Ent).length ≤ E'.length ∧ E'.length ≤ ([] : List Ent).length + 1 ∧ ((([] : List Ent) = [] → E' = []) ∧ ∀ a b c, Shp a b c ([] : List Ent) → Shp a b c E') ∧ Past base w (w.alloc (.cells #[.int .i64 K, .int .i64 wh, .int .i64 n, .int .i64 m, .slice pb b.length cb, .int .i64 cl, .slice pk keep.length ck] 59)) := ⟨_, _, [], h.kept k0 (by simp), hM.mono (by omega), by simp, by simp, ⟨fun _ => rfl, fun _ _ _ hs => hs⟩, Past.kept k0⟩
  have FIN : Hid (∃ vD' vR' E', Book base (w.alloc (.cells #[.int .i64 K, .int .i64 wh, .int .i64 n, .int .i64 m, .slice pb b.length cb, .int .i64 cl, .slice pk keep.length ck] 59)) g vD' vR' E' ∧ Few (M + 1) E' ∧ ([] : List Ent).length ≤ E'.length ∧ E'.length ≤ ([] : List Ent).length + 1 ∧ ((([] : List Ent) = [] → E' = []) ∧ ∀ a b c, Shp a b c ([] : List Ent) → Shp a b c E') ∧ Past base w (w.alloc (.cells #[.int .i64 K, .int .i64 wh, .int .i64 n, .int .i64 m, .slice pb b.length cb, .int .i64 cl, .slice pk keep.length ck] 59))) := fin
  clear hb hk hub hvk hM hcap hcap2 h hn fin
  go_enter Try.func30, Try.ntmps30
  go_wp2
  go_ret
  exact ⟨rfl, by simpa using FIN.out⟩
set_option maxHeartbeats 3200000 in
theorem play_rw (base g M : Nat) (vD vR ub vk : Value) (E : List Ent) (wh n m cl : Int) (b : List UInt8) (keep : List Int) (w : World) (h : Book base w g vD vR E) (hM : Few M E) (hcap : (M + 1) * 40 ≤ 140737488355328) (hcap2 : (E.length + 1) * 8 ≤ 140737488355328) (hb : Bs w ub b) (hk : Is w vk keep) (hub : b ≠ [] → ∀ x, ub.ownBlock = some x → x < base) (hvk : keep ≠ [] → ∀ x, vk.ownBlock = some x → x < base) (hn : IntKind.i64.wrap n = n) (hpos : 0 < E.length) (K : Int) (h12 : ¬ K = 12) (h13 : ¬ K = 13) (h14 : ¬ K = 14) :
    Calls Try.prog 30 #[.pointer (some ⟨g, 0, none⟩), .agg #[.int .i64 K, .int .i64 wh, .int .i64 n, .int .i64 m, ub, .int .i64 cl, vk]] w fun r w' => r = .returned (.bool true) ∧ ∃ vD' vR' E', Book base w' g vD' vR' E' ∧ Few (M + 1) E' ∧ E.length ≤ E'.length ∧ E'.length ≤ E.length + 1 ∧ ((E = [] → E' = []) ∧ ∀ a b c, Shp a b c E → Shp a b c E') ∧ Past base w w' := by
  obtain ⟨pb, cb, rfl, -⟩ := id hb
  obtain ⟨pk, ck, rfl, -⟩ := id hk
  obtain ⟨w0, hw0⟩ : ∃ w0, w0 = w.alloc (.cells #[.int .i64 K, .int .i64 wh, .int .i64 n, .int .i64 m, .slice pb b.length cb, .int .i64 cl, .slice pk keep.length ck] 59) := ⟨_, rfl⟩
  have k0 : Kept [] w w0 := by rw [hw0]; exact (Kept.refl [] w).alloc _
  have bO : Blk w0 w.heap.size 59 [.int .i64 K, .int .i64 wh, .int .i64 n, .int .i64 m, .slice pb b.length cb, .int .i64 cl, .slice pk keep.length ck] := by rw [hw0]; exact Blk.new w _ _
  have h0 := h.kept k0 (by simp)
  obtain ⟨k, hkd⟩ : ∃ k, k = restN wh E.length := ⟨_, rfl⟩
  have hkl : k < E.length := by rw [hkd]; have := restN_lt wh (E.length - 1); rw [show E.length - 1 + 1 = E.length by omega] at this; omega
  obtain ⟨e, he⟩ : ∃ e, E[k]? = some e := ⟨_, List.getElem?_eq_getElem hkl⟩
  have HNO : Hid (w.heap.size ∉ e.F.own) := (show w.heap.size ∉ e.F.own from fun hm => by have := (h.both e (List.mem_of_getElem? he)).lt _ (Foot.inOwn hm); omega)
  obtain ⟨bD, cD, bR, cR, rfl, rfl, d0, r0, g0, g1⟩ := h0.at he
  have hmd := mod_any wh E.length (w0.drew) hpos (by omega)
  rw [← hkd] at hmd
  have hkl' : (k : Int) < (E.length : Int) := by omega
  have hE0 : ¬ (E.length : Int) = 0 := by omega
  have q0 := bO.cell (j := 0) rfl
  have q1 := bO.cell (j := 1) rfl
  have HB0 : Hid (Book base w0 g (.slice (some ⟨bD, 0, none⟩) E.length cD) (.slice (some ⟨bR, 0, none⟩) E.length cR) E) := h0
  have HE : Hid (E[k]? = some e) := he
  have HBO : Hid (Blk w0 w.heap.size 59 [.int .i64 K, .int .i64 wh, .int .i64 n, .int .i64 m, .slice pb b.length cb, .int .i64 cl, .slice pk keep.length ck]) := bO
  have HW0 : Hid (w0 = w.alloc (.cells #[.int .i64 K, .int .i64 wh, .int .i64 n, .int .i64 m, .slice pb b.length cb, .int .i64 cl, .slice pk keep.length ck] 59)) := hw0
  have HK0 : Hid (Kept [] w w0) := k0
  have HM : Hid (Few M E) := hM
  have HC : Hid ((M + 1) * 40 ≤ 140737488355328 ∧ (E.length + 1) * 8 ≤ 140737488355328) := ⟨hcap, hcap2⟩
  have HBK : Hid (Bs w0 (.slice pb b.length cb) b ∧ Is w0 (.slice pk keep.length ck) keep ∧ (b ≠ [] → ∀ x, (Value.slice pb b.length cb).ownBlock = some x → x < base) ∧ (keep ≠ [] → ∀ x, (Value.slice pk keep.length ck).ownBlock = some x → x < base)) := ⟨hb.kept k0, hk.kept k0, hub, hvk⟩
  have HBW : Hid (base ≤ w.heap.size) := (show base ≤ w.heap.size from Nat.le_trans h.low.1 (Nat.le_of_lt h.blk.lt))
  obtain ⟨A, B, hp, hq, hap, hF⟩ := h0.both e (List.mem_of_getElem? he)
  obtain ⟨gv, ev⟩ := hp.ptr
  obtain ⟨gu, eu⟩ := hq.ptr
  rw [ev] at d0
  rw [eu] at r0
  have HV : Hid (e.v = .pointer (some ⟨gv, 0, none⟩) ∧ e.u = .pointer (some ⟨gu, 0, none⟩)) := ⟨ev, eu⟩
  rw [hw0] at g0 q0 q1
  clear hb hk hub hvk hM hcap hcap2 h h0 he hw0 hpos hkd bO k0 hp hq hap hF ev eu
  go_enter Try.func30, Try.ntmps30
  go_wp2
  rw [← HW0.out]
  rw [← HW0.out] at g0 q0 q1
  go_region_held3 (fun w' => w'.cell? ⟨w.heap.size, 1, none⟩ = some (.int .i64 wh) ∧ w'.cell? ⟨g, 0, none⟩ = some (.slice (some ⟨bD, 0, none⟩) E.length cD))
    (first | (exact ⟨q1, g0⟩) | go_keep)
    (first
      | (go_at_call 11; refine hmd.mono ?_; rintro e w5 ⟨rfl, rfl⟩)
      | fail)
  clear hmd
  go_wp2
  go_region_held3 (fun w' => w'.cell? ⟨g, 0, none⟩ = some (.slice (some ⟨bD, 0, none⟩) E.length cD) ∧ w'.cell? ⟨g, 1, none⟩ = some (.slice (some ⟨bR, 0, none⟩) E.length cR) ∧ w'.cell? ⟨bD, k, none⟩ = some (.pointer (some ⟨gv, 0, none⟩)) ∧ w'.cell? ⟨bR, k, none⟩ = some (.pointer (some ⟨gu, 0, none⟩)))
    (first | (exact ⟨g0, g1, d0, r0⟩) | go_keep) (fail)
  have c0 := HBO.out.cell (j := 0) rfl
  have c1 := HBO.out.cell (j := 1) rfl
  have c2 := HBO.out.cell (j := 2) rfl
  have c3 := HBO.out.cell (j := 3) rfl
  have c4 := HBO.out.cell (j := 4) rfl
  have c5 := HBO.out.cell (j := 5) rfl
  have c6 := HBO.out.cell (j := 6) rfl
  have kd : Kept [] w0 w0.drew.drew := (Kept.refl [] w0).drew.drew
  have hmem := List.mem_of_getElem? HE.out
  have hBoth := (HB0.out.both e hmem).kept kd (by simp)
  rw [HV.out.1, HV.out.2] at hBoth
  have hfar : b ≠ [] → ∀ x, (Value.slice pb b.length cb).ownBlock = some x → x ∉ e.F.own := fun hb0 x hx hm => by have := HBK.out.2.2.1 hb0 x hx; have := HB0.out.low.2 e hmem x (Foot.inOwn hm); omega
  have hwr := writes_any _ _ (.slice pb b.length cb) (.slice pk keep.length ck) e.d e.F wh n m cl b keep _ hBoth (HBK.out.1.kept kd) (HBK.out.2.1.kept kd) hfar (by have := HM.out e hmem; have := HC.out.1; omega) K
  have hwl := wD_loose e.d K n b
  clear g0 g1 d0 r0 hBoth q0 q1
  cases hw : isW K with
  | true =>
    rw [hw] at hwr
    go_wp2_with fail
    refine hwr.mono ?_
    rintro r w1 ⟨F', rfl, hB1, x1⟩
    have x1' : NextP w0 w1 e.F F' := x1.after kd
    rw [← HV.out.1, ← HV.out.2] at hB1
    have f1 := HB0.out.step HE.out hB1 x1'
    have f2 := (Past.kept HK0.out).trans (HB0.out.past HE.out x1')
    have FIN : Hid (∃ vD' vR' E', Book base w1 g vD' vR' E' ∧ Few (M + 1) E' ∧ E.length ≤ E'.length ∧ E'.length ≤ E.length + 1 ∧ ((E = [] → E' = []) ∧ ∀ a b c, Shp a b c E → Shp a b c E') ∧ Past base w w1) := ⟨_, _, _, f1, (HM.out.mono (by omega)).set (by have := HM.out e hmem; show (wD e.d K n b).loose.length ≤ _; omega), by simp, by simp, ⟨fun e => by rw [e] at hkl; simp at hkl, fun _ _ _ hs => hs.set HE.out (wD_shape _ _ _ _)⟩, f2⟩
    clear hwr f1 f2 hB1 x1 x1' c0 c1 c2 c3 c4 c5 c6
    go_wp2
    go_ret
    exact ⟨by simp, FIN.out⟩
  | false =>
    rw [hw] at hwr
    go_wp2_with fail
    refine hwr.mono ?_
    rintro r w1 ⟨F', rfl, hB1, x1⟩
    have x1' : NextP w0 w1 e.F F' := x1.after kd
    have s0 := x1'.1.cell c0 HNO.out
    have s1 := x1'.1.cell c1 HNO.out
    have s2 := x1'.1.cell c2 HNO.out
    have s3 := x1'.1.cell c3 HNO.out
    have s4 := x1'.1.cell c4 HNO.out
    have s5 := x1'.1.cell c5 HNO.out
    have s6 := x1'.1.cell c6 HNO.out
    have hrd := reads_any _ _ (.slice pb b.length cb) (.slice pk keep.length ck) (wD e.d K n b) F' wh n m cl b keep _ hB1 (HBK.out.1.past (HB0.out.past HE.out x1') HBK.out.2.2.1) (HBK.out.2.1.past (HB0.out.past HE.out x1') HBK.out.2.2.2) K
    clear hwr c0 c1 c2 c3 c4 c5 c6
    go_wp2_with fail
    refine hrd.mono ?_
    rintro r w2 ⟨F2, rfl, hB2, x2⟩
    have x3 : NextP w0 w2 e.F F2 := x1'.trans x2
    rw [← HV.out.1, ← HV.out.2] at hB2
    have f1 := HB0.out.step HE.out hB2 x3
    have f2 := (Past.kept HK0.out).trans (HB0.out.past HE.out x3)
    have FIN : Hid (∃ vD' vR' E', Book base w2 g vD' vR' E' ∧ Few (M + 1) E' ∧ E.length ≤ E'.length ∧ E'.length ≤ E.length + 1 ∧ ((E = [] → E' = []) ∧ ∀ a b c, Shp a b c E → Shp a b c E') ∧ Past base w w2) := ⟨_, _, _, f1, (HM.out.mono (by omega)).set (by have := HM.out e hmem; show (rD (wD e.d K n b) K).loose.length ≤ _; rw [rD_loose]; omega), by simp, by simp, ⟨fun e => by rw [e] at hkl; simp at hkl, fun _ _ _ hs => hs.set HE.out ((wD_shape _ _ _ _).trans (rD_shape _ _))⟩, f2⟩
    clear hrd f1 f2 hB1 hB2 x1 x1' x2 x3 s0 s1 s2 s3 s4 s5 s6
    go_wp2
    go_ret
    exact ⟨rfl, FIN.out⟩
end Go.Proofs.Ytmipmiaflompmaa

/-
  OWN WORK. The laws of disk: play: a stop.
-/
namespace Go.Proofs.Ytmipmiaflompmaa
open Go.RowKit
set_option linter.unusedVariables false

set_option maxHeartbeats 3200000 in
theorem play_stop (base g M : Nat) (vD vR ub vk : Value) (E : List Ent) (wh n m cl : Int) (b : List UInt8) (keep : List Int) (w : World) (h : Book base w g vD vR E) (hM : Few M E) (hcap : (M + 1) * 40 ≤ 140737488355328) (hcap2 : (E.length + 1) * 8 ≤ 140737488355328) (hb : Bs w ub b) (hk : Is w vk keep) (hub : b ≠ [] → ∀ x, ub.ownBlock = some x → x < base) (hvk : keep ≠ [] → ∀ x, vk.ownBlock = some x → x < base) (hn : IntKind.i64.wrap n = n) (hpos : 0 < E.length) :
    Calls Try.prog 30 #[.pointer (some ⟨g, 0, none⟩), .agg #[.int .i64 12, .int .i64 wh, .int .i64 n, .int .i64 m, ub, .int .i64 cl, vk]] w fun r w' => r = .returned (.bool true) ∧ ∃ vD' vR' E', Book base w' g vD' vR' E' ∧ Few (M + 1) E' ∧ E.length ≤ E'.length ∧ E'.length ≤ E.length + 1 ∧ ((E = [] → E' = []) ∧ ∀ a b c, Shp a b c E → Shp a b c E') ∧ Past base w w' := by
  obtain ⟨pb, cb, rfl, -⟩ := id hb
  obtain ⟨pk, ck, rfl, -⟩ := id hk
  obtain ⟨w0, hw0⟩ : ∃ w0, w0 = w.alloc (.cells #[.int .i64 12, .int .i64 wh, .int .i64 n, .int .i64 m, .slice pb b.length cb, .int .i64 cl, .slice pk keep.length ck] 59) := ⟨_, rfl⟩
  have k0 : Kept [] w w0 := by rw [hw0]; exact (Kept.refl [] w).alloc _
  have bO : Blk w0 w.heap.size 59 [.int .i64 12, .int .i64 wh, .int .i64 n, .int .i64 m, .slice pb b.length cb, .int .i64 cl, .slice pk keep.length ck] := by rw [hw0]; exact Blk.new w _ _
  have h0 := h.kept k0 (by simp)
  obtain ⟨k, hkd⟩ : ∃ k, k = restN wh E.length := ⟨_, rfl⟩
  have hkl : k < E.length := by rw [hkd]; have := restN_lt wh (E.length - 1); rw [show E.length - 1 + 1 = E.length by omega] at this; omega
  obtain ⟨e, he⟩ : ∃ e, E[k]? = some e := ⟨_, List.getElem?_eq_getElem hkl⟩
  have HNO : Hid (w.heap.size ∉ e.F.own) := (show w.heap.size ∉ e.F.own from fun hm => by have := (h.both e (List.mem_of_getElem? he)).lt _ (Foot.inOwn hm); omega)
  obtain ⟨bD, cD, bR, cR, rfl, rfl, d0, r0, g0, g1⟩ := h0.at he
  have hmd := mod_any wh E.length (w0.drew) hpos (by omega)
  rw [← hkd] at hmd
  have hkl' : (k : Int) < (E.length : Int) := by omega
  have hE0 : ¬ (E.length : Int) = 0 := by omega
  have q0 := bO.cell (j := 0) rfl
  have q1 := bO.cell (j := 1) rfl
  have HB0 : Hid (Book base w0 g (.slice (some ⟨bD, 0, none⟩) E.length cD) (.slice (some ⟨bR, 0, none⟩) E.length cR) E) := h0
  have HE : Hid (E[k]? = some e) := he
  have HBO : Hid (Blk w0 w.heap.size 59 [.int .i64 12, .int .i64 wh, .int .i64 n, .int .i64 m, .slice pb b.length cb, .int .i64 cl, .slice pk keep.length ck]) := bO
  have HW0 : Hid (w0 = w.alloc (.cells #[.int .i64 12, .int .i64 wh, .int .i64 n, .int .i64 m, .slice pb b.length cb, .int .i64 cl, .slice pk keep.length ck] 59)) := hw0
  have HK0 : Hid (Kept [] w w0) := k0
  have HM : Hid (Few M E) := hM
  have HC : Hid ((M + 1) * 40 ≤ 140737488355328 ∧ (E.length + 1) * 8 ≤ 140737488355328) := ⟨hcap, hcap2⟩
  have HBK : Hid (Bs w0 (.slice pb b.length cb) b ∧ Is w0 (.slice pk keep.length ck) keep ∧ (b ≠ [] → ∀ x, (Value.slice pb b.length cb).ownBlock = some x → x < base) ∧ (keep ≠ [] → ∀ x, (Value.slice pk keep.length ck).ownBlock = some x → x < base)) := ⟨hb.kept k0, hk.kept k0, hub, hvk⟩
  have HBW : Hid (base ≤ w.heap.size) := (show base ≤ w.heap.size from Nat.le_trans h.low.1 (Nat.le_of_lt h.blk.lt))
  obtain ⟨A, B, hp, hq, hap, hF⟩ := h0.both e (List.mem_of_getElem? he)
  obtain ⟨gv, ev⟩ := hp.ptr
  obtain ⟨gu, eu⟩ := hq.ptr
  rw [ev] at d0
  rw [eu] at r0
  have HV : Hid (e.v = .pointer (some ⟨gv, 0, none⟩) ∧ e.u = .pointer (some ⟨gu, 0, none⟩)) := ⟨ev, eu⟩
  rw [hw0] at g0 q0 q1
  clear hb hk hub hvk hM hcap hcap2 h h0 he hw0 hpos hkd bO k0 hp hq hap hF ev eu
  go_enter Try.func30, Try.ntmps30
  go_wp2
  rw [← HW0.out]
  rw [← HW0.out] at g0 q0 q1
  go_region_held3 (fun w' => w'.cell? ⟨w.heap.size, 1, none⟩ = some (.int .i64 wh) ∧ w'.cell? ⟨g, 0, none⟩ = some (.slice (some ⟨bD, 0, none⟩) E.length cD))
    (first | (exact ⟨q1, g0⟩) | go_keep)
    (first
      | (go_at_call 11; refine hmd.mono ?_; rintro e w5 ⟨rfl, rfl⟩)
      | fail)
  clear hmd
  go_wp2
  go_region_held3 (fun w' => w'.cell? ⟨g, 0, none⟩ = some (.slice (some ⟨bD, 0, none⟩) E.length cD) ∧ w'.cell? ⟨g, 1, none⟩ = some (.slice (some ⟨bR, 0, none⟩) E.length cR) ∧ w'.cell? ⟨bD, k, none⟩ = some (.pointer (some ⟨gv, 0, none⟩)) ∧ w'.cell? ⟨bR, k, none⟩ = some (.pointer (some ⟨gu, 0, none⟩)))
    (first | (exact ⟨g0, g1, d0, r0⟩) | go_keep) (fail)
  have c0 := HBO.out.cell (j := 0) rfl
  have c1 := HBO.out.cell (j := 1) rfl
  have c2 := HBO.out.cell (j := 2) rfl
  have c3 := HBO.out.cell (j := 3) rfl
  have c4 := HBO.out.cell (j := 4) rfl
  have c5 := HBO.out.cell (j := 5) rfl
  have c6 := HBO.out.cell (j := 6) rfl
  have kd : Kept [] w0 w0.drew.drew := (Kept.refl [] w0).drew.drew
  have hmem := List.mem_of_getElem? HE.out
  obtain ⟨A, B, hp, hq, hap, hF⟩ := HB0.out.both e hmem
  rw [HV.out.1] at hp
  rw [HV.out.2] at hq
  have nA : w.heap.size ∉ A.own := fun hm => HNO.out (by rw [hF]; simp [hm])
  have nB : w.heap.size ∉ B := fun hm => HNO.out (by rw [hF]; simp [hm])
  have hst := fStop _ e.d A n _ (hp.kept kd (by simp)) hn
  clear g0 g1 d0 r0 q0 q1
  go_wp2_with fail
  refine hst.mono ?_
  rintro r w1 ⟨A', ⟨rr, rfl⟩, p1, x1⟩
  have hst2 := qHalts _ e.d B n w1 ((hq.kept kd (by simp)).kept x1.1 (fun x hx => hap x (Foot.inOwn hx))) hn
  have x1c := x1.after kd
  have s0 := x1c.1.cell c0 nA
  have s1 := x1c.1.cell c1 nA
  have s2 := x1c.1.cell c2 nA
  have s3 := x1c.1.cell c3 nA
  have s4 := x1c.1.cell c4 nA
  have s5 := x1c.1.cell c5 nA
  have s6 := x1c.1.cell c6 nA
  have HQ : Hid (QD w0.drew.drew (.pointer (some ⟨gu, 0, none⟩)) e.d B) := hq.kept kd (by simp)
  clear hst hp hq c0 c1 c2 c3 c4 c5 c6
  go_wp2_with fail
  refine hst2.mono ?_
  rintro r w2 ⟨⟨rr2, rfl⟩, p2, x2⟩
  have t0 := x2.1.cell s0 nB
  have t1 := x2.1.cell s1 nB
  have t2 := x2.1.cell s2 nB
  have t3 := x2.1.cell s3 nB
  have t4 := x2.1.cell s4 nB
  have t5 := x2.1.cell s5 nB
  have t6 := x2.1.cell s6 nB
  obtain ⟨hB2, x2'⟩ := both_step p1 x1 HQ.out hap p2 x2
  rw [← hF] at x2'
  have y2 : NextP w0 w2 e.F ⟨A'.own ++ B, A'.frz⟩ := x2'.after kd
  have hfar : b ≠ [] → ∀ x, (Value.slice pb b.length cb).ownBlock = some x → x ∉ A'.own ++ B := fun hb0 x hx hm => by
    have h1 := HBK.out.2.2.1 hb0 x hx
    have h2 := HBW.out
    have h3 := HK0.out.size
    rcases y2.2.1 x hm with c | c
    · have := HB0.out.low.2 e hmem x (Foot.inOwn c); omega
    · omega
  have hwr := writes_any _ _ (.slice pb b.length cb) (.slice pk keep.length ck) (e.d.halts n) ⟨A'.own ++ B, A'.frz⟩ wh n m cl b keep _ hB2 (HBK.out.1.past (HB0.out.past HE.out y2) HBK.out.2.2.1) (HBK.out.2.1.past (HB0.out.past HE.out y2) HBK.out.2.2.2) hfar (by have := HM.out e hmem; have := HC.out.1; rw [halts_loose]; omega) 12
  have hwl := wD_loose (e.d.halts n) 12 n b
  rw [halts_loose] at hwl
  clear hst2 s0 s1 s2 s3 s4 s5 s6 p1 p2 x1c
  go_wp2_with fail
  refine hwr.mono ?_
  rintro r w3 ⟨F3, rfl, hB3, x3⟩
  have y3 : NextP w0 w3 e.F F3 := y2.trans x3
  have nO2 : w.heap.size ∉ A'.own ++ B := fun hm => by
    rcases y2.2.1 _ hm with c | c
    · exact HNO.out c
    · have := HBO.out.lt; omega
  have z0 := x3.1.cell t0 nO2
  have z1 := x3.1.cell t1 nO2
  have z2 := x3.1.cell t2 nO2
  have z3 := x3.1.cell t3 nO2
  have z4 := x3.1.cell t4 nO2
  have z5 := x3.1.cell t5 nO2
  have z6 := x3.1.cell t6 nO2
  have hrd := reads_any _ _ (.slice pb b.length cb) (.slice pk keep.length ck) (wD (e.d.halts n) 12 n b) F3 wh n m cl b keep _ hB3 (HBK.out.1.past (HB0.out.past HE.out y3) HBK.out.2.2.1) (HBK.out.2.1.past (HB0.out.past HE.out y3) HBK.out.2.2.2) 12
  rw [show isW 12 = false from rfl]
  clear hwr t0 t1 t2 t3 t4 t5 t6
  go_wp2_with fail
  refine hrd.mono ?_
  rintro r w4 ⟨F4, rfl, hB4, x4⟩
  have y4 : NextP w0 w4 e.F F4 := y3.trans x4
  rw [← HV.out.1, ← HV.out.2] at hB4
  have f1 := HB0.out.step HE.out hB4 y4
  have f2 := (Past.kept HK0.out).trans (HB0.out.past HE.out y4)
  have FIN : Hid (∃ vD' vR' E', Book base w4 g vD' vR' E' ∧ Few (M + 1) E' ∧ E.length ≤ E'.length ∧ E'.length ≤ E.length + 1 ∧ ((E = [] → E' = []) ∧ ∀ a b c, Shp a b c E → Shp a b c E') ∧ Past base w w4) := ⟨_, _, _, f1, (HM.out.mono (by omega)).set (by have := HM.out e hmem; show (rD (wD (e.d.halts n) 12 n b) 12).loose.length ≤ _; rw [rD_loose]; omega), by simp, by simp, ⟨fun e => by rw [e] at hkl; simp at hkl, fun _ _ _ hs => hs.set HE.out (((halts_shape _ _).trans (wD_shape _ _ _ _)).trans (rD_shape _ _))⟩, f2⟩
  clear hrd f1 f2 hB2 hB3 hB4 z0 z1 z2 z3 z4 z5 z6
  go_wp2
  go_ret
  exact ⟨rfl, FIN.out⟩
end Go.Proofs.Ytmipmiaflompmaa

