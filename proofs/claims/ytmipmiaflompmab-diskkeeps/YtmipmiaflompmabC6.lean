import Derived.Test.YtmipmiaflompmabC5
/-
  OWN WORK. DiskKeeps: lentImage: an image whose lists stand within longer ones.
-/
namespace Go.Proofs.Ytmipmiaflompmab
open Go.RowKit
set_option linter.unusedVariables false
set_option linter.unusedSimpArgs false

/-- 'x[:len(p)]' of what was lent -/
theorem lentT_cut {P : Program} (t e : TypeId) (hu : P.underlying t = some (.slice e)) (hsz : (P.info? e).map (·.size) = some 1) {w : World} {base c : Nat} {q : Option Addr} {p : List UInt8} (h : w.ownsRow base 5 1 (.slice q (p.length + 300) c) (p.length + 300) (u8s (p ++ lentT 300))) :
    ∀ u, (Instr.slice t (.slice q (p.length + 300) c) none (some (.int .i64 (p.length : Int))) none).run P u = .ok (.slice q p.length c) u := by
  have hb := Bs.ofOwn h
  obtain ⟨g, c', e', -, -, -⟩ := own_at h (by omega)
  obtain ⟨rfl, rfl⟩ : q = some ⟨g, 0, none⟩ ∧ c = c' := by simp at e'; exact e'
  obtain ⟨p2, h1, -, -, -⟩ := hb.cuts (P := P) t e hu hsz p.length (by simp)
  exact h1
set_option maxRecDepth 100000 in
set_option maxHeartbeats 12800000 in
theorem lentImage_any (V : IV) (m : IM) (w : World) (hV : SeeIm w V m) (hcap : (V.pv.length + 4) * 24 ≤ 140737488355328) (hcP : m.pair.length + 300 ≤ 140737488355328) (hcL : m.log.length + 300 ≤ 140737488355328) (hc0 : m.m0.length + 300 ≤ 140737488355328) (hc1 : m.m1.length + 300 ≤ 140737488355328) (hcs : ∀ l ∈ m.ps, l.length + 300 ≤ 140737488355328) :
    Calls Try.prog 5 #[V.agg] w fun e w' => ∃ (U : IV) (us : List Value), e = .returned U.agg ∧ LentIm w' w.heap.size U m us ∧ Kept [] w w' := by
  obtain ⟨xa, ya, ea, -⟩ := hV.vp
  obtain ⟨xb, yb, eb, -⟩ := hV.pair
  obtain ⟨xc, yc, ec, -⟩ := hV.log
  obtain ⟨xd, yd, ed, -⟩ := hV.m0
  obtain ⟨xe, ye, ee, -⟩ := hV.m1
  rw [hV.len] at ea
  have hps := fun (i : Nat) (hi : i < m.ps.length) => hV.pageAt hi
  have hvl := hV.len
  have hvm : m.ps.length ≤ maxLen := by obtain ⟨_, _, _, h1, h2, -⟩ := hV.vp; have := hV.len; omega
  have bP := hV.pair
  have bL := hV.log
  have b0 := hV.m0
  have b1 := hV.m1
  obtain ⟨vp, pv, pair, log, m0, m1⟩ := V
  simp only at ea eb ec ed ee hcap hps hvl bP bL b0 b1
  subst ea eb ec ed ee
  obtain ⟨w2, hw2⟩ : ∃ w2, w2 = (w.alloc (.cells #[.slice xa m.ps.length ya, .slice xb m.pair.length yb, .slice xc m.log.length yc, .slice xd m.m0.length yd, .slice xe m.m1.length ye] 28)).alloc (.cells #[.slice none 0 0, .slice none 0 0, .slice none 0 0, .slice none 0 0, .slice none 0 0] 28) := ⟨_, rfl⟩
  have k2 : Kept [] w w2 := by rw [hw2]; exact ((Kept.refl [] w).alloc _).alloc _
  have bI : Blk w2 w.heap.size 28 [.slice xa m.ps.length ya, .slice xb m.pair.length yb, .slice xc m.log.length yc, .slice xd m.m0.length yd, .slice xe m.m1.length ye] := by rw [hw2]; exact (Blk.new w _ _).kept ((Kept.refl [] _).alloc _) (by simp)
  have bR : Blk w2 (w.heap.size + 1) 28 [.slice none 0 0, .slice none 0 0, .slice none 0 0, .slice none 0 0, .slice none 0 0] := by
    rw [hw2]
    have := Blk.new (w.alloc (.cells #[.slice xa m.ps.length ya, .slice xb m.pair.length yb, .slice xc m.log.length yc, .slice xd m.m0.length yd, .slice xe m.m1.length ye] 28)) 28 [.slice none 0 0, .slice none 0 0, .slice none 0 0, .slice none 0 0, .slice none 0 0]
    rwa [World.size_alloc] at this
  have HW2 := @hideH _ hw2
  have HV : Hid (∀ i, i < m.ps.length → ∃ b o v l, xa = some ⟨b, o, none⟩ ∧ w.cell? ⟨b, o + i, none⟩ = some v ∧ m.ps[i]? = some l ∧ Bs w v l) := (show ∀ i, i < m.ps.length → ∃ b o v l, xa = some ⟨b, o, none⟩ ∧ w.cell? ⟨b, o + i, none⟩ = some v ∧ m.ps[i]? = some l ∧ Bs w v l from fun i hi => by obtain ⟨b, o, c, v, l, h1, h2, h3, h4⟩ := hps i hi; simp at h1; exact ⟨b, o, v, l, h1.1, h2, h3, h4⟩)
  have HVM := @hideH _ hvm
  rw [hvl] at hcap
  have HM := @hideH _ (And.intro b0 b1)
  have HB := @hideH _ (And.intro bI bR)
  have K2 := @hideH _ k2
  have HC := @hideH _ (And.intro hcap (And.intro hc0 (And.intro hc1 hcs)))
  have hlP := @hideH _ (fun (x : World) (kx : Kept [] w2 x) => lent_any _ m.pair x ((bP.kept k2).kept kx) hcP)
  have hlL := @hideH _ (fun (x : World) (kx : Kept [] w2 x) => lent_any _ m.log x ((bL.kept k2).kept kx) hcL)
  obtain ⟨⟨-, q1, q2, -, -⟩, -⟩ := bI.five
  unfold IV.agg
  dsimp only
  clear hV hps hvl hvm bP bL b0 b1 hcap hcP hcL hc0 hc1 hcs hw2 k2 bI bR
  go_enter Try.func5, Try.ntmps5
  go_upto_region 1 with fail
  rw [← HW2.out]
  have kx : Kept [] w2 w2.drew := (Kept.refl [] w2).drew
  have tk1 : True := trivial
  have tk2 : True := trivial
  have HT1 := @hideH _ (fun (x : World) (o : Obj) (k : Kept [] w2 x) => (show (x.alloc o).cell? ⟨w.heap.size, 1, none⟩ = some (.slice xb m.pair.length yb) ∧ (x.alloc o).cell? ⟨w.heap.size, 2, none⟩ = some (.slice xc m.log.length yc) from ⟨(k.alloc o).cell q1 (by simp), (k.alloc o).cell q2 (by simp)⟩))
  have HT3 := @hideH _ (fun (o : Obj) => (show ((w2.alloc o).drew).cell? ⟨w.heap.size, 1, none⟩ = some (.slice xb m.pair.length yb) ∧ ((w2.alloc o).drew).cell? ⟨w.heap.size, 2, none⟩ = some (.slice xc m.log.length yc) from ⟨((Kept.refl [] w2).alloc o).drew.cell q1 (by simp), ((Kept.refl [] w2).alloc o).drew.cell q2 (by simp)⟩))
  have hlt : w.heap.size < w2.heap.size := HB.out.1.lt
  have HT2 := @hideH _ (fun (x : World) (g : Nat) (u0 u1 u2 u3 u4 v0 v1 v2 v3 v4 : Value) (b : Blk x g 28 [u0, u1, u2, u3, u4]) (hg : w2.heap.size ≤ g) (k : Kept [] w2 x) => (show ((((((x.setCell ⟨g, 0, none⟩ v0).setCell ⟨g, 1, none⟩ v1).setCell ⟨g, 2, none⟩ v2).setCell ⟨g, 3, none⟩ v3).setCell ⟨g, 4, none⟩ v4)).cell? ⟨w.heap.size, 1, none⟩ = some (.slice xb m.pair.length yb) ∧ ((((((x.setCell ⟨g, 0, none⟩ v0).setCell ⟨g, 1, none⟩ v1).setCell ⟨g, 2, none⟩ v2).setCell ⟨g, 3, none⟩ v3).setCell ⟨g, 4, none⟩ v4)).cell? ⟨w.heap.size, 2, none⟩ = some (.slice xc m.log.length yc) from by have ne : w.heap.size ∉ [g] := (fun hm => by simp at hm; omega); have kk := (b.set5 (a' := v0) (b' := v1) (c' := v2) (d' := v3) (e' := v4)).2; exact ⟨kk.cell (k.cell q1 (by simp)) ne, kk.cell (k.cell q2 (by simp)) ne⟩))
  go_cut [3] (fun s wx => ∃ (B : Nat) (p3 p4 : Option Addr) (c3 c4 : Nat), s = .pointer (some ⟨B, 0, none⟩) ∧ Hid (w2.heap.size ≤ B ∧ Blk wx B 28 [.slice none 0 0, .slice p3 m.pair.length c3, .slice p4 m.log.length c4, .slice none 0 0, .slice none 0 0] ∧ Fam wx w2.heap.size [.slice p3 (m.pair.length + 300) c3, .slice p4 (m.log.length + 300) c4] [m.pair ++ lentT 300, m.log ++ lentT 300] ∧ Kept [] w2 wx))
  case first =>
    go_region_held3 (fun w' => (w').cell? ⟨w.heap.size, 1, none⟩ = some (.slice xb m.pair.length yb) ∧ (w').cell? ⟨w.heap.size, 2, none⟩ = some (.slice xc m.log.length yc))
      (first | (with_reducible exact ⟨kx.cell q1 (by simp), kx.cell q2 (by simp)⟩) | (with_reducible exact HT1.out _ _ kx) | (with_reducible exact HT3.out _) | (with_reducible exact HT2.out _ _ _ _ _ _ _ _ _ _ _ _ bz hgz kx) | fail)
      (first
        | (go_at_call 12; clear tk1; refine (hlP.out _ kx).mono ?_; rintro r w3 ⟨v3, rfl, o3, k3⟩; obtain ⟨p3, c3, rfl⟩ := own_shape2 o3; have lt3 : ∀ x, (Value.slice p3 (m.pair.length + 300) c3).ownBlock = some x → x < w3.heap.size := (fun x hx => own_lt o3 x hx); have cut3 := lentT_cut (P := Try.prog) 25 5 Try.underlying25 (by kernel_rfl) o3; have kx0 := kx.size; replace kx := kx.then k3)
        | (go_at_call 12; clear tk1; have bz := (Blk.new w2 28 [.slice none 0 0, .slice none 0 0, .slice none 0 0, .slice none 0 0, .slice none 0 0]).kept ((Kept.refl [] _).drew) (by simp); have hgz := Nat.le_refl w2.heap.size; replace kx := ((Kept.refl [] w2).alloc (.cells #[.slice none 0 0, .slice none 0 0, .slice none 0 0, .slice none 0 0, .slice none 0 0] 28)).drew; refine (hlP.out _ kx).mono ?_; rintro r w3 ⟨v3, rfl, o3, k3⟩; obtain ⟨p3, c3, rfl⟩ := own_shape2 o3; have lt3 : ∀ x, (Value.slice p3 (m.pair.length + 300) c3).ownBlock = some x → x < w3.heap.size := (fun x hx => own_lt o3 x hx); have cut3 := lentT_cut (P := Try.prog) 25 5 Try.underlying25 (by kernel_rfl) o3; have kx0 := kx.size; replace kx := kx.then k3; replace bz := bz.kept k3 (by simp))
        | (go_at_call 12; clear tk2; refine (hlL.out _ kx).mono ?_; rintro r w4 ⟨v4, rfl, o4, k4⟩; obtain ⟨p4, c4, rfl⟩ := own_shape2 o4; have ge4 : ∀ x, (Value.slice p4 (m.log.length + 300) c4).ownBlock = some x → w3.heap.size ≤ x := (fun x hx => own_ge o4 x hx); have cut4 := lentT_cut (P := Try.prog) 25 5 Try.underlying25 (by kernel_rfl) o4; replace o3 := own_of_kept o3 k4 (by simp); have kx1 := kx.size; replace kx := kx.then k4; try (replace bz := bz.kept k4 (by simp)); try (obtain ⟨⟨z0, z1, z2, z3, z4⟩, y0, y1, y2, y3, y4⟩ := bz.five))
        | (go_at_call 12; clear tk2; have bz := Blk.new w3 28 [.slice none 0 0, .slice none 0 0, .slice none 0 0, .slice none 0 0, .slice none 0 0]; have hgz := kx.size; replace o3 := own_of_kept o3 ((Kept.refl [] w3).alloc (.cells #[.slice none 0 0, .slice none 0 0, .slice none 0 0, .slice none 0 0, .slice none 0 0] 28)) (by simp); replace kx := kx.alloc (.cells #[.slice none 0 0, .slice none 0 0, .slice none 0 0, .slice none 0 0, .slice none 0 0] 28); refine (hlL.out _ kx).mono ?_; rintro r w4 ⟨v4, rfl, o4, k4⟩; obtain ⟨p4, c4, rfl⟩ := own_shape2 o4; have ge4 : ∀ x, (Value.slice p4 (m.log.length + 300) c4).ownBlock = some x → w3.heap.size ≤ x := (fun x hx => Nat.le_trans (Nat.le_succ _) (by have h9 := own_ge o4 x hx; rw [World.size_alloc] at h9; exact h9)); have cut4 := lentT_cut (P := Try.prog) 25 5 Try.underlying25 (by kernel_rfl) o4; replace o3 := own_of_kept o3 k4 (by simp); have kx1 := kx.size; replace kx := kx.then k4; replace bz := bz.kept k4 (by simp); obtain ⟨⟨z0, z1, z2, z3, z4⟩, y0, y1, y2, y3, y4⟩ := bz.five)
        | fail)
    all_goals have ap : ∀ x, (Value.slice p3 (m.pair.length + 300) c3).ownBlock = some x → (Value.slice p4 (m.log.length + 300) c4).ownBlock ≠ some x := (fun x h3 h4 => by have e3 := lt3 x h3; have e4 := ge4 x h4; omega)
    all_goals first
      | (obtain ⟨bF, kS⟩ := bz.set5 (a' := .slice none 0 0) (b' := .slice p3 m.pair.length c3) (c' := .slice p4 m.log.length c4) (d' := .slice none 0 0) (e' := .slice none 0 0); have oP := own_of_kept o3 kS (fun x hx hm => by simp at hm; subst hm; exact own_is8 o3 _ hx (bz.not8 (by decide))); have oL := own_of_kept o4 kS (fun x hx hm => by simp at hm; subst hm; exact own_is8 o4 _ hx (bz.not8 (by decide))); have kF := kx.trans kS (fun x hx => .inr (by simp at hx; omega)); have ZF := @hideH _ (And.intro hgz (And.intro bF (And.intro (fam2 (own_mono oP kx0) (own_mono oL kx1) ap) kF))))
      | (have kA := (Kept.refl [] w4).alloc (.cells #[.slice none 0 0, .slice p3 m.pair.length c3, .slice p4 m.log.length c4, .slice none 0 0, .slice none 0 0] 28); have bF := Blk.new w4 28 [.slice none 0 0, .slice p3 m.pair.length c3, .slice p4 m.log.length c4, .slice none 0 0, .slice none 0 0]; have oP := own_of_kept o3 kA (by simp); have oL := own_of_kept o4 kA (by simp); have ZF := @hideH _ (And.intro kx.size (And.intro bF (And.intro (fam2 (own_mono oP kx0) (own_mono oL kx1) ap) (kx.then kA)))))
    all_goals
      clear HT1 HT2 HT3 cut3 cut4 ap lt3 ge4 o3 o4
      go_wp2_with fail
      go_meet
      exact ⟨_, p3, p4, c3, c4, rfl, ZF⟩
  case rest =>
    obtain ⟨B, p3, p4, c3, c4, rfl, hC⟩ := hcut
    have L0 := @hideH _ (LiS.start hC.out.1 hC.out.2.1 hC.out.2.2.1 hC.out.2.2.2)
    have qv := HB.out.1.cell (j := 0) rfl
    have HQV := @hideH _ qv
    clear hC HT1 HT2 HT3 kx tk1 tk2 q1 q2 hlP hlL hlt
    clear qv
    go_wp2
    go_loopw [4] (fun vi wr => ∃ (k : Nat) (vq : Value) (qs us : List Value), k ≤ m.ps.length ∧ vi = .int .i64 k ∧ Hid (LiS w2 wr B m k vq qs us p3 p4 c3 c4)) (fun vi _ => m.ps.length - (intOf vi).toNat)
    case atStart => exact ⟨0, _, _, _, Nat.zero_le _, rfl, L0⟩
    case round =>
      clear L0
      obtain ⟨k, vq, qs, us, hk, rfl, hL⟩ := hrel
      have qv := hL.out.kept.cell HQV.out (by simp)
      by_cases hkl : k < m.ps.length
      · have hkl' : (k : Int) < (m.ps.length : Int) := by omega
        have hk0 : (0 : Int) ≤ (k : Int) := by omega
        have wk : IntKind.i64.wrap ((k : Int) + 1) = (k : Int) + 1 := wrap_i64_of (by omega) (by have := HVM.out; unfold maxLen at this; omega)
        obtain ⟨pb, po, u, l, rfl, cu, hl, bu⟩ := HV.out k hkl
        obtain ⟨pu, cc, rfl, -⟩ := id bu
        have cu2 := (K2.out.then hL.out.kept).cell cu (by simp)
        have cB := hL.out.blk.cell (j := 0) rfl
        obtain ⟨pq, cq, eq⟩ := own_shape2 hL.out.row
        subst eq
        have hll := @hideH _ (fun (x : World) (kx : Kept [] wr x) => lent_any _ l x ((bu.kept (K2.out.then hL.out.kept)).kept kx) (HC.out.2.2.2 l (List.mem_of_getElem? hl)))
        have hrm : k + 1 ≤ maxLen ∧ (k + 1) * 24 ≤ 140737488355328 := by have h1 := HC.out.1; have h2 := HVM.out; constructor <;> omega
        have HRM := @hideH _ hrm
        have HHL := @hideH _ hl
        have hszw := @hideH _ hL.out.kept.size
        have HCU := @hideH _ cu
        clear bu cu hl hrm
        go_upto_region 5 with fail
        refine wp_region_late (fun w' => w'.cell? ⟨B, 0, none⟩ = some (.slice pq k cq) ∧ w'.cell? ⟨w.heap.size, 0, none⟩ = some (.slice (some ⟨pb, po, none⟩) m.ps.length ya) ∧ w'.cell? ⟨pb, po + k, none⟩ = some (.slice pu l.length cc)) 18 (by kernel_rfl) ?_
        have hS : (wr.drew.cell? ⟨B, 0, none⟩ = some (.slice pq k cq) ∧ wr.drew.cell? ⟨w.heap.size, 0, none⟩ = some (.slice (some ⟨pb, po, none⟩) m.ps.length ya) ∧ wr.drew.cell? ⟨pb, po + k, none⟩ = some (.slice pu l.length cc)) := ⟨cB, qv, cu2⟩
        refine wpAnyZ_take 0 (v := ?v0) rfl (by kernel_rfl) (by kernel_rfl) (by kernel_rfl) (by kernel_rfl) (fun _ _ _ h => h) (by rfl) ?hy0 hS ?rest0
        case hy0 => (intro wx hSx; (try dsimp only at hSx); go_simp; (try with_reducible rfl))
        (try simp only [Act.put, List.setIfInBounds_toArray, List.set_cons_zero, List.set_cons_succ])
        refine wpAnyZ_take 1 (v := ?v1) rfl (by kernel_rfl) (by kernel_rfl) (by kernel_rfl) (by kernel_rfl) (fun _ _ _ h => h) (by rfl) ?hy1 hS ?rest1
        case hy1 => (intro wx hSx; (try dsimp only at hSx); go_simp; (try with_reducible rfl))
        (try simp only [Act.put, List.setIfInBounds_toArray, List.set_cons_zero, List.set_cons_succ])
        refine wpAnyZ_take 2 (v := ?v2) rfl (by kernel_rfl) (by kernel_rfl) (by kernel_rfl) (by kernel_rfl) (fun _ _ _ h => h) (by rfl) ?hy2 hS ?rest2
        case hy2 => (intro wx hSx; (try dsimp only at hSx); go_simp; (try with_reducible rfl))
        (try simp only [Act.put, List.setIfInBounds_toArray, List.set_cons_zero, List.set_cons_succ])
        refine wpAnyZ_take 3 (v := ?v3) rfl (by kernel_rfl) (by kernel_rfl) (by kernel_rfl) (by kernel_rfl) (fun _ _ _ h => h) (by rfl) ?hy3 hS ?rest3
        case hy3 => (intro wx hSx; (try dsimp only at hSx); go_simp; (try with_reducible rfl))
        (try simp only [Act.put, List.setIfInBounds_toArray, List.set_cons_zero, List.set_cons_succ])
        refine wpAnyZ_take 4 (v := ?v4) rfl (by kernel_rfl) (by kernel_rfl) (by kernel_rfl) (by kernel_rfl) (fun _ _ _ h => h) (by rfl) ?hy4 hS ?rest4
        case hy4 => (intro wx hSx; (try dsimp only at hSx); go_simp; (try with_reducible rfl))
        (try simp only [Act.put, List.setIfInBounds_toArray, List.set_cons_zero, List.set_cons_succ])
        refine wpAnyZ_take 5 (v := ?v5) rfl (by kernel_rfl) (by kernel_rfl) (by kernel_rfl) (by kernel_rfl) (fun _ _ _ h => h) (by rfl) ?hy5 hS ?rest5
        case hy5 => (intro wx hSx; (try dsimp only at hSx); go_simp; (try with_reducible rfl))
        (try simp only [Act.put, List.setIfInBounds_toArray, List.set_cons_zero, List.set_cons_succ])
        refine wpAnyZ_take 6 (v := ?v6) rfl (by kernel_rfl) (by kernel_rfl) (by kernel_rfl) (by kernel_rfl) (fun _ _ _ h => h) (by rfl) ?hy6 hS ?rest6
        case hy6 => (intro wx hSx; (try dsimp only at hSx); go_simp; (try with_reducible rfl))
        (try simp only [Act.put, List.setIfInBounds_toArray, List.set_cons_zero, List.set_cons_succ])
        refine wpAnyZ_take 8 (v := ?v8) rfl (by kernel_rfl) (by kernel_rfl) (by kernel_rfl) (by kernel_rfl) (fun _ _ _ h => h) (by rfl) ?hy8 hS ?rest8
        case hy8 => (intro wx hSx; (try dsimp only at hSx); go_simp; (try with_reducible rfl))
        (try simp only [Act.put, List.setIfInBounds_toArray, List.set_cons_zero, List.set_cons_succ])
        refine wpAnyZ_take 9 (v := ?v9) rfl (by kernel_rfl) (by kernel_rfl) (by kernel_rfl) (by kernel_rfl) (fun _ _ _ h => h) (by rfl) ?hy9 hS ?rest9
        case hy9 => (intro wx hSx; (try dsimp only at hSx); go_simp; (try with_reducible rfl))
        (try simp only [Act.put, List.setIfInBounds_toArray, List.set_cons_zero, List.set_cons_succ])
        refine wpAnyZ_take 10 (v := ?v10) rfl (by kernel_rfl) (by kernel_rfl) (by kernel_rfl) (by kernel_rfl) (fun _ _ _ h => h) (by rfl) ?hy10 hS ?rest10
        case hy10 => (intro wx hSx; (try dsimp only at hSx); go_simp; (try with_reducible rfl))
        (try simp only [Act.put, List.setIfInBounds_toArray, List.set_cons_zero, List.set_cons_succ])
        refine wpAnyZ_take 11 (v := ?v11) rfl (by kernel_rfl) (by kernel_rfl) (by kernel_rfl) (by kernel_rfl) (fun _ _ _ h => h) (by rfl) ?hy11 hS ?rest11
        case hy11 => (intro wx hSx; (try dsimp only at hSx); go_simp; (try with_reducible rfl))
        (try simp only [Act.put, List.setIfInBounds_toArray, List.set_cons_zero, List.set_cons_succ])
        refine wpAnyZ_take 12 (v := ?v12) rfl (by kernel_rfl) (by kernel_rfl) (by kernel_rfl) (by kernel_rfl) (fun _ _ _ h => h) (by rfl) ?hy12 hS ?rest12
        case hy12 => (intro wx hSx; (try dsimp only at hSx); go_simp; (try with_reducible rfl))
        (try simp only [Act.put, List.setIfInBounds_toArray, List.set_cons_zero, List.set_cons_succ])
        refine wpAnyZ_take 13 (v := ?v13) rfl (by kernel_rfl) (by kernel_rfl) (by kernel_rfl) (by kernel_rfl) (fun _ _ _ h => h) (by rfl) ?hy13 hS ?rest13
        case hy13 => (intro wx hSx; (try dsimp only at hSx); go_simp; (try with_reducible rfl))
        (try simp only [Act.put, List.setIfInBounds_toArray, List.set_cons_zero, List.set_cons_succ])
        refine wpAnyZ_one 7 rfl (by kernel_rfl) (fun K hK => ?_)
        go_simp
        refine (hll.out _ (Kept.refl [] wr).drew).mono ?_
        rintro e w3 ⟨v3, rfl, o3, k3'⟩
        obtain ⟨p5, c5, rfl⟩ := own_shape2 o3
        have k3 : Kept [] wr w3 := (Kept.refl [] wr).drew.then k3'
        dsimp only
        have cut5 := lentT_cut (P := Try.prog) 25 5 Try.underlying25 (by kernel_rfl) o3
        have hS3 : ((w3).cell? ⟨B, 0, none⟩ = some (.slice pq k cq) ∧ (w3).cell? ⟨w.heap.size, 0, none⟩ = some (.slice (some ⟨pb, po, none⟩) m.ps.length ya) ∧ (w3).cell? ⟨pb, po + k, none⟩ = some (.slice pu l.length cc)) := ⟨k3.cell cB (by simp), k3.cell qv (by simp), k3.cell cu2 (by simp)⟩
        refine hK _ _ (fun _ => hS3) ?_
        clear hK K hS
        (try simp only [Act.put, List.setIfInBounds_toArray, List.set_cons_zero, List.set_cons_succ])
        refine wpAnyZ_one 14 rfl (by kernel_rfl) (fun K hK => ?_)
        go_simp
        refine hK _ _ (fun _ => hS3) ?_
        clear hK K
        (try simp only [Act.put, List.setIfInBounds_toArray, List.set_cons_zero, List.set_cons_succ])
        have k4 := (Kept.refl [] w3).alloc (.cells #[.slice p5 l.length c5] 25)
        have hS4 : ((w3.alloc (.cells #[.slice p5 l.length c5] 25)).cell? ⟨B, 0, none⟩ = some (.slice pq k cq) ∧ (w3.alloc (.cells #[.slice p5 l.length c5] 25)).cell? ⟨w.heap.size, 0, none⟩ = some (.slice (some ⟨pb, po, none⟩) m.ps.length ya) ∧ (w3.alloc (.cells #[.slice p5 l.length c5] 25)).cell? ⟨pb, po + k, none⟩ = some (.slice pu l.length cc)) := ⟨(k3.then k4).cell cB (by simp), (k3.then k4).cell qv (by simp), (k3.then k4).cell cu2 (by simp)⟩
        refine wpAnyZ_one 15 rfl (by kernel_rfl) (fun K hK => ?_)
        go_simp
        refine hK _ _ (fun _ => hS4) ?_
        clear hK K
        (try simp only [Act.put, List.setIfInBounds_toArray, List.set_cons_zero, List.set_cons_succ])
        have row4 := own_of_kept hL.out.row (k3.then k4) (by simp)
        have nw := news1 w3 25 (.slice p5 l.length c5) rfl
        have sz4 : w2.heap.size ≤ (w3.alloc (.cells #[.slice p5 l.length c5] 25)).heap.size := Nat.le_trans hszw.out (k3.then k4).size
        refine wpAnyZ_one 16 rfl (by kernel_rfl) (fun K hK => ?_)
        refine step_append_own2 (by rfl) (.tmp 29) (.tmp 43) 24 (by rfl) w2.heap.size 25 Try.underlying24 (.slice none 0 0) 24 (by kernel_rfl) rfl (.slice pq k cq) k qs (by rfl) row4 ⟨w3.heap.size, 0, none⟩ 1 1 [.slice p5 l.length c5] (by rfl) rfl nw (by simp [Value.oneCell']) HRM.out.1 HRM.out.2 sz4 ?_
        intro v6 w5 o5 g5 at5
        obtain ⟨p6, c6, rfl⟩ := own_shape2 o5
        obtain ⟨N1, cB5, fB5, k25⟩ := hL.out.next HHL.out k3 o3 k4 o5 g5
        have hS5 : ((w5).cell? ⟨B, 0, none⟩ = some (.slice pq k cq) ∧ (w5).cell? ⟨w.heap.size, 0, none⟩ = some (.slice (some ⟨pb, po, none⟩) m.ps.length ya) ∧ (w5).cell? ⟨pb, po + k, none⟩ = some (.slice pu l.length cc)) := ⟨cB5, k25.cell HQV.out (by simp), (K2.out.then k25).cell HCU.out (by simp)⟩
        refine hK _ _ (fun _ => hS5) ?_
        clear hK K
        (try simp only [Act.put, List.setIfInBounds_toArray, List.set_cons_zero, List.set_cons_succ])
        refine wpAnyZ_one 17 rfl (by kernel_rfl) (fun K hK => ?_)
        go_simp
        refine hK _ _ (fun _ => hS5) ?_
        clear hK K
        (try simp only [Act.put, List.setIfInBounds_toArray, List.set_cons_zero, List.set_cons_succ])
        refine wpAnyZ_one 18 rfl (by kernel_rfl) (fun K hK => ?_)
        go_simp
        refine hK _ _ (fun h => absurd rfl h) ?_
        clear hK K
        refine wpAnyZ_done (by kernel_rfl) ?_ _
        have HN1 := @hideH _ N1
        clear N1 cB5 fB5 k25 hS3 hS4 hS5 row4 nw sz4 o3 o5 g5 at5 k3 k3' k4 cut5 cB qv cu2 hL hll
        go_wp2
        go_roundw
        case rel => exact ⟨k + 1, _, _, _, by omega, by go_num, HN1⟩
        case measure => simp [intOf]; omega
      · obtain rfl : k = m.ps.length := by omega
        obtain ⟨pq, cq, eq⟩ := own_shape2 hL.out.row
        subst eq
        have cB := hL.out.blk.cell (j := 0) rfl
        have kd : Kept [] wr wr.drew := (Kept.refl [] wr).drew
        go_upto_region 6 with fail
        have HRL : Hid (m.ps.length + 2 ≤ maxLen ∧ (m.ps.length + 2) * 24 ≤ 140737488355328) := (show m.ps.length + 2 ≤ maxLen ∧ (m.ps.length + 2) * 24 ≤ 140737488355328 by have h1 := HC.out.1; constructor; (unfold maxLen; omega); omega)
        go_cut [] (fun wx => ∃ (p : Option Addr) (c : Nat) (qs us : List Value) (v7 v8 : Value), Hid (LiE w2 wx B m p c qs us v7 v8 p3 p4 c3 c4 (.slice none 0 0) (.slice none 0 0) [] []))
        case first =>
          refine wp_region_late (fun w' => w'.cell? ⟨B, 0, none⟩ = some (.slice pq m.ps.length cq) ∧ w'.cell? ⟨w.heap.size, 0, none⟩ = some (.slice xa m.ps.length ya)) 11 (by kernel_rfl) ?_
          have hS : (wr.drew.cell? ⟨B, 0, none⟩ = some (.slice pq m.ps.length cq) ∧ wr.drew.cell? ⟨w.heap.size, 0, none⟩ = some (.slice xa m.ps.length ya)) := ⟨cB, qv⟩
          have HSK := @hideH _ (fun (x : World) (kx : Kept [] wr x) => (show x.cell? ⟨B, 0, none⟩ = some (.slice pq m.ps.length cq) ∧ x.cell? ⟨w.heap.size, 0, none⟩ = some (.slice xa m.ps.length ya) from ⟨kx.cell cB (by simp), kx.cell qv (by simp)⟩))
          refine wpAnyZ_take 0 (v := ?vs0) rfl (by kernel_rfl) (by kernel_rfl) (by kernel_rfl) (by kernel_rfl) (fun _ _ _ h => h) (by rfl) ?hys0 hS ?rests0
          case hys0 => (intro wx hSx; (try dsimp only at hSx); go_simp; (try with_reducible rfl))
          (try simp only [Act.put, List.setIfInBounds_toArray, List.set_cons_zero, List.set_cons_succ])
          refine wpAnyZ_take 1 (v := ?vs1) rfl (by kernel_rfl) (by kernel_rfl) (by kernel_rfl) (by kernel_rfl) (fun _ _ _ h => h) (by rfl) ?hys1 hS ?rests1
          case hys1 => (intro wx hSx; (try dsimp only at hSx); go_simp; (try with_reducible rfl))
          (try simp only [Act.put, List.setIfInBounds_toArray, List.set_cons_zero, List.set_cons_succ])
          refine wpAnyZ_take 6 (v := ?vs6) rfl (by kernel_rfl) (by kernel_rfl) (by kernel_rfl) (by kernel_rfl) (fun _ _ _ h => h) (by rfl) ?hys6 hS ?rests6
          case hys6 => (intro wx hSx; (try dsimp only at hSx); go_simp; (try with_reducible rfl))
          (try simp only [Act.put, List.setIfInBounds_toArray, List.set_cons_zero, List.set_cons_succ])
          refine wpAnyZ_take 7 (v := ?vs7) rfl (by kernel_rfl) (by kernel_rfl) (by kernel_rfl) (by kernel_rfl) (fun _ _ _ h => h) (by rfl) ?hys7 hS ?rests7
          case hys7 => (intro wx hSx; (try dsimp only at hSx); go_simp; (try with_reducible rfl))
          (try simp only [Act.put, List.setIfInBounds_toArray, List.set_cons_zero, List.set_cons_succ])
          refine wpAnyZ_take 8 (v := ?vs8) rfl (by kernel_rfl) (by kernel_rfl) (by kernel_rfl) (by kernel_rfl) (fun _ _ _ h => h) (by rfl) ?hys8 hS ?rests8
          case hys8 => (intro wx hSx; (try dsimp only at hSx); go_simp; (try with_reducible rfl))
          (try simp only [Act.put, List.setIfInBounds_toArray, List.set_cons_zero, List.set_cons_succ])
          refine wpAnyZ_two 2 3 rfl rfl (by kernel_rfl) (fun K hK => ?_) (fun K hK => ?_)
          · go_simp
            refine hK _ _ (fun _ => HSK.out _ (kd.alloc (.cells #[.int .u8 7] 5))) ?_
            clear hK K
            (try simp only [Act.put, List.setIfInBounds_toArray, List.set_cons_zero, List.set_cons_succ])
            refine wpAnyZ_one 3 rfl (by kernel_rfl) (fun K hK => ?_)
            go_simp
            refine hK _ _ (fun _ => HSK.out _ ((kd.alloc (.cells #[.int .u8 7] 5)).alloc (.cells #[.int .u8 8] 5))) ?_
            clear hK K
            (try simp only [Act.put, List.setIfInBounds_toArray, List.set_cons_zero, List.set_cons_succ])
            obtain ⟨wB, hwB⟩ : ∃ wB, wB = ((wr.alloc (.cells #[.int .u8 7] 5)).alloc (.cells #[.int .u8 8] 5)).drew := ⟨_, rfl⟩
            have kB : Kept [] wr wB := by rw [hwB]; exact (((Kept.refl [] wr).alloc _).alloc _).drew
            have b7 : Bs wB (.slice (some ⟨wr.heap.size, 0, none⟩) 1 1) [7] := by rw [hwB]; exact (byte_lit wr 7).kept (((Kept.refl [] _).alloc _).drew)
            have b8 : Bs wB (.slice (some ⟨wr.heap.size + 1, 0, none⟩) 1 1) [8] := by
              rw [hwB]
              have h9 := byte_lit (wr.alloc (.cells #[.int .u8 7] 5)) 8
              rw [World.size_alloc] at h9
              exact h9.kept ((Kept.refl [] _).drew)
            rw [← hwB]
            clear hwB
            have kC := (Kept.refl [] wB).alloc (.cells #[.slice (some ⟨wr.heap.size, 0, none⟩) 1 1, .slice (some ⟨wr.heap.size + 1, 0, none⟩) 1 1] 25)
            refine wpAnyZ_one 4 rfl (by kernel_rfl) (fun K hK => ?_)
            go_simp
            refine hK _ _ (fun _ => HSK.out _ (kB.then kC)) ?_
            clear hK K
            (try simp only [Act.put, List.setIfInBounds_toArray, List.set_cons_zero, List.set_cons_succ])
            have rowC := own_of_kept hL.out.row (kB.then kC) (by simp)
            have nwC := World.news_of_block (heap_alloc_new wB (.cells #[.slice (some ⟨wr.heap.size, 0, none⟩) 1 1, .slice (some ⟨wr.heap.size + 1, 0, none⟩) 1 1] 25))
            have szC : w2.heap.size ≤ (wB.alloc (.cells #[.slice (some ⟨wr.heap.size, 0, none⟩) 1 1, .slice (some ⟨wr.heap.size + 1, 0, none⟩) 1 1] 25)).heap.size := Nat.le_trans hL.out.kept.size (kB.then kC).size
            refine wpAnyZ_one 5 rfl (by kernel_rfl) (fun K hK => ?_)
            refine step_append_own2 (by rfl) (.tmp 47) (.tmp 50) 24 (by rfl) w2.heap.size 25 Try.underlying24 (.slice none 0 0) 24 (by kernel_rfl) rfl (.slice pq m.ps.length cq) m.ps.length qs (by rfl) rowC ⟨wB.heap.size, 0, none⟩ 2 2 [.slice (some ⟨wr.heap.size, 0, none⟩) 1 1, .slice (some ⟨wr.heap.size + 1, 0, none⟩) 1 1] (by rfl) rfl nwC (by simp [Value.oneCell']) HRL.out.1 HRL.out.2 szC ?_
            intro v6 w5 o5 g5 at5
            obtain ⟨p6, c6, rfl⟩ := own_shape2 o5
            have hc6 : m.ps.length ≤ c6 := by obtain ⟨_, _, e9, h9, -, -⟩ := own_at o5 (by omega); simp at e9; omega
            have cut6 := fun (u : World) => run_cut_to (P := Try.prog) u 24 25 Try.underlying24 (by kernel_rfl) p6 (m.ps.length + 2) c6 m.ps.length hc6
            obtain ⟨N1, cB5, fB5, k25⟩ := hL.out.last kB b7 b8 (fun x hx => by simp [Value.ownBlock] at hx; omega) (fun x hx => by simp [Value.ownBlock] at hx; omega) kC (fun x hx => own_lt hL.out.row x hx) o5 g5
            have hS5 : (w5.cell? ⟨B, 0, none⟩ = some (.slice pq m.ps.length cq) ∧ w5.cell? ⟨w.heap.size, 0, none⟩ = some (.slice xa m.ps.length ya)) := ⟨cB5, k25.cell HQV.out (by simp)⟩
            refine hK _ _ (fun _ => hS5) ?_
            clear hK K
            (try simp only [Act.put, List.setIfInBounds_toArray, List.set_cons_zero, List.set_cons_succ])
            refine wpAnyZ_one 9 rfl (by kernel_rfl) (fun K hK => ?_)
            go_simp
            refine hK _ _ (fun _ => hS5) ?_
            clear hK K
            (try simp only [Act.put, List.setIfInBounds_toArray, List.set_cons_zero, List.set_cons_succ])
            refine wpAnyZ_one 10 rfl (by kernel_rfl) (fun K hK => ?_)
            go_simp
            refine hK _ _ (fun _ => hS5) ?_
            clear hK K
            (try simp only [Act.put, List.setIfInBounds_toArray, List.set_cons_zero, List.set_cons_succ])
            refine wpAnyZ_one 11 rfl (by kernel_rfl) (fun K hK => ?_)
            go_simp
            refine hK _ _ (fun h => absurd rfl h) ?_
            clear hK K
            refine wpAnyZ_done (by kernel_rfl) ?_ _
            have HN1 := @hideH _ N1
            clear N1 cB5 fB5 k25 hS5 rowC nwC szC o5 g5 at5 cut6 hc6 b7 b8 kC kB
            go_wp2_with fail
            go_meet
            exact ⟨_, _, _, _, _, _, HN1⟩
          · go_simp
            refine hK _ _ (fun _ => HSK.out _ (kd.alloc (.cells #[.int .u8 8] 5))) ?_
            clear hK K
            (try simp only [Act.put, List.setIfInBounds_toArray, List.set_cons_zero, List.set_cons_succ])
            refine wpAnyZ_one 2 rfl (by kernel_rfl) (fun K hK => ?_)
            go_simp
            refine hK _ _ (fun _ => HSK.out _ ((kd.alloc (.cells #[.int .u8 8] 5)).alloc (.cells #[.int .u8 7] 5))) ?_
            clear hK K
            (try simp only [Act.put, List.setIfInBounds_toArray, List.set_cons_zero, List.set_cons_succ])
            obtain ⟨wB, hwB⟩ : ∃ wB, wB = ((wr.alloc (.cells #[.int .u8 8] 5)).alloc (.cells #[.int .u8 7] 5)).drew := ⟨_, rfl⟩
            have kB : Kept [] wr wB := by rw [hwB]; exact (((Kept.refl [] wr).alloc _).alloc _).drew
            have b8 : Bs wB (.slice (some ⟨wr.heap.size, 0, none⟩) 1 1) [8] := by rw [hwB]; exact (byte_lit wr 8).kept (((Kept.refl [] _).alloc _).drew)
            have b7 : Bs wB (.slice (some ⟨wr.heap.size + 1, 0, none⟩) 1 1) [7] := by
              rw [hwB]
              have h9 := byte_lit (wr.alloc (.cells #[.int .u8 8] 5)) 7
              rw [World.size_alloc] at h9
              exact h9.kept ((Kept.refl [] _).drew)
            rw [← hwB]
            clear hwB
            have kC := (Kept.refl [] wB).alloc (.cells #[.slice (some ⟨wr.heap.size + 1, 0, none⟩) 1 1, .slice (some ⟨wr.heap.size, 0, none⟩) 1 1] 25)
            refine wpAnyZ_one 4 rfl (by kernel_rfl) (fun K hK => ?_)
            go_simp
            refine hK _ _ (fun _ => HSK.out _ (kB.then kC)) ?_
            clear hK K
            (try simp only [Act.put, List.setIfInBounds_toArray, List.set_cons_zero, List.set_cons_succ])
            have rowC := own_of_kept hL.out.row (kB.then kC) (by simp)
            have nwC := World.news_of_block (heap_alloc_new wB (.cells #[.slice (some ⟨wr.heap.size + 1, 0, none⟩) 1 1, .slice (some ⟨wr.heap.size, 0, none⟩) 1 1] 25))
            have szC : w2.heap.size ≤ (wB.alloc (.cells #[.slice (some ⟨wr.heap.size + 1, 0, none⟩) 1 1, .slice (some ⟨wr.heap.size, 0, none⟩) 1 1] 25)).heap.size := Nat.le_trans hL.out.kept.size (kB.then kC).size
            refine wpAnyZ_one 5 rfl (by kernel_rfl) (fun K hK => ?_)
            refine step_append_own2 (by rfl) (.tmp 47) (.tmp 50) 24 (by rfl) w2.heap.size 25 Try.underlying24 (.slice none 0 0) 24 (by kernel_rfl) rfl (.slice pq m.ps.length cq) m.ps.length qs (by rfl) rowC ⟨wB.heap.size, 0, none⟩ 2 2 [.slice (some ⟨wr.heap.size + 1, 0, none⟩) 1 1, .slice (some ⟨wr.heap.size, 0, none⟩) 1 1] (by rfl) rfl nwC (by simp [Value.oneCell']) HRL.out.1 HRL.out.2 szC ?_
            intro v6 w5 o5 g5 at5
            obtain ⟨p6, c6, rfl⟩ := own_shape2 o5
            have hc6 : m.ps.length ≤ c6 := by obtain ⟨_, _, e9, h9, -, -⟩ := own_at o5 (by omega); simp at e9; omega
            have cut6 := fun (u : World) => run_cut_to (P := Try.prog) u 24 25 Try.underlying24 (by kernel_rfl) p6 (m.ps.length + 2) c6 m.ps.length hc6
            obtain ⟨N1, cB5, fB5, k25⟩ := hL.out.last kB b7 b8 (fun x hx => by simp [Value.ownBlock] at hx; omega) (fun x hx => by simp [Value.ownBlock] at hx; omega) kC (fun x hx => own_lt hL.out.row x hx) o5 g5
            have hS5 : (w5.cell? ⟨B, 0, none⟩ = some (.slice pq m.ps.length cq) ∧ w5.cell? ⟨w.heap.size, 0, none⟩ = some (.slice xa m.ps.length ya)) := ⟨cB5, k25.cell HQV.out (by simp)⟩
            refine hK _ _ (fun _ => hS5) ?_
            clear hK K
            (try simp only [Act.put, List.setIfInBounds_toArray, List.set_cons_zero, List.set_cons_succ])
            refine wpAnyZ_one 9 rfl (by kernel_rfl) (fun K hK => ?_)
            go_simp
            refine hK _ _ (fun _ => hS5) ?_
            clear hK K
            (try simp only [Act.put, List.setIfInBounds_toArray, List.set_cons_zero, List.set_cons_succ])
            refine wpAnyZ_one 10 rfl (by kernel_rfl) (fun K hK => ?_)
            go_simp
            refine hK _ _ (fun _ => hS5) ?_
            clear hK K
            (try simp only [Act.put, List.setIfInBounds_toArray, List.set_cons_zero, List.set_cons_succ])
            refine wpAnyZ_one 11 rfl (by kernel_rfl) (fun K hK => ?_)
            go_simp
            refine hK _ _ (fun h => absurd rfl h) ?_
            clear hK K
            refine wpAnyZ_done (by kernel_rfl) ?_ _
            have HN1 := @hideH _ N1
            clear N1 cB5 fB5 k25 hS5 rowC nwC szC o5 g5 at5 cut6 hc6 b7 b8 kC kB
            go_wp2_with fail
            go_meet
            exact ⟨_, _, _, _, _, _, HN1⟩
        case rest =>
          obtain ⟨p, c, qs9, us9, v7, v8, hE⟩ := hcut
          have HQ0 := @hideH _ (HB.out.1.cell (j := 3) rfl)
          have HQ1 := @hideH _ (HB.out.1.cell (j := 4) rfl)
          have hwlt : w.heap.size < w2.heap.size := HB.out.1.lt
          have HWL := @hideH _ hwlt
          clear hL qv cB kd HRL hwlt
          go_wp2
          go_loopw [5] (fun vi wr => ∃ (t : Nat) (t0 t1 : Value) (ws : List Value) (ns : List (List UInt8)), t ≤ 2 ∧ vi = .int .i64 t ∧ Hid (LiE w2 wr B m p c qs9 us9 v7 v8 p3 p4 c3 c4 t0 t1 ws ns ∧ MasOk m t t0 t1 ws ns)) (fun vi _ => 2 - (intOf vi).toNat)
          case atStart => exact ⟨0, _, _, _, _, by omega, rfl, hE.out, .inl ⟨rfl, rfl, rfl, rfl, rfl⟩⟩
          case round =>
            clear hE
            obtain ⟨t, t0, t1, ws, ns, ht2, rfl, hE⟩ := hrel
            rcases hE.out.2 with ⟨rfl, rfl, rfl, rfl, rfl⟩ | ⟨rfl, pa, ca, rfl, rfl, rfl, rfl⟩ | ⟨rfl, pa, ca, pd, cd, rfl, rfl, rfl, rfl⟩
            · have cM := hE.out.1.kept.cell HQ0.out (by simp)
              have hl := @hideH _ (fun (x : World) (kx : Kept [] wr x) => lent_any _ m.m0 x ((HM.out.1.kept (K2.out.then hE.out.1.kept)).kept kx) HC.out.2.1)
              have kx : Kept [] wr wr.drew := (Kept.refl [] wr).drew
              go_upto_region 10 with fail
              go_region_held3 (fun w' => w'.cell? ⟨w.heap.size, 3, none⟩ = some (.slice xd m.m0.length yd))
                (first | (with_reducible exact kx.cell cM (by simp)) | (with_reducible exact tI) | fail)
                (first
                  | (go_at_call 12; refine (hl.out _ kx).mono ?_; rintro r w3 ⟨v3, rfl, o3, k3⟩; obtain ⟨p5, c5, rfl⟩ := own_shape2 o3; have cut5 := lentT_cut (P := Try.prog) 25 5 Try.underlying25 (by kernel_rfl) o3; replace kx := kx.then k3; have h3 := hE.out.1.then kx; have cB3 := h3.blk.cell (j := 3) rfl; have fB3 := h3.blk.free 3; have tI := (h3.blk.set 3 (.slice p5 m.m0.length c5)).2.cell (kx.cell cM (by simp)) (by have e1 := HWL.out; have e2 := h3.hB; simp; omega))
                  | fail)
              have N1 := @hideH _ (hE.out.1.mas (j := 3) kx o3 rfl)
              clear tI cB3 fB3 h3 cut5 o3 k3 kx hl cM
              have HN := @hideH _ (And.intro N1.out (show MasOk m 1 _ _ _ _ from .inr (.inl ⟨rfl, p5, c5, rfl, rfl, rfl, rfl⟩)))
              clear N1 hE
              go_wp2
              go_roundw
              case rel => exact ⟨1, _, _, _, _, by omega, (by first | rfl | go_num), HN⟩
              case measure => (first | (simp [intOf]; done) | (simp [intOf]; omega) | decide)
            · have cM := hE.out.1.kept.cell HQ1.out (by simp)
              have hl := @hideH _ (fun (x : World) (kx : Kept [] wr x) => lent_any _ m.m1 x ((HM.out.2.kept (K2.out.then hE.out.1.kept)).kept kx) HC.out.2.2.1)
              have kx : Kept [] wr wr.drew := (Kept.refl [] wr).drew
              go_upto_region 10 with fail
              go_region_held3 (fun w' => w'.cell? ⟨w.heap.size, 4, none⟩ = some (.slice xe m.m1.length ye))
                (first | (with_reducible exact kx.cell cM (by simp)) | (with_reducible exact tI) | fail)
                (first
                  | (go_at_call 12; refine (hl.out _ kx).mono ?_; rintro r w3 ⟨v3, rfl, o3, k3⟩; obtain ⟨p5, c5, rfl⟩ := own_shape2 o3; have cut5 := lentT_cut (P := Try.prog) 25 5 Try.underlying25 (by kernel_rfl) o3; replace kx := kx.then k3; have h3 := hE.out.1.then kx; have cB3 := h3.blk.cell (j := 4) rfl; have fB3 := h3.blk.free 4; have tI := (h3.blk.set 4 (.slice p5 m.m1.length c5)).2.cell (kx.cell cM (by simp)) (by have e1 := HWL.out; have e2 := h3.hB; simp; omega))
                  | fail)
              have N1 := @hideH _ (hE.out.1.mas (j := 4) kx o3 rfl)
              clear tI cB3 fB3 h3 cut5 o3 k3 kx hl cM
              have HN := @hideH _ (And.intro N1.out (show MasOk m 2 _ _ _ _ from .inr (.inr ⟨rfl, pa, ca, p5, c5, rfl, rfl, rfl, rfl⟩)))
              clear N1 hE
              go_wp2
              go_roundw
              case rel => exact ⟨2, _, _, _, _, by omega, (by first | rfl | go_num), HN⟩
              case measure => (first | (simp [intOf]; done) | (simp [intOf]; omega) | decide)
            · have h := hE.out.1
              have bR := HB.out.2.kept h.kept (by simp)
              obtain ⟨⟨s0, s1, s2, s3, s4⟩, -⟩ := h.blk.five
              obtain ⟨⟨r0, r1, r2, r3, r4⟩, y0, y1, y2, y3, y4⟩ := bR.five
              obtain ⟨bF, kF⟩ := bR.set5 (a' := .slice p m.ps.length c) (b' := .slice p3 m.pair.length c3) (c' := .slice p4 m.log.length c4) (d' := .slice pa m.m0.length ca) (e' := .slice pd m.m1.length cd)
              obtain ⟨⟨x0, x1, x2, x3, x4⟩, -⟩ := bF.five
              have hRl : w.heap.size + 1 < w2.heap.size := HB.out.2.lt
              have LI := @hideH _ (h.image kF hRl)
              have KF := @hideH _ ((K2.out.then h.kept).trans kF (fun x hx => .inr (by simp at hx; omega)))
              have HLE := @hideH _ K2.out.size
              clear h bR bF kF hE hRl
              go_wp2
              refine bodyPost_ret (by simp [results, Try.results5, go_sem, x0, x1, x2, x3, x4]; try rfl) rfl ?_
              exact ⟨⟨.slice p m.ps.length c, qs9, .slice p3 m.pair.length c3, .slice p4 m.log.length c4, .slice pa m.m0.length ca, .slice pd m.m1.length cd⟩, _, rfl, LI.out.mono HLE.out, KF.out⟩
end Go.Proofs.Ytmipmiaflompmab

