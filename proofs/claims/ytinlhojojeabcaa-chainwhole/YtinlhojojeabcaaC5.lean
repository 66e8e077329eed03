import Derived.Test.YtinlhojojeabcaaC4
/-
  OWN WORK (by mkcq3.py). chain: record.
-/
namespace Go.Proofs.Ytinlhojojeabcaa
open Go.RowKit
set_option linter.unusedVariables false
set_option linter.unusedSimpArgs false

/-- what record answers, where it may read -/
def RecOut (gf : Nat) (lb : Array Value) (R : Rdr) (St : World → List Nat → List Int → Prop) (F : List Nat) (qs : List Int) (g k : Nat) (l B : Int) (w w' : World) (e : Ending) : Prop :=
  ∃ (E : Int) (r : Lv) (F' : List Nat), e = .returned (.tuple #[.agg #[.int .i64 r.kind, .int .i64 r.birth, .int .i64 r.prev, .int .i64 r.id, .int .i64 r.page, .int .i64 r.frm, .slice r.b.p r.b.n r.b.c, .slice r.a.p r.a.n r.a.c, .int .i64 r.next, .slice r.r.p r.r.n r.r.c, .slice r.d.p r.d.n r.d.c], .int .i64 E]) ∧ St w' F' (qs ++ [l]) ∧ Kept (g :: F) w w' ∧ (∀ x ∈ F', x ∈ F ∨ w.heap.size ≤ x) ∧
    ((E ≠ 0 ∧ ((∃ r', R l = (E, r')) ∨ (E = 120 ∧ ∃ r', R l = (0, r') ∧ ¬ hangs r' l (bornAt (decide (k = 0)) B r' l)))) ∨
      (E = 0 ∧ r.fits ∧ R l = (0, r.rc) ∧ hangs r.rc l (bornAt (decide (k = 0)) B r.rc l) ∧ Blk w' g 60 [.func (.func gf) #[] lb, .int .i64 ((k : Int) + 1), .int .i64 l, .int .i64 (bornAt (decide (k = 0)) B r.rc l)]))
section
variable {gf : Nat} {lb : Array Value} {R : Rdr} {c : Nat} {St : World → List Nat → List Int → Prop}
set_option maxRecDepth 20000 in
set_option maxHeartbeats 3200000 in
theorem qRecNo (g : Nat) (k l B : Int) (w : World) (hB : Blk w g 60 [.func (.func gf) #[] lb, .int .i64 k, .int .i64 l, .int .i64 B]) (h : l < 0 ∨ k = 4096) : Calls Try.prog 22 #[.pointer (some ⟨g, 0, none⟩)] w fun e w' => e = .returned (.tuple #[.agg #[.int .i64 0, .int .i64 0, .int .i64 0, .int .i64 0, .int .i64 0, .int .i64 0, .slice none 0 0, .slice none 0 0, .int .i64 0, .slice none 0 0, .slice none 0 0], .int .i64 120]) ∧ Kept [] w w' := by
  obtain ⟨w1, hw1⟩ : ∃ wx, wx = w.alloc (.cells #[.int .i64 0, .int .i64 0, .int .i64 0, .int .i64 0, .int .i64 0, .int .i64 0, .slice none 0 0, .slice none 0 0, .int .i64 0, .slice none 0 0, .slice none 0 0] 42) := ⟨_, rfl⟩
  have k1 : Kept [] w w1 := by rw [hw1]; exact (Kept.refl [] w).alloc _
  have B1 : Blk w1 w.heap.size 42 [.int .i64 0, .int .i64 0, .int .i64 0, .int .i64 0, .int .i64 0, .int .i64 0, .slice none 0 0, .slice none 0 0, .int .i64 0, .slice none 0 0, .slice none 0 0] := by rw [hw1]; exact Blk.new w _ _
  have hB1 := hB.kept k1 (by simp)
  have y1 := hB1.cell (j := 1) rfl
  have y2 := hB1.cell (j := 2) rfl
  have hlt := hB1.lt
  have hlt0 := hB.lt
  have a0 := B1.cell (j := 0) rfl
  have a1 := B1.cell (j := 1) rfl
  have a2 := B1.cell (j := 2) rfl
  have a3 := B1.cell (j := 3) rfl
  have a4 := B1.cell (j := 4) rfl
  have a5 := B1.cell (j := 5) rfl
  have a6 := B1.cell (j := 6) rfl
  have a7 := B1.cell (j := 7) rfl
  have a8 := B1.cell (j := 8) rfl
  have a9 := B1.cell (j := 9) rfl
  have a10 := B1.cell (j := 10) rfl
  have f0 := B1.free 0
  have f1 := B1.free 1
  have f2 := B1.free 2
  have f3 := B1.free 3
  have f4 := B1.free 4
  have f5 := B1.free 5
  have f6 := B1.free 6
  have f7 := B1.free 7
  have f8 := B1.free 8
  have f9 := B1.free 9
  have f10 := B1.free 10
  obtain ⟨B2, k2⟩ := B1.fill11 (.int .i64 0) (.int .i64 0) (.int .i64 0) (.int .i64 0) (.int .i64 0) (.int .i64 0) (.slice none 0 0) (.slice none 0 0) (.int .i64 0) (.slice none 0 0) (.slice none 0 0)
  obtain ⟨w2, hw2⟩ : ∃ wF, wF = (((((((((((w1.setCell ⟨w.heap.size, 0, none⟩ (.int .i64 0)).setCell ⟨w.heap.size, 1, none⟩ (.int .i64 0)).setCell ⟨w.heap.size, 2, none⟩ (.int .i64 0)).setCell ⟨w.heap.size, 3, none⟩ (.int .i64 0)).setCell ⟨w.heap.size, 4, none⟩ (.int .i64 0)).setCell ⟨w.heap.size, 5, none⟩ (.int .i64 0)).setCell ⟨w.heap.size, 6, none⟩ (.slice none 0 0)).setCell ⟨w.heap.size, 7, none⟩ (.slice none 0 0)).setCell ⟨w.heap.size, 8, none⟩ (.int .i64 0)).setCell ⟨w.heap.size, 9, none⟩ (.slice none 0 0)).setCell ⟨w.heap.size, 10, none⟩ (.slice none 0 0)) := ⟨_, rfl⟩
  rw [← hw2] at B2 k2
  have HK := @hideH _ (show Kept [] w w2 from k1.trans k2 (fun x hx => .inr (by simp at hx; omega)))
  clear hB hB1 B1 k1 k2
  have q0 := B2.cell (j := 0) rfl
  have q1 := B2.cell (j := 1) rfl
  have q2 := B2.cell (j := 2) rfl
  have q3 := B2.cell (j := 3) rfl
  have q4 := B2.cell (j := 4) rfl
  have q5 := B2.cell (j := 5) rfl
  have q6 := B2.cell (j := 6) rfl
  have q7 := B2.cell (j := 7) rfl
  have q8 := B2.cell (j := 8) rfl
  have q9 := B2.cell (j := 9) rfl
  have q10 := B2.cell (j := 10) rfl
  clear B2
  by_cases c0 : l < 0
  · clear h
    go_enter Try.func22, Try.ntmps22
    go_upto_region 1 with fail
    rw [← hw1]
    clear hw1
    go_wp2
    rw [← hw2]
    clear hw2 a0 a1 a2 a3 a4 a5 a6 a7 a8 a9 a10 f0 f1 f2 f3 f4 f5 f6 f7 f8 f9 f10
    refine bodyPost_ret (by simp [results, Try.results22, go_sem, q0, q1, q2, q3, q4, q5, q6, q7, q8, q9, q10]; try rfl) rfl ?_
    exact ⟨rfl, HK.out⟩
  · have ck : k = 4096 := h.resolve_left c0
    subst ck
    clear h
    go_enter Try.func22, Try.ntmps22
    go_upto_region 1 with fail
    rw [← hw1]
    clear hw1
    go_wp2
    rw [← hw2]
    clear hw2 a0 a1 a2 a3 a4 a5 a6 a7 a8 a9 a10 f0 f1 f2 f3 f4 f5 f6 f7 f8 f9 f10
    refine bodyPost_ret (by simp [results, Try.results22, go_sem, q0, q1, q2, q3, q4, q5, q6, q7, q8, q9, q10]; try rfl) rfl ?_
    exact ⟨rfl, HK.out⟩
set_option maxRecDepth 20000 in
set_option maxHeartbeats 6400000 in
theorem qRec (A : Asker gf lb R c St) {F : List Nat} {qs : List Int} (g k : Nat) (l B : Int) (w : World) (hS : St w F qs) (hk : qs.length = k) (hk2 : k < 4096) (hB : Blk w g 60 [.func (.func gf) #[] lb, .int .i64 k, .int .i64 l, .int .i64 B]) (hcg : c ≤ g) (hg : g ∉ F) (h1 : 1 ≤ l) (h2 : I64 l) : Calls Try.prog 22 #[.pointer (some ⟨g, 0, none⟩)] w fun e w' => RecOut gf lb R St F qs g k l B w w' e := by
  obtain ⟨w1, hw1⟩ : ∃ wx, wx = w.alloc (.cells #[.int .i64 0, .int .i64 0, .int .i64 0, .int .i64 0, .int .i64 0, .int .i64 0, .slice none 0 0, .slice none 0 0, .int .i64 0, .slice none 0 0, .slice none 0 0] 42) := ⟨_, rfl⟩
  have k1 : Kept [] w w1 := by rw [hw1]; exact (Kept.refl [] w).alloc _
  have B1 : Blk w1 w.heap.size 42 [.int .i64 0, .int .i64 0, .int .i64 0, .int .i64 0, .int .i64 0, .int .i64 0, .slice none 0 0, .slice none 0 0, .int .i64 0, .slice none 0 0, .slice none 0 0] := by rw [hw1]; exact Blk.new w _ _
  have hc : c ≤ w.heap.size := by have := hB.lt; omega
  have kd : Kept [] w w1.drew := k1.drew
  have z1 : w1.heap.size = w.heap.size + 1 := by rw [hw1, World.size_alloc]
  have hA := fun (W : World) (kW : Kept [] w W) => qAsk A l W (A.kept hS kW (by simp)) (Nat.le_trans hc kW.size) (by omega) h1 h2
  have hlS := A.lt hS
  have hBd := hB.kept kd (by simp)
  have B1d := B1.kept ((Kept.refl [] w1).drew) (by simp)
  have hB1 := hB.kept k1 (by simp)
  have y1 := hB1.cell (j := 1) rfl
  have y2 := hB1.cell (j := 2) rfl
  have hlt := hB1.lt
  have hlt0 := hB.lt
  have e0 := hB.cell (j := 0) rfl
  have e2 := hB.cell (j := 2) rfl
  have d0 := hBd.cell (j := 0) rfl
  have d2 := hBd.cell (j := 2) rfl
  have l0 : ¬ l < 0 := by omega
  have k0 : ((k : Int) == 4096) = false := by simp; omega
  have HK := @hideH _ (And.intro hk (And.intro hk2 (And.intro hcg (And.intro hg (And.intro kd (And.intro hBd (And.intro B1d (And.intro hlS (And.intro hc (And.intro h1 (And.intro z1 (And.intro hlt0 k1))))))))))))
  have HB0 := @hideH _ hB
  clear hB hB1 B1 k1 hBd B1d hlS hc kd hk hk2 hcg hg h1 h2 hS z1
  go_enter Try.func22, Try.ntmps22
  go_upto_region 1 with fail
  rw [← hw1]
  clear hw1
  go_upto_region 3 with fail
  have kd2 : Kept [] w (w1.alloc (.cells #[.int .i64 0, .int .i64 0, .int .i64 0, .int .i64 0, .int .i64 0, .int .i64 0, .slice none 0 0, .slice none 0 0, .int .i64 0, .slice none 0 0, .slice none 0 0] 42)).drew := (HK.out.2.2.2.2.2.2.2.2.2.2.2.2.alloc _).drew
  have g0 := kd2.cell e0 (by simp)
  have g2 := kd2.cell e2 (by simp)
  have k0x : Kept [] w w1.drew := HK.out.2.2.2.2.1
  have HG := @hideH _ HK.out.2.2.2.1
  go_cut [4, 5] (fun s4 s5 wx => ∃ (gr : Nat) (q : Int), s4 = .pointer (some ⟨gr, 0, none⟩) ∧ s5 = .int .i64 q ∧ ∃ (r : Lv) (F' : List Nat), Hid (R l = (q, r.rc) ∧ r.fits ∧ I64 q ∧ St wx F' (qs ++ [l]) ∧ Kept F w wx ∧ (∀ x ∈ F', x ∈ F ∨ w.heap.size ≤ x) ∧ Blk wx gr 42 [.int .i64 r.kind, .int .i64 r.birth, .int .i64 r.prev, .int .i64 r.id, .int .i64 r.page, .int .i64 r.frm, .slice r.b.p r.b.n r.b.c, .slice r.a.p r.a.n r.a.c, .int .i64 r.next, .slice r.r.p r.r.n r.r.c, .slice r.d.p r.d.n r.d.c] ∧ Blk wx g 60 [.func (.func gf) #[] lb, .int .i64 k, .int .i64 l, .int .i64 B] ∧ Blk wx w.heap.size 42 [.int .i64 0, .int .i64 0, .int .i64 0, .int .i64 0, .int .i64 0, .int .i64 0, .slice none 0 0, .slice none 0 0, .int .i64 0, .slice none 0 0, .slice none 0 0] ∧ gr ∉ F' ∧ w.heap.size ∉ F' ∧ w.heap.size < gr))
  case first =>
    refine wp_region_late (fun w' => w'.cell? ⟨g, 0, none⟩ = some (.func (.func gf) #[] lb) ∧ w'.cell? ⟨g, 2, none⟩ = some (.int .i64 l)) 8 (by kernel_rfl) ?_
    have hS : w1.drew.cell? ⟨g, 0, none⟩ = some (.func (.func gf) #[] lb) ∧ w1.drew.cell? ⟨g, 2, none⟩ = some (.int .i64 l) := ⟨d0, d2⟩
    clear d0 d2 y1 y2 g0 g2
    refine wpAnyZ_takeC 0 [8, 3, 2, 1] (v := ?v0) rfl (by kernel_rfl) (by kernel_rfl) (by kernel_rfl) (by kernel_rfl) (by kernel_rfl) (by kernel_rfl) (fun _ _ _ h => h) (by rfl) ?hy0 hS ?rest0
    case hy0 => (intro wx hSx; (try dsimp only at hSx); go_simp; (try with_reducible rfl))
    (try simp only [Act.put, List.setIfInBounds_toArray, List.set_cons_zero, List.set_cons_succ])
    refine wpAnyZ_takeC 1 [8, 3, 2] (v := ?v1) rfl (by kernel_rfl) (by kernel_rfl) (by kernel_rfl) (by kernel_rfl) (by kernel_rfl) (by kernel_rfl) (fun _ _ _ h => h) (by rfl) ?hy1 hS ?rest1
    case hy1 => (intro wx hSx; (try dsimp only at hSx); go_simp; (try with_reducible rfl))
    (try simp only [Act.put, List.setIfInBounds_toArray, List.set_cons_zero, List.set_cons_succ])
    refine wpAnyZ_takeC 2 [8, 3] (v := ?v2) rfl (by kernel_rfl) (by kernel_rfl) (by kernel_rfl) (by kernel_rfl) (by kernel_rfl) (by kernel_rfl) (fun _ _ _ h => h) (by rfl) ?hy2 hS ?rest2
    case hy2 => (intro wx hSx; (try dsimp only at hSx); go_simp; (try with_reducible rfl))
    (try simp only [Act.put, List.setIfInBounds_toArray, List.set_cons_zero, List.set_cons_succ])
    refine wpAnyZ_takeC 3 [8] (v := ?v3) rfl (by kernel_rfl) (by kernel_rfl) (by kernel_rfl) (by kernel_rfl) (by kernel_rfl) (by kernel_rfl) (fun _ _ _ h => h) (by rfl) ?hy3 hS ?rest3
    case hy3 => (intro wx hSx; (try dsimp only at hSx); go_simp; (try with_reducible rfl))
    (try simp only [Act.put, List.setIfInBounds_toArray, List.set_cons_zero, List.set_cons_succ])
    refine wpAnyZ_takeC 4 [8, 7, 6, 5] (v := ?v4) rfl (by kernel_rfl) (by kernel_rfl) (by kernel_rfl) (by kernel_rfl) (by kernel_rfl) (by kernel_rfl) (fun _ _ _ h => h) (by rfl) ?hy4 hS ?rest4
    case hy4 => (intro wx hSx; (try dsimp only at hSx); go_simp; (try with_reducible rfl))
    (try simp only [Act.put, List.setIfInBounds_toArray, List.set_cons_zero, List.set_cons_succ])
    refine wpAnyZ_takeC 5 [8, 7, 6] (v := ?v5) rfl (by kernel_rfl) (by kernel_rfl) (by kernel_rfl) (by kernel_rfl) (by kernel_rfl) (by kernel_rfl) (fun _ _ _ h => h) (by rfl) ?hy5 hS ?rest5
    case hy5 => (intro wx hSx; (try dsimp only at hSx); go_simp; (try with_reducible rfl))
    (try simp only [Act.put, List.setIfInBounds_toArray, List.set_cons_zero, List.set_cons_succ])
    refine wpAnyZ_takeC 6 [8, 7] (v := ?v6) rfl (by kernel_rfl) (by kernel_rfl) (by kernel_rfl) (by kernel_rfl) (by kernel_rfl) (by kernel_rfl) (fun _ _ _ h => h) (by rfl) ?hy6 hS ?rest6
    case hy6 => (intro wx hSx; (try dsimp only at hSx); go_simp; (try with_reducible rfl))
    (try simp only [Act.put, List.setIfInBounds_toArray, List.set_cons_zero, List.set_cons_succ])
    refine wpAnyZ_takeC 7 [8] (v := ?v7) rfl (by kernel_rfl) (by kernel_rfl) (by kernel_rfl) (by kernel_rfl) (by kernel_rfl) (by kernel_rfl) (fun _ _ _ h => h) (by rfl) ?hy7 hS ?rest7
    case hy7 => (intro wx hSx; (try dsimp only at hSx); go_simp; (try with_reducible rfl))
    (try simp only [Act.put, List.setIfInBounds_toArray, List.set_cons_zero, List.set_cons_succ])
    refine wpAnyZ_two 8 12 rfl rfl (by kernel_rfl) (fun K hK => ?wayA) (fun K hK => ?wayB)
    case wayA =>
      go_simp
      refine (hA _ k0x).mono ?_
      rintro e w2 ⟨q, r, F', rfl, hR, hfit, hq64, S2, k2, hF⟩
      refine hK _ _ (fun h => absurd rfl h) ?_
      clear hK K
      have kx : Kept F w w2 := (k0x.mono (T := F) (by simp)).trans k2 (fun x hx => .inl hx)
      have hSA : w2.cell? ⟨g, 0, none⟩ = some (.func (.func gf) #[] lb) ∧ w2.cell? ⟨g, 2, none⟩ = some (.int .i64 l) := ⟨kx.cell e0 HG.out, kx.cell e2 HG.out⟩
      (try simp only [Act.put, List.setIfInBounds_toArray, List.set_cons_zero, List.set_cons_succ])
      refine wpAnyZ_takeD 9 (v := ?va9) rfl (by kernel_rfl) (by kernel_rfl) (by kernel_rfl) (by kernel_rfl) (fun _ _ _ h => h) (by rfl) ?hya9 hSA ?resta9
      case hya9 => (intro wx hSx; (try dsimp only at hSx); go_simp; (try with_reducible rfl))
      (try simp only [Act.put, List.setIfInBounds_toArray, List.set_cons_zero, List.set_cons_succ])
      refine wpAnyZ_takeD 10 (v := ?va10) rfl (by kernel_rfl) (by kernel_rfl) (by kernel_rfl) (by kernel_rfl) (fun _ _ _ h => h) (by rfl) ?hya10 hSA ?resta10
      case hya10 => (intro wx hSx; (try dsimp only at hSx); go_simp; (try with_reducible rfl))
      (try simp only [Act.put, List.setIfInBounds_toArray, List.set_cons_zero, List.set_cons_succ])
      refine wpAnyZ_takeD 11 (v := ?va11) rfl (by kernel_rfl) (by kernel_rfl) (by kernel_rfl) (by kernel_rfl) (fun _ _ _ h => h) (by rfl) ?hya11 hSA ?resta11
      case hya11 => (intro wx hSx; (try dsimp only at hSx); go_simp; (try with_reducible rfl))
      (try simp only [Act.put, List.setIfInBounds_toArray, List.set_cons_zero, List.set_cons_succ])
      obtain ⟨w3, hw3⟩ : ∃ wx, wx = w2.alloc (.cells #[.int .i64 0, .int .i64 0, .int .i64 0, .int .i64 0, .int .i64 0, .int .i64 0, .slice none 0 0, .slice none 0 0, .int .i64 0, .slice none 0 0, .slice none 0 0] 42) := ⟨_, rfl⟩
      have k3 : Kept [] w2 w3 := by rw [hw3]; exact (Kept.refl [] w2).alloc _
      have B3 : Blk w3 w2.heap.size 42 [.int .i64 0, .int .i64 0, .int .i64 0, .int .i64 0, .int .i64 0, .int .i64 0, .slice none 0 0, .slice none 0 0, .int .i64 0, .slice none 0 0, .slice none 0 0] := by rw [hw3]; exact Blk.new w2 _ _
      have kx3 := kx.then k3
      have S3 := A.kept S2 k3 (by simp)
      have nF : w2.heap.size ∉ F' := fun hm => by have := A.lt S2 _ hm; omega
      have hF2 : ∀ x ∈ F', x ∈ F ∨ w.heap.size + 1 ≤ x := fun x hx => by rcases hF x hx with q | q; exact .inl q; exact .inr (by have e1 := HK.out.2.2.2.2.2.2.2.2.2.2.1; have e2 : w1.heap.size ≤ x := q; omega)
      have HN0 := @hideH _ (show w.heap.size < w2.heap.size from by have e1 := HK.out.2.2.2.2.2.2.2.2.2.2.1; have e2 : w1.heap.size ≤ w2.heap.size := k2.size; omega)
      have HBZ := @hideH _ (show Blk w3 w.heap.size 42 [.int .i64 0, .int .i64 0, .int .i64 0, .int .i64 0, .int .i64 0, .int .i64 0, .slice none 0 0, .slice none 0 0, .int .i64 0, .slice none 0 0, .slice none 0 0] from (HK.out.2.2.2.2.2.2.1.kept k2 (fun hm => by have := HK.out.2.2.2.2.2.2.2.1 _ hm; omega)).kept k3 (by simp))
      refine wpAnyZ_one 12 rfl (by kernel_rfl) (fun K hK => ?_)
      go_simp
      rw [← hw3]
      refine hK _ _ (fun _ => ⟨kx3.cell e0 HG.out, kx3.cell e2 HG.out⟩) ?_
      clear hK K hw3 hSA kx k3
      (try simp only [Act.put, List.setIfInBounds_toArray, List.set_cons_zero, List.set_cons_succ])
      have HW3 := @hideH _ (show w.heap.size ∉ [w2.heap.size] from by have := HN0.out; simp; omega)
      have x0 := B3.cell (j := 0) rfl
      have x1 := B3.cell (j := 1) rfl
      have x2 := B3.cell (j := 2) rfl
      have x3 := B3.cell (j := 3) rfl
      have x4 := B3.cell (j := 4) rfl
      have x5 := B3.cell (j := 5) rfl
      have x6 := B3.cell (j := 6) rfl
      have x7 := B3.cell (j := 7) rfl
      have x8 := B3.cell (j := 8) rfl
      have x9 := B3.cell (j := 9) rfl
      have x10 := B3.cell (j := 10) rfl
      have f0 := B3.free 0
      have f1 := B3.free 1
      have f2 := B3.free 2
      have f3 := B3.free 3
      have f4 := B3.free 4
      have f5 := B3.free 5
      have f6 := B3.free 6
      have f7 := B3.free 7
      have f8 := B3.free 8
      have f9 := B3.free 9
      have f10 := B3.free 10
      obtain ⟨B4, k4⟩ := B3.fill11 (.int .i64 r.kind) (.int .i64 r.birth) (.int .i64 r.prev) (.int .i64 r.id) (.int .i64 r.page) (.int .i64 r.frm) (.slice r.b.p r.b.n r.b.c) (.slice r.a.p r.a.n r.a.c) (.int .i64 r.next) (.slice r.r.p r.r.n r.r.c) (.slice r.d.p r.d.n r.d.c)
      obtain ⟨w4, hw4⟩ : ∃ wF, wF = (((((((((((w3.setCell ⟨w2.heap.size, 0, none⟩ (.int .i64 r.kind)).setCell ⟨w2.heap.size, 1, none⟩ (.int .i64 r.birth)).setCell ⟨w2.heap.size, 2, none⟩ (.int .i64 r.prev)).setCell ⟨w2.heap.size, 3, none⟩ (.int .i64 r.id)).setCell ⟨w2.heap.size, 4, none⟩ (.int .i64 r.page)).setCell ⟨w2.heap.size, 5, none⟩ (.int .i64 r.frm)).setCell ⟨w2.heap.size, 6, none⟩ (.slice r.b.p r.b.n r.b.c)).setCell ⟨w2.heap.size, 7, none⟩ (.slice r.a.p r.a.n r.a.c)).setCell ⟨w2.heap.size, 8, none⟩ (.int .i64 r.next)).setCell ⟨w2.heap.size, 9, none⟩ (.slice r.r.p r.r.n r.r.c)).setCell ⟨w2.heap.size, 10, none⟩ (.slice r.d.p r.d.n r.d.c)) := ⟨_, rfl⟩
      rw [← hw4] at B4 k4
      have kx4 : Kept F w w4 := kx3.trans k4 (fun x hx => .inr (by simp at hx; have := HN0.out; omega))
      have hS4 : w4.cell? ⟨g, 0, none⟩ = some (.func (.func gf) #[] lb) ∧ w4.cell? ⟨g, 2, none⟩ = some (.int .i64 l) := ⟨kx4.cell e0 HG.out, kx4.cell e2 HG.out⟩
      have S4 := A.kept S3 k4 (fun x hx => by simp at hx; subst hx; exact ⟨by have e1 := HK.out.2.2.2.2.2.2.2.2.1; have := HN0.out; omega, nF⟩)
      have HK4 := @hideH _ k4
      have HFIN := @hideH _ (And.intro S4 (And.intro kx4 (And.intro hF2 (And.intro B4 (And.intro hR (And.intro hfit (And.intro hq64 nF)))))))
      clear S4 B4 S3 S2 hR hfit hq64 hF hF2 k4 k2
      refine wpAnyZ_one 13 rfl (by kernel_rfl) (fun K hK => ?_)
      go_simp
      rw [← hw4]
      refine hK _ _ (fun _ => hS4) ?_
      clear hK K hw4 x0 x1 x2 x3 x4 x5 x6 x7 x8 x9 x10 f0 f1 f2 f3 f4 f5 f6 f7 f8 f9 f10
      (try simp only [Act.put, List.setIfInBounds_toArray, List.set_cons_zero, List.set_cons_succ])
      refine wpAnyZ_one 14 rfl (by kernel_rfl) (fun K hK => ?_)
      go_simp
      refine hK _ _ (fun _ => hS4) ?_
      clear hK K
      (try simp only [Act.put, List.setIfInBounds_toArray, List.set_cons_zero, List.set_cons_succ])
      refine wpAnyZ_done (by kernel_rfl) ?_ _
      go_wp2
      go_meet
      case rel =>
        refine ⟨w2.heap.size, q, rfl, rfl, r, F', HFIN.out.2.2.2.2.1, HFIN.out.2.2.2.2.2.1, HFIN.out.2.2.2.2.2.2.1, HFIN.out.1, HFIN.out.2.1, fun x hx => ?_, HFIN.out.2.2.2.1, ?_, ?_, HFIN.out.2.2.2.2.2.2.2, ?_, HN0.out⟩
        · rcases HFIN.out.2.2.1 x hx with q | q
          · exact .inl q
          · exact .inr (by omega)
        · exact HB0.out.kept HFIN.out.2.1 HG.out
        · exact HBZ.out.kept HK4.out HW3.out
        · intro hm
          rcases HFIN.out.2.2.1 _ hm with q | q
          · have := HK.out.2.2.2.2.2.2.2.1 _ q; omega
          · omega
    case wayB =>
      go_simp
      obtain ⟨w3, hw3⟩ : ∃ wx, wx = (w1.alloc (.cells #[.int .i64 0, .int .i64 0, .int .i64 0, .int .i64 0, .int .i64 0, .int .i64 0, .slice none 0 0, .slice none 0 0, .int .i64 0, .slice none 0 0, .slice none 0 0] 42)).drew := ⟨_, rfl⟩
      have k3 : Kept [] w1.drew w3 := by rw [hw3]; have h := ((Kept.refl [] w1).alloc (.cells #[.int .i64 0, .int .i64 0, .int .i64 0, .int .i64 0, .int .i64 0, .int .i64 0, .slice none 0 0, .slice none 0 0, .int .i64 0, .slice none 0 0, .slice none 0 0] 42)).drew; exact ⟨h.os, h.tape, h.output, h.size, h.block⟩
      have B30 : Blk w3 w1.heap.size 42 [.int .i64 0, .int .i64 0, .int .i64 0, .int .i64 0, .int .i64 0, .int .i64 0, .slice none 0 0, .slice none 0 0, .int .i64 0, .slice none 0 0, .slice none 0 0] := by rw [hw3]; exact Blk.new w1 _ _
      have z3 : w3.heap.size = w1.heap.size + 1 := by rw [hw3]; exact World.size_alloc w1 _
      have kw3 := k0x.then k3
      have hA3 := hA w3 kw3
      have hS3 : w3.cell? ⟨g, 0, none⟩ = some (.func (.func gf) #[] lb) ∧ w3.cell? ⟨g, 2, none⟩ = some (.int .i64 l) := ⟨kw3.cell e0 (by simp), kw3.cell e2 (by simp)⟩
      rw [← hw3]
      refine hK _ _ (fun _ => hS3) ?_
      clear hK K hw3
      (try simp only [Act.put, List.setIfInBounds_toArray, List.set_cons_zero, List.set_cons_succ])
      refine wpAnyZ_one 8 rfl (by kernel_rfl) (fun K hK => ?_)
      go_simp
      refine hA3.mono ?_
      clear hA3 hA
      rintro e w2 ⟨q, r, F', rfl, hR, hfit, hq64, S2, k2, hF⟩
      refine hK _ _ (fun h => absurd rfl h) ?_
      clear hK K
      have kx3 : Kept F w w2 := (kw3.mono (T := F) (by simp)).trans k2 (fun x hx => .inl hx)
      have hSA : w2.cell? ⟨g, 0, none⟩ = some (.func (.func gf) #[] lb) ∧ w2.cell? ⟨g, 2, none⟩ = some (.int .i64 l) := ⟨kx3.cell e0 HG.out, kx3.cell e2 HG.out⟩
      (try simp only [Act.put, List.setIfInBounds_toArray, List.set_cons_zero, List.set_cons_succ])
      refine wpAnyZ_takeD 9 (v := ?vb9) rfl (by kernel_rfl) (by kernel_rfl) (by kernel_rfl) (by kernel_rfl) (fun _ _ _ h => h) (by rfl) ?hyb9 hSA ?restb9
      case hyb9 => (intro wx hSx; (try dsimp only at hSx); go_simp; (try with_reducible rfl))
      (try simp only [Act.put, List.setIfInBounds_toArray, List.set_cons_zero, List.set_cons_succ])
      refine wpAnyZ_takeD 10 (v := ?vb10) rfl (by kernel_rfl) (by kernel_rfl) (by kernel_rfl) (by kernel_rfl) (fun _ _ _ h => h) (by rfl) ?hyb10 hSA ?restb10
      case hyb10 => (intro wx hSx; (try dsimp only at hSx); go_simp; (try with_reducible rfl))
      (try simp only [Act.put, List.setIfInBounds_toArray, List.set_cons_zero, List.set_cons_succ])
      refine wpAnyZ_takeD 11 (v := ?vb11) rfl (by kernel_rfl) (by kernel_rfl) (by kernel_rfl) (by kernel_rfl) (fun _ _ _ h => h) (by rfl) ?hyb11 hSA ?restb11
      case hyb11 => (intro wx hSx; (try dsimp only at hSx); go_simp; (try with_reducible rfl))
      (try simp only [Act.put, List.setIfInBounds_toArray, List.set_cons_zero, List.set_cons_succ])
      have hz1 := HK.out.2.2.2.2.2.2.2.2.2.2.1
      have n1 : w1.heap.size ∉ F := fun hm => by have := HK.out.2.2.2.2.2.2.2.1 _ hm; omega
      have B3 := B30.kept k2 n1
      have S3 := S2
      have nF : w1.heap.size ∉ F' := fun hm => by rcases hF _ hm with q | q; exact n1 q; omega
      have hF2 : ∀ x ∈ F', x ∈ F ∨ w.heap.size + 1 ≤ x := fun x hx => by rcases hF x hx with q | q; exact .inl q; exact .inr (by omega)
      have HN0 := @hideH _ (show w.heap.size < w1.heap.size from by omega)
      have HBZ := @hideH _ (show Blk w2 w.heap.size 42 [.int .i64 0, .int .i64 0, .int .i64 0, .int .i64 0, .int .i64 0, .int .i64 0, .slice none 0 0, .slice none 0 0, .int .i64 0, .slice none 0 0, .slice none 0 0] from (HK.out.2.2.2.2.2.2.1.kept k3 (by simp)).kept k2 (fun hm => by have := HK.out.2.2.2.2.2.2.2.1 _ hm; omega))
      have HW3 := @hideH _ (show w.heap.size ∉ [w1.heap.size] from by have := HN0.out; simp; omega)
      clear hSA k3 B30 z3 kw3 hS3 hz1 n1
      have x0 := B3.cell (j := 0) rfl
      have x1 := B3.cell (j := 1) rfl
      have x2 := B3.cell (j := 2) rfl
      have x3 := B3.cell (j := 3) rfl
      have x4 := B3.cell (j := 4) rfl
      have x5 := B3.cell (j := 5) rfl
      have x6 := B3.cell (j := 6) rfl
      have x7 := B3.cell (j := 7) rfl
      have x8 := B3.cell (j := 8) rfl
      have x9 := B3.cell (j := 9) rfl
      have x10 := B3.cell (j := 10) rfl
      have f0 := B3.free 0
      have f1 := B3.free 1
      have f2 := B3.free 2
      have f3 := B3.free 3
      have f4 := B3.free 4
      have f5 := B3.free 5
      have f6 := B3.free 6
      have f7 := B3.free 7
      have f8 := B3.free 8
      have f9 := B3.free 9
      have f10 := B3.free 10
      obtain ⟨B4, k4⟩ := B3.fill11 (.int .i64 r.kind) (.int .i64 r.birth) (.int .i64 r.prev) (.int .i64 r.id) (.int .i64 r.page) (.int .i64 r.frm) (.slice r.b.p r.b.n r.b.c) (.slice r.a.p r.a.n r.a.c) (.int .i64 r.next) (.slice r.r.p r.r.n r.r.c) (.slice r.d.p r.d.n r.d.c)
      obtain ⟨w4, hw4⟩ : ∃ wF, wF = (((((((((((w2.setCell ⟨w1.heap.size, 0, none⟩ (.int .i64 r.kind)).setCell ⟨w1.heap.size, 1, none⟩ (.int .i64 r.birth)).setCell ⟨w1.heap.size, 2, none⟩ (.int .i64 r.prev)).setCell ⟨w1.heap.size, 3, none⟩ (.int .i64 r.id)).setCell ⟨w1.heap.size, 4, none⟩ (.int .i64 r.page)).setCell ⟨w1.heap.size, 5, none⟩ (.int .i64 r.frm)).setCell ⟨w1.heap.size, 6, none⟩ (.slice r.b.p r.b.n r.b.c)).setCell ⟨w1.heap.size, 7, none⟩ (.slice r.a.p r.a.n r.a.c)).setCell ⟨w1.heap.size, 8, none⟩ (.int .i64 r.next)).setCell ⟨w1.heap.size, 9, none⟩ (.slice r.r.p r.r.n r.r.c)).setCell ⟨w1.heap.size, 10, none⟩ (.slice r.d.p r.d.n r.d.c)) := ⟨_, rfl⟩
      rw [← hw4] at B4 k4
      have kx4 : Kept F w w4 := kx3.trans k4 (fun x hx => .inr (by simp at hx; have := HN0.out; omega))
      have hS4 : w4.cell? ⟨g, 0, none⟩ = some (.func (.func gf) #[] lb) ∧ w4.cell? ⟨g, 2, none⟩ = some (.int .i64 l) := ⟨kx4.cell e0 HG.out, kx4.cell e2 HG.out⟩
      have S4 := A.kept S3 k4 (fun x hx => by simp at hx; subst hx; exact ⟨by have e1 := HK.out.2.2.2.2.2.2.2.2.1; have := HN0.out; omega, nF⟩)
      have HK4 := @hideH _ k4
      have HFIN := @hideH _ (And.intro S4 (And.intro kx4 (And.intro hF2 (And.intro B4 (And.intro hR (And.intro hfit (And.intro hq64 nF)))))))
      clear S4 B4 S3 S2 hR hfit hq64 hF hF2 k4 k2
      refine wpAnyZ_one 13 rfl (by kernel_rfl) (fun K hK => ?_)
      go_simp
      rw [← hw4]
      refine hK _ _ (fun _ => hS4) ?_
      clear hK K hw4 x0 x1 x2 x3 x4 x5 x6 x7 x8 x9 x10 f0 f1 f2 f3 f4 f5 f6 f7 f8 f9 f10
      (try simp only [Act.put, List.setIfInBounds_toArray, List.set_cons_zero, List.set_cons_succ])
      refine wpAnyZ_one 14 rfl (by kernel_rfl) (fun K hK => ?_)
      go_simp
      refine hK _ _ (fun _ => hS4) ?_
      clear hK K
      (try simp only [Act.put, List.setIfInBounds_toArray, List.set_cons_zero, List.set_cons_succ])
      refine wpAnyZ_done (by kernel_rfl) ?_ _
      go_wp2
      go_meet
      case rel =>
        refine ⟨w1.heap.size, q, rfl, rfl, r, F', HFIN.out.2.2.2.2.1, HFIN.out.2.2.2.2.2.1, HFIN.out.2.2.2.2.2.2.1, HFIN.out.1, HFIN.out.2.1, fun x hx => ?_, HFIN.out.2.2.2.1, ?_, ?_, HFIN.out.2.2.2.2.2.2.2, ?_, HN0.out⟩
        · rcases HFIN.out.2.2.1 x hx with q | q
          · exact .inl q
          · exact .inr (by omega)
        · exact HB0.out.kept HFIN.out.2.1 HG.out
        · exact HBZ.out.kept HK4.out HW3.out
        · intro hm
          rcases HFIN.out.2.2.1 _ hm with q | q
          · have := HK.out.2.2.2.2.2.2.2.1 _ q; omega
          · omega
  case rest =>
    clear e0 e2 d0 d2 g0 g2 y1 y2 kd2 k0x hA l0 k0
    obtain ⟨gr, q, rfl, rfl, r, F', hc⟩ := hcut
    obtain ⟨wd, rfl⟩ : ∃ wd, wd = wc := ⟨_, rfl⟩
    have xs := hc.out.2.2.2.2.2.2.2.1
    have zs := hc.out.2.2.2.2.2.2.2.2.1
    have rs := hc.out.2.2.2.2.2.2.1
    have hgl := xs.lt
    have hzl := zs.lt
    have hrl := rs.lt
    have HSZ := @hideH _ (And.intro HK.out.2.2.2.2.2.2.2.2.2.2.2.1 hc.out.2.2.2.2.2.2.2.2.2.2.2)
    have hng : g ≠ w.heap.size := by have := HSZ.out; omega
    have hgr : g ≠ gr := by have := HSZ.out; omega
    have hzr : w.heap.size ≠ gr := by have := HSZ.out; omega
    have HNE := @hideH _ (And.intro hng (And.intro hgr hzr))
    have gF' : g ∉ F' := fun hm => by rcases hc.out.2.2.2.2.2.1 _ hm with q | q; exact HG.out q; have := HSZ.out; omega
    have HGF := @hideH _ gF'
    clear gF' hng hgr hzr
    by_cases hq : q = 0
    case neg =>
      have a0 := zs.cell (j := 0) rfl
      have a1 := zs.cell (j := 1) rfl
      have a2 := zs.cell (j := 2) rfl
      have a3 := zs.cell (j := 3) rfl
      have a4 := zs.cell (j := 4) rfl
      have a5 := zs.cell (j := 5) rfl
      have a6 := zs.cell (j := 6) rfl
      have a7 := zs.cell (j := 7) rfl
      have a8 := zs.cell (j := 8) rfl
      have a9 := zs.cell (j := 9) rfl
      have a10 := zs.cell (j := 10) rfl
      have f0 := zs.free 0
      have f1 := zs.free 1
      have f2 := zs.free 2
      have f3 := zs.free 3
      have f4 := zs.free 4
      have f5 := zs.free 5
      have f6 := zs.free 6
      have f7 := zs.free 7
      have f8 := zs.free 8
      have f9 := zs.free 9
      have f10 := zs.free 10
      obtain ⟨B5, k5⟩ := zs.fill11 (.int .i64 0) (.int .i64 0) (.int .i64 0) (.int .i64 0) (.int .i64 0) (.int .i64 0) (.slice none 0 0) (.slice none 0 0) (.int .i64 0) (.slice none 0 0) (.slice none 0 0)
      obtain ⟨w5, hw5⟩ : ∃ wF, wF = (((((((((((wd.setCell ⟨w.heap.size, 0, none⟩ (.int .i64 0)).setCell ⟨w.heap.size, 1, none⟩ (.int .i64 0)).setCell ⟨w.heap.size, 2, none⟩ (.int .i64 0)).setCell ⟨w.heap.size, 3, none⟩ (.int .i64 0)).setCell ⟨w.heap.size, 4, none⟩ (.int .i64 0)).setCell ⟨w.heap.size, 5, none⟩ (.int .i64 0)).setCell ⟨w.heap.size, 6, none⟩ (.slice none 0 0)).setCell ⟨w.heap.size, 7, none⟩ (.slice none 0 0)).setCell ⟨w.heap.size, 8, none⟩ (.int .i64 0)).setCell ⟨w.heap.size, 9, none⟩ (.slice none 0 0)).setCell ⟨w.heap.size, 10, none⟩ (.slice none 0 0)) := ⟨_, rfl⟩
      rw [← hw5] at B5 k5
      have hq' : (q != 0) = true := by simpa using hq
      have HE := @hideH _ (show RecOut gf lb R St F qs g k l B w w5 (.returned (.tuple #[.agg #[.int .i64 Lv.zero.kind, .int .i64 Lv.zero.birth, .int .i64 Lv.zero.prev, .int .i64 Lv.zero.id, .int .i64 Lv.zero.page, .int .i64 Lv.zero.frm, .slice Lv.zero.b.p Lv.zero.b.n Lv.zero.b.c, .slice Lv.zero.a.p Lv.zero.a.n Lv.zero.a.c, .int .i64 Lv.zero.next, .slice Lv.zero.r.p Lv.zero.r.n Lv.zero.r.c, .slice Lv.zero.d.p Lv.zero.d.n Lv.zero.d.c], .int .i64 q])) from ⟨q, Lv.zero, F', rfl, A.kept hc.out.2.2.2.1 k5 (fun x hx => by simp at hx; subst hx; exact ⟨HK.out.2.2.2.2.2.2.2.2.1, hc.out.2.2.2.2.2.2.2.2.2.2.1⟩), (hc.out.2.2.2.2.1.mono (T := g :: F) (fun x hx => List.mem_cons_of_mem _ hx)).trans k5 (fun x hx => .inr (by simp at hx; omega)), hc.out.2.2.2.2.2.1, .inl ⟨hq, .inl ⟨_, hc.out.1⟩⟩⟩)
      clear hq k5 zs xs rs
      have q0 := B5.cell (j := 0) rfl
      have q1 := B5.cell (j := 1) rfl
      have q2 := B5.cell (j := 2) rfl
      have q3 := B5.cell (j := 3) rfl
      have q4 := B5.cell (j := 4) rfl
      have q5 := B5.cell (j := 5) rfl
      have q6 := B5.cell (j := 6) rfl
      have q7 := B5.cell (j := 7) rfl
      have q8 := B5.cell (j := 8) rfl
      have q9 := B5.cell (j := 9) rfl
      have q10 := B5.cell (j := 10) rfl
      clear B5
      go_wp2
      rw [← hw5]
      clear hw5 a0 a1 a2 a3 a4 a5 a6 a7 a8 a9 a10 f0 f1 f2 f3 f4 f5 f6 f7 f8 f9 f10
      refine bodyPost_ret (by simp [results, Try.results22, go_sem, q0, q1, q2, q3, q4, q5, q6, q7, q8, q9, q10]; try rfl) rfl ?_
      exact HE.out
    case pos =>
      subst hq
      have q00 : ((0 : Int) != 0) = false := rfl
      obtain ⟨B', hB'⟩ : ∃ B', B' = bornAt (decide (k = 0)) B r.rc l := ⟨_, rfl⟩
      have HBB := @hideH _ hB'
      clear hB'
      have y1 := xs.cell (j := 1) rfl
      go_upto_if 39 with fail
      go_cut [] (fun wx => Hid (Blk wx g 60 [.func (.func gf) #[] lb, .int .i64 k, .int .i64 l, .int .i64 B'] ∧ Kept [g] wd wx))
      case first =>
        clear y1
        by_cases hk0 : k = 0
        case neg =>
          have hk0' : ((k : Int) == 0) = false := by simp; omega
          have HE := @hideH _ (show B' = B by rw [HBB.out, decide_eq_false hk0]; rfl)
          clear hk0
          go_wp2
          go_meet
          case rel => exact ⟨by rw [HE.out]; exact hc.out.2.2.2.2.2.2.2.1, Kept.refl _ _⟩
        case pos =>
          subst hk0
          have HE := @hideH _ (show B' = birthOf r.rc l by rw [HBB.out]; rfl)
          have xd := xs.kept ((Kept.refl [] wd).drew) (by simp)
          have rd := rs.kept ((Kept.refl [] wd).drew) (by simp)
          have y2 := xd.cell (j := 2) rfl
          have hBi := qBirth r l wd.drew
          have x0 := rd.cell (j := 0) rfl
          have x1 := rd.cell (j := 1) rfl
          have x2 := rd.cell (j := 2) rfl
          have x3 := rd.cell (j := 3) rfl
          have x4 := rd.cell (j := 4) rfl
          have x5 := rd.cell (j := 5) rfl
          have x6 := rd.cell (j := 6) rfl
          have x7 := rd.cell (j := 7) rfl
          have x8 := rd.cell (j := 8) rfl
          have x9 := rd.cell (j := 9) rfl
          have x10 := rd.cell (j := 10) rfl
          clear xs zs rs
          go_upto_region 7 with fail
          refine wp_region_late (fun w' => w'.cell? ⟨g, 2, none⟩ = some (.int .i64 l) ∧ w'.cell? ⟨gr, 0, none⟩ = some (.int .i64 r.kind) ∧ w'.cell? ⟨gr, 1, none⟩ = some (.int .i64 r.birth) ∧ w'.cell? ⟨gr, 2, none⟩ = some (.int .i64 r.prev) ∧ w'.cell? ⟨gr, 3, none⟩ = some (.int .i64 r.id) ∧ w'.cell? ⟨gr, 4, none⟩ = some (.int .i64 r.page) ∧ w'.cell? ⟨gr, 5, none⟩ = some (.int .i64 r.frm) ∧ w'.cell? ⟨gr, 6, none⟩ = some (.slice r.b.p r.b.n r.b.c) ∧ w'.cell? ⟨gr, 7, none⟩ = some (.slice r.a.p r.a.n r.a.c) ∧ w'.cell? ⟨gr, 8, none⟩ = some (.int .i64 r.next) ∧ w'.cell? ⟨gr, 9, none⟩ = some (.slice r.r.p r.r.n r.r.c) ∧ w'.cell? ⟨gr, 10, none⟩ = some (.slice r.d.p r.d.n r.d.c)) 9 (by kernel_rfl) ?_
          have hS : wd.drew.cell? ⟨g, 2, none⟩ = some (.int .i64 l) ∧ wd.drew.cell? ⟨gr, 0, none⟩ = some (.int .i64 r.kind) ∧ wd.drew.cell? ⟨gr, 1, none⟩ = some (.int .i64 r.birth) ∧ wd.drew.cell? ⟨gr, 2, none⟩ = some (.int .i64 r.prev) ∧ wd.drew.cell? ⟨gr, 3, none⟩ = some (.int .i64 r.id) ∧ wd.drew.cell? ⟨gr, 4, none⟩ = some (.int .i64 r.page) ∧ wd.drew.cell? ⟨gr, 5, none⟩ = some (.int .i64 r.frm) ∧ wd.drew.cell? ⟨gr, 6, none⟩ = some (.slice r.b.p r.b.n r.b.c) ∧ wd.drew.cell? ⟨gr, 7, none⟩ = some (.slice r.a.p r.a.n r.a.c) ∧ wd.drew.cell? ⟨gr, 8, none⟩ = some (.int .i64 r.next) ∧ wd.drew.cell? ⟨gr, 9, none⟩ = some (.slice r.r.p r.r.n r.r.c) ∧ wd.drew.cell? ⟨gr, 10, none⟩ = some (.slice r.d.p r.d.n r.d.c) := ⟨y2, x0, x1, x2, x3, x4, x5, x6, x7, x8, x9, x10⟩
          clear y2 x0 x1 x2 x3 x4 x5 x6 x7 x8 x9 x10
          refine wpAnyZ_takeC 0 [9] (v := ?vc0) rfl (by kernel_rfl) (by kernel_rfl) (by kernel_rfl) (by kernel_rfl) (by kernel_rfl) (by kernel_rfl) (fun _ _ _ h => h) (by rfl) ?hyc0 hS ?restc0
          case hyc0 => (intro wx hSx; (try dsimp only at hSx); go_simp; (try with_reducible rfl))
          (try simp only [Act.put, List.setIfInBounds_toArray, List.set_cons_zero, List.set_cons_succ])
          refine wpAnyZ_takeC 1 [9] (v := ?vc1) rfl (by kernel_rfl) (by kernel_rfl) (by kernel_rfl) (by kernel_rfl) (by kernel_rfl) (by kernel_rfl) (fun _ _ _ h => h) (by rfl) ?hyc1 hS ?restc1
          case hyc1 => (intro wx hSx; (try dsimp only at hSx); go_simp; (try with_reducible rfl))
          (try simp only [Act.put, List.setIfInBounds_toArray, List.set_cons_zero, List.set_cons_succ])
          refine wpAnyZ_takeC 2 [9] (v := ?vc2) rfl (by kernel_rfl) (by kernel_rfl) (by kernel_rfl) (by kernel_rfl) (by kernel_rfl) (by kernel_rfl) (fun _ _ _ h => h) (by rfl) ?hyc2 hS ?restc2
          case hyc2 => (intro wx hSx; (try dsimp only at hSx); go_simp; (try with_reducible rfl))
          (try simp only [Act.put, List.setIfInBounds_toArray, List.set_cons_zero, List.set_cons_succ])
          refine wpAnyZ_takeC 3 [9] (v := ?vc3) rfl (by kernel_rfl) (by kernel_rfl) (by kernel_rfl) (by kernel_rfl) (by kernel_rfl) (by kernel_rfl) (fun _ _ _ h => h) (by rfl) ?hyc3 hS ?restc3
          case hyc3 => (intro wx hSx; (try dsimp only at hSx); go_simp; (try with_reducible rfl))
          (try simp only [Act.put, List.setIfInBounds_toArray, List.set_cons_zero, List.set_cons_succ])
          refine wpAnyZ_takeC 4 [9] (v := ?vc4) rfl (by kernel_rfl) (by kernel_rfl) (by kernel_rfl) (by kernel_rfl) (by kernel_rfl) (by kernel_rfl) (fun _ _ _ h => h) (by rfl) ?hyc4 hS ?restc4
          case hyc4 => (intro wx hSx; (try dsimp only at hSx); go_simp; (try with_reducible rfl))
          (try simp only [Act.put, List.setIfInBounds_toArray, List.set_cons_zero, List.set_cons_succ])
          refine wpAnyZ_takeC 5 [9] (v := ?vc5) rfl (by kernel_rfl) (by kernel_rfl) (by kernel_rfl) (by kernel_rfl) (by kernel_rfl) (by kernel_rfl) (fun _ _ _ h => h) (by rfl) ?hyc5 hS ?restc5
          case hyc5 => (intro wx hSx; (try dsimp only at hSx); go_simp; (try with_reducible rfl))
          (try simp only [Act.put, List.setIfInBounds_toArray, List.set_cons_zero, List.set_cons_succ])
          refine wpAnyZ_one 6 rfl (by kernel_rfl) (fun K hK => ?_)
          go_simp
          refine hBi.mono ?_
          clear hBi
          rintro e w5 ⟨rfl, k5⟩
          have xd5 := xd.kept k5 (by simp)
          have rd5 := rd.kept k5 (by simp)
          have hS5 : w5.cell? ⟨g, 2, none⟩ = some (.int .i64 l) ∧ w5.cell? ⟨gr, 0, none⟩ = some (.int .i64 r.kind) ∧ w5.cell? ⟨gr, 1, none⟩ = some (.int .i64 r.birth) ∧ w5.cell? ⟨gr, 2, none⟩ = some (.int .i64 r.prev) ∧ w5.cell? ⟨gr, 3, none⟩ = some (.int .i64 r.id) ∧ w5.cell? ⟨gr, 4, none⟩ = some (.int .i64 r.page) ∧ w5.cell? ⟨gr, 5, none⟩ = some (.int .i64 r.frm) ∧ w5.cell? ⟨gr, 6, none⟩ = some (.slice r.b.p r.b.n r.b.c) ∧ w5.cell? ⟨gr, 7, none⟩ = some (.slice r.a.p r.a.n r.a.c) ∧ w5.cell? ⟨gr, 8, none⟩ = some (.int .i64 r.next) ∧ w5.cell? ⟨gr, 9, none⟩ = some (.slice r.r.p r.r.n r.r.c) ∧ w5.cell? ⟨gr, 10, none⟩ = some (.slice r.d.p r.d.n r.d.c) := ⟨xd5.cell (j := 2) rfl, rd5.cell (j := 0) rfl, rd5.cell (j := 1) rfl, rd5.cell (j := 2) rfl, rd5.cell (j := 3) rfl, rd5.cell (j := 4) rfl, rd5.cell (j := 5) rfl, rd5.cell (j := 6) rfl, rd5.cell (j := 7) rfl, rd5.cell (j := 8) rfl, rd5.cell (j := 9) rfl, rd5.cell (j := 10) rfl⟩
          refine hK _ _ (fun _ => hS5) ?_
          clear hK K rd rd5 xd hS
          (try simp only [Act.put, List.setIfInBounds_toArray, List.set_cons_zero, List.set_cons_succ])
          have hg5 := xd5.lt
          refine wpAnyZ_takeC 7 [9, 8] (v := ?vc7) rfl (by kernel_rfl) (by kernel_rfl) (by kernel_rfl) (by kernel_rfl) (by kernel_rfl) (by kernel_rfl) (fun _ _ _ h => h) (by rfl) ?hyc7 hS5 ?restc7
          case hyc7 => (intro wx hSx; (try dsimp only at hSx); go_simp; (try with_reducible rfl))
          (try simp only [Act.put, List.setIfInBounds_toArray, List.set_cons_zero, List.set_cons_succ])
          refine wpAnyZ_takeC 8 [9] (v := ?vc8) rfl (by kernel_rfl) (by kernel_rfl) (by kernel_rfl) (by kernel_rfl) (by kernel_rfl) (by kernel_rfl) (fun _ _ _ h => h) (by rfl) ?hyc8 hS5 ?restc8
          case hyc8 => (intro wx hSx; (try dsimp only at hSx); go_simp; (try with_reducible rfl))
          (try simp only [Act.put, List.setIfInBounds_toArray, List.set_cons_zero, List.set_cons_succ])
          have x3 := xd5.cell (j := 3) rfl
          have f3 := xd5.free 3
          have b60 := xd5.set 3 (.int .i64 (birthOf r.rc l))
          obtain ⟨w6, hw6⟩ : ∃ wx, wx = w5.setCell ⟨g, 3, none⟩ (.int .i64 (birthOf r.rc l)) := ⟨_, rfl⟩
          rw [← hw6] at b60
          have HX := @hideH _ (And.intro (show Blk w6 g 60 [.func (.func gf) #[] lb, .int .i64 ((0 : Nat) : Int), .int .i64 l, .int .i64 (birthOf r.rc l)] from b60.1) ((((Kept.refl [] wd).drew.then k5).mono (T := [g]) (by simp)).trans b60.2 (fun x hx => .inl hx)))
          clear b60 k5 xd5
          refine wpAnyZ_one 9 rfl (by kernel_rfl) (fun K hK => ?_)
          go_simp
          rw [← hw6]
          refine hK _ _ (fun h => absurd rfl h) ?_
          clear hK K hw6
          (try simp only [Act.put, List.setIfInBounds_toArray, List.set_cons_zero, List.set_cons_succ])
          refine wpAnyZ_done (by kernel_rfl) ?_ _
          go_wp2
          go_meet
          case rel => exact ⟨by rw [HE.out]; exact HX.out.1, HX.out.2⟩
      case rest =>
        clear y1 xs zs rs
        have xs := hcut.out.1
        have kc := hcut.out.2
        have rs := hc.out.2.2.2.2.2.2.1.kept kc (by have := HNE.out.2.1; simp; omega)
        have zs := hc.out.2.2.2.2.2.2.2.2.1.kept kc (by have := HNE.out.1; simp; omega)
        have S1 := A.kept hc.out.2.2.2.1 kc (fun x hx => by simp at hx; subst hx; exact ⟨HK.out.2.2.1, HGF.out⟩)
        have K1 := (hc.out.2.2.2.2.1.mono (T := g :: F) (fun x hx => List.mem_cons_of_mem _ hx)).trans kc (fun x hx => .inl (by simp at hx; simp [hx]))
        have y1 := xs.cell (j := 1) rfl
        have f1 := xs.free 1
        have hgl1 := xs.lt
        have wk1 : IntKind.i64.wrap ((k : Int) + 1) = (k : Int) + 1 := wrap_i64_of (by omega) (by have := HK.out.2.1; omega)
        have b60 := xs.set 1 (.int .i64 ((k : Int) + 1))
        obtain ⟨w6, hw6⟩ : ∃ wx, wx = wc.setCell ⟨g, 1, none⟩ (.int .i64 ((k : Int) + 1)) := ⟨_, rfl⟩
        rw [← hw6] at b60
        have B6 : Blk w6 g 60 [.func (.func gf) #[] lb, .int .i64 ((k : Int) + 1), .int .i64 l, .int .i64 B'] := b60.1
        have k6 := b60.2
        clear b60
        have rs6 := rs.kept k6 (by have := HNE.out.2.1; simp; omega)
        have zs6 := zs.kept k6 (by have := HNE.out.1; simp; omega)
        have S6 := A.kept S1 k6 (fun x hx => by simp at hx; subst hx; exact ⟨HK.out.2.2.1, HGF.out⟩)
        have K6 := K1.trans k6 (fun x hx => .inl (by simp at hx; simp [hx]))
        have HOW := qIsOwn g ((k : Int) + 1) l B' r w6 B6
        clear xs kc rs zs S1 K1 k6 hcut
        have x0 := rs6.cell (j := 0) rfl
        have x1 := rs6.cell (j := 1) rfl
        have x2 := rs6.cell (j := 2) rfl
        have x3 := rs6.cell (j := 3) rfl
        have x4 := rs6.cell (j := 4) rfl
        have x5 := rs6.cell (j := 5) rfl
        have x6 := rs6.cell (j := 6) rfl
        have x7 := rs6.cell (j := 7) rfl
        have x8 := rs6.cell (j := 8) rfl
        have x9 := rs6.cell (j := 9) rfl
        have x10 := rs6.cell (j := 10) rfl
        go_upto_region 9 with fail
        rw [← hw6]
        clear hw6 y1 f1
        go_wp2_with fail
        refine HOW.mono ?_
        clear HOW
        rintro e w7 ⟨rfl, k7⟩
        have S7 := A.kept S6 k7 (by simp)
        have K7 := K6.then k7
        have B7 := B6.kept k7 (by simp)
        have zs7 := zs6.kept k7 (by simp)
        have rs7 := rs6.kept k7 (by simp)
        clear S6 K6 B6 zs6 rs6 k7 x0 x1 x2 x3 x4 x5 x6 x7 x8 x9 x10
        have x0 := rs7.cell (j := 0) rfl
        have x1 := rs7.cell (j := 1) rfl
        have x2 := rs7.cell (j := 2) rfl
        have x3 := rs7.cell (j := 3) rfl
        have x4 := rs7.cell (j := 4) rfl
        have x5 := rs7.cell (j := 5) rfl
        have x6 := rs7.cell (j := 6) rfl
        have x7 := rs7.cell (j := 7) rfl
        have x8 := rs7.cell (j := 8) rfl
        have x9 := rs7.cell (j := 9) rfl
        have x10 := rs7.cell (j := 10) rfl
        have a0 := zs7.cell (j := 0) rfl
        have a1 := zs7.cell (j := 1) rfl
        have a2 := zs7.cell (j := 2) rfl
        have a3 := zs7.cell (j := 3) rfl
        have a4 := zs7.cell (j := 4) rfl
        have a5 := zs7.cell (j := 5) rfl
        have a6 := zs7.cell (j := 6) rfl
        have a7 := zs7.cell (j := 7) rfl
        have a8 := zs7.cell (j := 8) rfl
        have a9 := zs7.cell (j := 9) rfl
        have a10 := zs7.cell (j := 10) rfl
        have f0 := zs7.free 0
        have f1 := zs7.free 1
        have f2 := zs7.free 2
        have f3 := zs7.free 3
        have f4 := zs7.free 4
        have f5 := zs7.free 5
        have f6 := zs7.free 6
        have f7 := zs7.free 7
        have f8 := zs7.free 8
        have f9 := zs7.free 9
        have f10 := zs7.free 10
        by_cases hh : hangs r.rc l B'
        · skip
          obtain ⟨B8, k8⟩ := zs7.fill11 (.int .i64 r.kind) (.int .i64 r.birth) (.int .i64 r.prev) (.int .i64 r.id) (.int .i64 r.page) (.int .i64 r.frm) (.slice r.b.p r.b.n r.b.c) (.slice r.a.p r.a.n r.a.c) (.int .i64 r.next) (.slice r.r.p r.r.n r.r.c) (.slice r.d.p r.d.n r.d.c)
          obtain ⟨w8, hw8⟩ : ∃ wF, wF = (((((((((((w7.setCell ⟨w.heap.size, 0, none⟩ (.int .i64 r.kind)).setCell ⟨w.heap.size, 1, none⟩ (.int .i64 r.birth)).setCell ⟨w.heap.size, 2, none⟩ (.int .i64 r.prev)).setCell ⟨w.heap.size, 3, none⟩ (.int .i64 r.id)).setCell ⟨w.heap.size, 4, none⟩ (.int .i64 r.page)).setCell ⟨w.heap.size, 5, none⟩ (.int .i64 r.frm)).setCell ⟨w.heap.size, 6, none⟩ (.slice r.b.p r.b.n r.b.c)).setCell ⟨w.heap.size, 7, none⟩ (.slice r.a.p r.a.n r.a.c)).setCell ⟨w.heap.size, 8, none⟩ (.int .i64 r.next)).setCell ⟨w.heap.size, 9, none⟩ (.slice r.r.p r.r.n r.r.c)).setCell ⟨w.heap.size, 10, none⟩ (.slice r.d.p r.d.n r.d.c)) := ⟨_, rfl⟩
          rw [← hw8] at B8 k8
          have S8 := A.kept S7 k8 (fun x hx => by simp at hx; subst hx; exact ⟨HK.out.2.2.2.2.2.2.2.2.1, hc.out.2.2.2.2.2.2.2.2.2.2.1⟩)
          have K8 := K7.trans k8 (fun x hx => .inr (by simp at hx; omega))
          have B8g := B7.kept k8 (by have := HNE.out.1; simp; omega)
          have HE := @hideH _ (show RecOut gf lb R St F qs g k l B w w8 (.returned (.tuple #[.agg #[.int .i64 r.kind, .int .i64 r.birth, .int .i64 r.prev, .int .i64 r.id, .int .i64 r.page, .int .i64 r.frm, .slice r.b.p r.b.n r.b.c, .slice r.a.p r.a.n r.a.c, .int .i64 r.next, .slice r.r.p r.r.n r.r.c, .slice r.d.p r.d.n r.d.c], .int .i64 0])) from ⟨0, r, F', rfl, S8, K8, hc.out.2.2.2.2.2.1, .inr ⟨rfl, hc.out.2.1, hc.out.1, by rw [← HBB.out]; exact hh, by rw [← HBB.out]; exact B8g⟩⟩)
          have hd : decide (hangs r.rc l B') = true := decide_eq_true hh
          rw [hd]
          clear hh hd S8 K8 B8g k8 S7 K7 B7 zs7 rs7
          have q0 := B8.cell (j := 0) rfl
          have q1 := B8.cell (j := 1) rfl
          have q2 := B8.cell (j := 2) rfl
          have q3 := B8.cell (j := 3) rfl
          have q4 := B8.cell (j := 4) rfl
          have q5 := B8.cell (j := 5) rfl
          have q6 := B8.cell (j := 6) rfl
          have q7 := B8.cell (j := 7) rfl
          have q8 := B8.cell (j := 8) rfl
          have q9 := B8.cell (j := 9) rfl
          have q10 := B8.cell (j := 10) rfl
          clear B8
          go_wp2
          rw [← hw8]
          clear hw8 a0 a1 a2 a3 a4 a5 a6 a7 a8 a9 a10 f0 f1 f2 f3 f4 f5 f6 f7 f8 f9 f10 x0 x1 x2 x3 x4 x5 x6 x7 x8 x9 x10
          refine bodyPost_ret (by simp [results, Try.results22, go_sem, q0, q1, q2, q3, q4, q5, q6, q7, q8, q9, q10]; try rfl) rfl ?_
          exact HE.out
        · skip
          obtain ⟨B8, k8⟩ := zs7.fill11 (.int .i64 0) (.int .i64 0) (.int .i64 0) (.int .i64 0) (.int .i64 0) (.int .i64 0) (.slice none 0 0) (.slice none 0 0) (.int .i64 0) (.slice none 0 0) (.slice none 0 0)
          obtain ⟨w8, hw8⟩ : ∃ wF, wF = (((((((((((w7.setCell ⟨w.heap.size, 0, none⟩ (.int .i64 0)).setCell ⟨w.heap.size, 1, none⟩ (.int .i64 0)).setCell ⟨w.heap.size, 2, none⟩ (.int .i64 0)).setCell ⟨w.heap.size, 3, none⟩ (.int .i64 0)).setCell ⟨w.heap.size, 4, none⟩ (.int .i64 0)).setCell ⟨w.heap.size, 5, none⟩ (.int .i64 0)).setCell ⟨w.heap.size, 6, none⟩ (.slice none 0 0)).setCell ⟨w.heap.size, 7, none⟩ (.slice none 0 0)).setCell ⟨w.heap.size, 8, none⟩ (.int .i64 0)).setCell ⟨w.heap.size, 9, none⟩ (.slice none 0 0)).setCell ⟨w.heap.size, 10, none⟩ (.slice none 0 0)) := ⟨_, rfl⟩
          rw [← hw8] at B8 k8
          have S8 := A.kept S7 k8 (fun x hx => by simp at hx; subst hx; exact ⟨HK.out.2.2.2.2.2.2.2.2.1, hc.out.2.2.2.2.2.2.2.2.2.2.1⟩)
          have K8 := K7.trans k8 (fun x hx => .inr (by simp at hx; omega))
          have B8g := B7.kept k8 (by have := HNE.out.1; simp; omega)
          have HE := @hideH _ (show RecOut gf lb R St F qs g k l B w w8 (.returned (.tuple #[.agg #[.int .i64 Lv.zero.kind, .int .i64 Lv.zero.birth, .int .i64 Lv.zero.prev, .int .i64 Lv.zero.id, .int .i64 Lv.zero.page, .int .i64 Lv.zero.frm, .slice Lv.zero.b.p Lv.zero.b.n Lv.zero.b.c, .slice Lv.zero.a.p Lv.zero.a.n Lv.zero.a.c, .int .i64 Lv.zero.next, .slice Lv.zero.r.p Lv.zero.r.n Lv.zero.r.c, .slice Lv.zero.d.p Lv.zero.d.n Lv.zero.d.c], .int .i64 120])) from ⟨120, Lv.zero, F', rfl, S8, K8, hc.out.2.2.2.2.2.1, .inl ⟨by decide, .inr ⟨rfl, _, hc.out.1, by rw [← HBB.out]; exact hh⟩⟩⟩)
          have hd : decide (hangs r.rc l B') = false := decide_eq_false hh
          rw [hd]
          clear hh hd S8 K8 B8g k8 S7 K7 B7 zs7 rs7
          have q0 := B8.cell (j := 0) rfl
          have q1 := B8.cell (j := 1) rfl
          have q2 := B8.cell (j := 2) rfl
          have q3 := B8.cell (j := 3) rfl
          have q4 := B8.cell (j := 4) rfl
          have q5 := B8.cell (j := 5) rfl
          have q6 := B8.cell (j := 6) rfl
          have q7 := B8.cell (j := 7) rfl
          have q8 := B8.cell (j := 8) rfl
          have q9 := B8.cell (j := 9) rfl
          have q10 := B8.cell (j := 10) rfl
          clear B8
          go_wp2
          rw [← hw8]
          clear hw8 a0 a1 a2 a3 a4 a5 a6 a7 a8 a9 a10 f0 f1 f2 f3 f4 f5 f6 f7 f8 f9 f10 x0 x1 x2 x3 x4 x5 x6 x7 x8 x9 x10
          refine bodyPost_ret (by simp [results, Try.results22, go_sem, q0, q1, q2, q3, q4, q5, q6, q7, q8, q9, q10]; try rfl) rfl ?_
          exact HE.out
end
end Go.Proofs.Ytinlhojojeabcaa

