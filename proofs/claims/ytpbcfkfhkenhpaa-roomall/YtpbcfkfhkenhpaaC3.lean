import Derived.Test.YtpbcfkfhkenhpaaC2
/-
  OWN WORK (by mkrm6.py). The law: one step of both.
-/
namespace Go.Proofs.Ytpbcfkfhkenhpaa
open Go.RowKit
set_option linter.unusedVariables false
set_option linter.unusedSimpArgs false

theorem dis_left {w : World} {F F' G : List Nat} (hn : ∀ x ∈ F, x ∉ G) (fr : Fr w F F') (lt : ∀ x ∈ G, x < w.heap.size) : ∀ x ∈ F', x ∉ G := fun x hx hm => by
  rcases fr x hx with q | q
  · exact hn x q hm
  · have := lt x hm; omega
theorem dis_right {w : World} {F G G' : List Nat} (hn : ∀ x ∈ F, x ∉ G) (fr : Fr w G G') (lt : ∀ x ∈ F, x < w.heap.size) : ∀ x ∈ F, x ∉ G' := fun x hx hm => by
  rcases fr x hm with q | q
  · exact hn x hx q
  · have := lt x hx; omega
theorem dis_swap {F G : List Nat} (hn : ∀ x ∈ F, x ∉ G) : ∀ x ∈ G, x ∉ F := fun x hx hm => hn x hm hx
theorem rOf {g : Nat} {F : List Nat} {a : Int} {T : List Tx} (b : Int) (w : World) (h : Rr w g F a T) : Calls Try.prog 22 #[.pointer (some ⟨g, 0, none⟩), .int .i64 b] w fun e w' => e = .returned (.int .i64 (ofT T b)) ∧ Kept [] w w' := by
  obtain ⟨v, P, h1, rfl, rfl⟩ := h
  refine (rOfP b w h1).mono ?_
  rintro e w' ⟨rfl, rfl⟩
  exact ⟨rfl, Kept.refl _ _⟩
theorem rKept {g : Nat} {F : List Nat} {a : Int} {T : List Tx} (w : World) (h : Rr w g F a T) : Calls Try.prog 21 #[.pointer (some ⟨g, 0, none⟩)] w fun e w' => e = .returned (.int .i64 (keptT T)) ∧ Kept [] w w' := by
  obtain ⟨v, P, h1, rfl, rfl⟩ := h
  refine (rKeptP w h1).mono ?_
  rintro e w' ⟨rfl, rfl⟩
  exact ⟨rfl, Kept.refl _ _⟩
theorem rFits {g : Nat} {F : List Nat} {a : Int} {T : List Tx} (u m k : Int) (w : World) (h : Rr w g F a T) (ha : I64 a) (hu : I64 u) (hm : I64 m) (hk : I64 k) : Calls Try.prog 30 #[.pointer (some ⟨g, 0, none⟩), .int .i64 u, .int .i64 m, .int .i64 k] w fun e w' => e = .returned (.bool (fitsB a T u m k)) ∧ Kept [] w w' := by
  obtain ⟨v, P, h1, rfl, rfl⟩ := h
  exact rFitsP u m k w h1 ha hu hm hk
set_option maxRecDepth 20000 in
set_option maxHeartbeats 12800000 in
theorem step_any {Rm : World → Nat → List Nat → Int → List Tx → Prop} (O : RmOps Rm) {gP : Nat} {F : List Nat} {gR : Nat} {G : List Nat} {a : Int} {T : List Tx} (s : OpR) (w : World) (l : Rm w gP F a T) (r : Rr w gR G a T) (hn : ∀ x ∈ F, x ∉ G) (nn : s.i64) (ha : I64 a) (hs : szT T < 4398046511104) : Calls Try.prog 20 #[.pointer (some ⟨gP, 0, none⟩), .pointer (some ⟨gR, 0, none⟩), .agg #[.int .i64 s.kind, .int .i64 s.birth, .int .i64 s.n, .int .i64 s.m]] w fun e w' => e = .returned (.bool true) ∧ ∃ F' G', Rm w' gP F' a (playR T s) ∧ Rr w' gR G' a (playR T s) ∧ (∀ x ∈ F', x ∉ G') ∧ Fr w F F' ∧ Fr w G G' ∧ Kept (F ++ G) w w' := by
  have HNN := @hideH _ (And.intro nn (And.intro ha hs))
  have n0 : w.heap.size ∉ F := fun hm => by have := O.lt l _ hm; omega
  have n1 : w.heap.size ∉ G := fun hm => by have := r.lt _ hm; omega
  obtain ⟨w1, hw1⟩ : ∃ wx, wx = w.alloc (.cells #[.int .i64 s.kind, .int .i64 s.birth, .int .i64 s.n, .int .i64 s.m] 35) := ⟨_, rfl⟩
  have k1 : Kept [] w w1 := by rw [hw1]; exact (Kept.refl [] w).alloc _
  have B : Blk w1 w.heap.size 35 [.int .i64 s.kind, .int .i64 s.birth, .int .i64 s.n, .int .i64 s.m] := by rw [hw1]; exact Blk.new w _ _
  have d0 := B.cell (j := 0) rfl
  have d1 := B.cell (j := 1) rfl
  have d2 := B.cell (j := 2) rfl
  have d3 := B.cell (j := 3) rfl
  have HK1 := @hideH _ k1
  have HLR := @hideH _ (And.intro (O.kept l k1 (by simp)) (And.intro (r.kept k1 (by simp)) hn))
  clear B l r nn k1 hn ha hs
  go_enter Try.func20, Try.ntmps20
  go_upto_region 1 with fail
  rw [← hw1]
  clear hw1
  by_cases q0 : s.kind = 0
  · have HP := @hideH _ (play0 (T := T) q0)
    rw [q0] at d0
    clear q0 
    have hq := O.beg s.birth w1 HLR.out.1 HNN.out.1.2.1 HNN.out.2.2
    have HQ := @hideH _ hq
    have HRR := @hideH _ (fun w6 (h : Rr w6 gR G a T) => rBegin s.birth w6 h HNN.out.2.2)
    obtain ⟨E, hE⟩ : ∃ E, E = begE T s.birth := ⟨_, rfl⟩
    rw [← hE] at HQ HRR
    clear hE hq
    go_wp2_with fail
    refine HQ.out.mono ?_
    clear HQ
    rintro e w3 ⟨F3, rfl, l3, fr3, k3⟩
    have r3 := HLR.out.2.1.kept k3 (dis_swap HLR.out.2.2)
    have ds3 := dis_left HLR.out.2.2 fr3 HLR.out.2.1.lt
    replace d1 := k3.cell d1 n0
    replace d2 := k3.cell d2 n0
    replace d3 := k3.cell d3 n0
    have HQ := @hideH _ (HRR.out w3 r3)
    clear HRR
    go_wp2_with fail
    refine HQ.out.mono ?_
    clear HQ
    rintro e w5 ⟨G5, rfl, r5, fr5, k5⟩
    have l5 := O.kept l3 k5 ds3
    have ds5 := dis_right ds3 fr5 (O.lt l3)
    have FIN := @hideH _ (show ∃ F' G', Rm w5 gP F' a (playR T s) ∧ Rr w5 gR G' a (playR T s) ∧ (∀ x ∈ F', x ∉ G') ∧ Fr w F F' ∧ Fr w G G' ∧ Kept (F ++ G) w w5 from ⟨F3, G5, by rw [HP.out]; exact l5, by rw [HP.out]; exact r5, ds5, fr3.old HK1.out.size, fr5.old (Nat.le_trans HK1.out.size k3.size), ((HK1.out.mono (T := F ++ G) (by simp)).trans k3 (fun x hx => .inl (List.mem_append_left _ hx))).trans k5 (fun x hx => .inl (List.mem_append_right _ hx))⟩)
    clear l3 fr3 k3 r3 ds3 l5 ds5 r5 fr5 k5 HLR
    go_wp2
    go_ret
    exact ⟨by first | rfl | simp, FIN.out⟩
  have q0' : (s.kind == 0) = false := by simpa using q0
  by_cases q1 : s.kind = 1
  · have HP := @hideH _ (play1 (T := T) q1)
    rw [q1] at d0
    clear q1 q0
    have hq := O.upd s.birth s.n w1 HLR.out.1 HNN.out.1.2.1 HNN.out.1.2.2.1 HNN.out.2.2
    have HQ := @hideH _ hq
    have HRR := @hideH _ (fun w6 (h : Rr w6 gR G a T) => rUpdate s.birth s.n w6 h HNN.out.2.2)
    obtain ⟨E, hE⟩ : ∃ E, E = updE T s.birth s.n := ⟨_, rfl⟩
    rw [← hE] at HQ HRR
    clear hE hq
    go_wp2_with fail
    refine HQ.out.mono ?_
    clear HQ
    rintro e w3 ⟨F3, rfl, l3, fr3, k3⟩
    have r3 := HLR.out.2.1.kept k3 (dis_swap HLR.out.2.2)
    have ds3 := dis_left HLR.out.2.2 fr3 HLR.out.2.1.lt
    replace d1 := k3.cell d1 n0
    replace d2 := k3.cell d2 n0
    replace d3 := k3.cell d3 n0
    have HQ := @hideH _ (HRR.out w3 r3)
    clear HRR
    go_wp2_with fail
    refine HQ.out.mono ?_
    clear HQ
    rintro e w5 ⟨G5, rfl, r5, fr5, k5⟩
    have l5 := O.kept l3 k5 ds3
    have ds5 := dis_right ds3 fr5 (O.lt l3)
    have FIN := @hideH _ (show ∃ F' G', Rm w5 gP F' a (playR T s) ∧ Rr w5 gR G' a (playR T s) ∧ (∀ x ∈ F', x ∉ G') ∧ Fr w F F' ∧ Fr w G G' ∧ Kept (F ++ G) w w5 from ⟨F3, G5, by rw [HP.out]; exact l5, by rw [HP.out]; exact r5, ds5, fr3.old HK1.out.size, fr5.old (Nat.le_trans HK1.out.size k3.size), ((HK1.out.mono (T := F ++ G) (by simp)).trans k3 (fun x hx => .inl (List.mem_append_left _ hx))).trans k5 (fun x hx => .inl (List.mem_append_right _ hx))⟩)
    clear l3 fr3 k3 r3 ds3 l5 ds5 r5 fr5 k5 HLR
    go_wp2
    go_ret
    exact ⟨by first | rfl | simp, FIN.out⟩
  have q1' : (s.kind == 1) = false := by simpa using q1
  by_cases q2 : s.kind = 2
  · have HP := @hideH _ (play2 (T := T) q2)
    rw [q2] at d0
    clear q2 q0 q1
    have hq := O.und s.birth s.n w1 HLR.out.1 HNN.out.1.2.1 HNN.out.1.2.2.1
    have HQ := @hideH _ hq
    have HRR := @hideH _ (fun w6 (h : Rr w6 gR G a T) => rUndone s.birth s.n w6 h)
    obtain ⟨E, hE⟩ : ∃ E, E = undE T s.birth s.n := ⟨_, rfl⟩
    rw [← hE] at HQ HRR
    clear hE hq
    go_wp2_with fail
    refine HQ.out.mono ?_
    clear HQ
    rintro e w3 ⟨F3, rfl, l3, fr3, k3⟩
    have r3 := HLR.out.2.1.kept k3 (dis_swap HLR.out.2.2)
    have ds3 := dis_left HLR.out.2.2 fr3 HLR.out.2.1.lt
    replace d1 := k3.cell d1 n0
    replace d2 := k3.cell d2 n0
    replace d3 := k3.cell d3 n0
    have HQ := @hideH _ (HRR.out w3 r3)
    clear HRR
    go_wp2_with fail
    refine HQ.out.mono ?_
    clear HQ
    rintro e w5 ⟨G5, rfl, r5, fr5, k5⟩
    have l5 := O.kept l3 k5 ds3
    have ds5 := dis_right ds3 fr5 (O.lt l3)
    have FIN := @hideH _ (show ∃ F' G', Rm w5 gP F' a (playR T s) ∧ Rr w5 gR G' a (playR T s) ∧ (∀ x ∈ F', x ∉ G') ∧ Fr w F F' ∧ Fr w G G' ∧ Kept (F ++ G) w w5 from ⟨F3, G5, by rw [HP.out]; exact l5, by rw [HP.out]; exact r5, ds5, fr3.old HK1.out.size, fr5.old (Nat.le_trans HK1.out.size k3.size), ((HK1.out.mono (T := F ++ G) (by simp)).trans k3 (fun x hx => .inl (List.mem_append_left _ hx))).trans k5 (fun x hx => .inl (List.mem_append_right _ hx))⟩)
    clear l3 fr3 k3 r3 ds3 l5 ds5 r5 fr5 k5 HLR
    go_wp2
    go_ret
    exact ⟨by first | rfl | simp, FIN.out⟩
  have q2' : (s.kind == 2) = false := by simpa using q2
  by_cases q3 : s.kind = 3
  · have HP := @hideH _ (play3 (T := T) q3)
    rw [q3] at d0
    clear q3 q0 q1 q2
    have hq := O.drp s.birth w1 HLR.out.1 HNN.out.1.2.1
    have HQ := @hideH _ hq
    have HRR := @hideH _ (fun w6 (h : Rr w6 gR G a T) => rDrop s.birth w6 h)
    obtain ⟨E, hE⟩ : ∃ E, E = drpE T s.birth := ⟨_, rfl⟩
    rw [← hE] at HQ HRR
    clear hE hq
    go_wp2_with fail
    refine HQ.out.mono ?_
    clear HQ
    rintro e w3 ⟨F3, rfl, l3, fr3, k3⟩
    have r3 := HLR.out.2.1.kept k3 (dis_swap HLR.out.2.2)
    have ds3 := dis_left HLR.out.2.2 fr3 HLR.out.2.1.lt
    replace d1 := k3.cell d1 n0
    replace d2 := k3.cell d2 n0
    replace d3 := k3.cell d3 n0
    have HQ := @hideH _ (HRR.out w3 r3)
    clear HRR
    go_wp2_with fail
    refine HQ.out.mono ?_
    clear HQ
    rintro e w5 ⟨G5, rfl, r5, fr5, k5⟩
    have l5 := O.kept l3 k5 ds3
    have ds5 := dis_right ds3 fr5 (O.lt l3)
    have FIN := @hideH _ (show ∃ F' G', Rm w5 gP F' a (playR T s) ∧ Rr w5 gR G' a (playR T s) ∧ (∀ x ∈ F', x ∉ G') ∧ Fr w F F' ∧ Fr w G G' ∧ Kept (F ++ G) w w5 from ⟨F3, G5, by rw [HP.out]; exact l5, by rw [HP.out]; exact r5, ds5, fr3.old HK1.out.size, fr5.old (Nat.le_trans HK1.out.size k3.size), ((HK1.out.mono (T := F ++ G) (by simp)).trans k3 (fun x hx => .inl (List.mem_append_left _ hx))).trans k5 (fun x hx => .inl (List.mem_append_right _ hx))⟩)
    clear l3 fr3 k3 r3 ds3 l5 ds5 r5 fr5 k5 HLR
    go_wp2
    go_ret
    exact ⟨by first | rfl | simp, FIN.out⟩
  have q3' : (s.kind == 3) = false := by simpa using q3
  by_cases q5 : s.kind = 5
  · have HP := @hideH _ (playE (T := T) q0 q1 q2 q3)
    rw [q5] at d0
    clear q5 q0 q1 q2 q3
    have lx := O.kept HLR.out.1 (Kept.refl [] w1).drew (by simp)
    have rx := HLR.out.2.1.kept (Kept.refl [] w1).drew (by simp)
    have kx : Kept [] w1 w1.drew := (Kept.refl _ w1).drew
    obtain ⟨E, hE⟩ : ∃ E, E = fitsB a T s.birth s.n s.m := ⟨_, rfl⟩
    have HQ := @hideH _ (fun w6 (h : Rm w6 gP F a T) => O.fits s.birth s.n s.m w6 h HNN.out.1.2.1 HNN.out.1.2.2.1 HNN.out.1.2.2.2)
    have HRR := @hideH _ (fun w6 (h : Rr w6 gR G a T) => rFits s.birth s.n s.m w6 h HNN.out.2.1 HNN.out.1.2.1 HNN.out.1.2.2.1 HNN.out.1.2.2.2)
    rw [← hE] at HQ HRR
    clear hE
    go_upto_region 15 with fail
    go_region_held3 (fun w' => w'.cell? ⟨w.heap.size, 1, none⟩ = some (.int .i64 s.birth) ∧ w'.cell? ⟨w.heap.size, 2, none⟩ = some (.int .i64 s.n) ∧ w'.cell? ⟨w.heap.size, 3, none⟩ = some (.int .i64 s.m))
      (first
        | (exact ⟨kx.cell d1 (by simp), kx.cell d2 (by simp), kx.cell d3 (by simp)⟩)
        | fail)
      (first
        | (go_at_call 11; refine (HQ.out _ lx).mono ?_; rintro e w6 ⟨rfl, k6⟩; replace kx := kx.then k6; replace lx := O.kept lx k6 (by simp); replace rx := rx.kept k6 (by simp); clear k6)
        | (go_at_call 30; refine (HRR.out _ rx).mono ?_; rintro e w7 ⟨rfl, k6⟩; replace kx := kx.then k6; replace lx := O.kept lx k6 (by simp); replace rx := rx.kept k6 (by simp); clear k6)
        | fail)
    all_goals (have FIN := @hideH _ (And.intro lx (And.intro rx (HK1.out.then kx))))
    all_goals (clear lx rx kx HQ HRR)
    all_goals go_wp2
    all_goals go_ret
    all_goals exact ⟨by first | rfl | simp, F, G, by rw [HP.out]; exact FIN.out.1, by rw [HP.out]; exact FIN.out.2.1, HLR.out.2.2, Fr.refl _ _, Fr.refl _ _, FIN.out.2.2.mono (by simp)⟩
  have q5' : (s.kind == 5) = false := by simpa using q5
  have HP := @hideH _ (playE (T := T) q0 q1 q2 q3)
  clear q0 q1 q2 q3 q5
  have lx := O.kept HLR.out.1 (Kept.refl [] w1).drew (by simp)
  have rx := HLR.out.2.1.kept (Kept.refl [] w1).drew (by simp)
  have kx : Kept [] w1 w1.drew := (Kept.refl _ w1).drew
  obtain ⟨E, hE⟩ : ∃ E, E = ofT T s.birth := ⟨_, rfl⟩
  have HQ := @hideH _ (fun w6 (h : Rm w6 gP F a T) => O.of s.birth w6 h HNN.out.1.2.1)
  have HRR := @hideH _ (fun w6 (h : Rr w6 gR G a T) => rOf s.birth w6 h)
  rw [← hE] at HQ HRR
  clear hE
  go_upto_region 16 with fail
  go_region_held3 (fun w' => w'.cell? ⟨w.heap.size, 1, none⟩ = some (.int .i64 s.birth))
    (first
      | (exact kx.cell d1 (by simp))
      | fail)
    (first
      | (go_at_call 15; refine (HQ.out _ lx).mono ?_; rintro e w6 ⟨rfl, k6⟩; replace kx := kx.then k6; replace lx := O.kept lx k6 (by simp); replace rx := rx.kept k6 (by simp); clear k6)
      | (go_at_call 22; refine (HRR.out _ rx).mono ?_; rintro e w7 ⟨rfl, k6⟩; replace kx := kx.then k6; replace lx := O.kept lx k6 (by simp); replace rx := rx.kept k6 (by simp); clear k6)
      | fail)
  all_goals (have FIN := @hideH _ (And.intro lx (And.intro rx (HK1.out.then kx))))
  all_goals (clear lx rx kx HQ HRR)
  all_goals go_wp2
  all_goals go_ret
  all_goals exact ⟨by first | rfl | simp, F, G, by rw [HP.out]; exact FIN.out.1, by rw [HP.out]; exact FIN.out.2.1, HLR.out.2.2, Fr.refl _ _, Fr.refl _ _, FIN.out.2.2.mono (by simp)⟩
end Go.Proofs.Ytpbcfkfhkenhpaa

