import Derived.Recover
import Derived.Shelf.Abstract
import Derived.Test.YtinlhojojeabcaaC3
/-
  OWN WORK (by mkcq1.py). chain: ask (a read, and what it panics with caught).
-/
namespace Go.Proofs.Ytinlhojojeabcaa
open Go.RowKit
set_option linter.unusedVariables false
set_option linter.unusedSimpArgs false

theorem ask_idle (p q : Addr) (w : World) :
    CallsD Try.prog 27 #[.pointer (some p), .pointer (some q)] .returning w fun e u' w' => e = .returned (.tuple #[]) ∧ u' = .returning ∧ w' = w := by
  refine callsD_of_wpS Try.func27 rfl fun c₀ cs hu => ?_
  apply wpS_seq
  apply wpS_region
  simp [wpOpsS, go_sem, recoverD, hu, Try.ntmps27, Exit.thenS]
  refine wpS_cond (t := false) (by simp [Act.eval, Array.replicate]) ?_
  simp only [Bool.false_eq_true, if_false]
  refine wpS_of_wp (wp_skip ?_)
  cases c₀
  simp_all [bodyPostS, results, Try.results27]
set_option maxRecDepth 20000 in
set_option maxHeartbeats 6400000 in
theorem qAsk {gf : Nat} {lb : Array Value} {R : Rdr} {c : Nat} {St : World → List Nat → List Int → Prop} (A : Asker gf lb R c St) {F : List Nat} {qs : List Int} (l : Int) (w : World) (hS : St w F qs) (hc : c ≤ w.heap.size) (hq : qs.length < 4096) (h1 : 1 ≤ l) (h2 : I64 l) : Calls Try.prog 24 #[.func (.func gf) #[] lb, .int .i64 l] w fun e w' => ∃ (q : Int) (r : Lv) (F' : List Nat), e = .returned (.tuple #[.agg #[.int .i64 r.kind, .int .i64 r.birth, .int .i64 r.prev, .int .i64 r.id, .int .i64 r.page, .int .i64 r.frm, .slice r.b.p r.b.n r.b.c, .slice r.a.p r.a.n r.a.c, .int .i64 r.next, .slice r.r.p r.r.n r.r.c, .slice r.d.p r.d.n r.d.c], .int .i64 q]) ∧ R l = (q, r.rc) ∧ r.fits ∧ I64 q ∧ St w' F' (qs ++ [l]) ∧ Kept F w w' ∧ ∀ x ∈ F', x ∈ F ∨ w.heap.size ≤ x := by
  have hmf : ∀ (fn : Fn) (first cap : Array Value) (w : World), (Instr.makeFunc fn first cap).run Try.prog w = .ok (.func fn first cap) w := fun _ _ _ _ => rfl
  obtain ⟨w1, hw1⟩ : ∃ w1, w1 = (w.alloc (.cells #[.int .i64 0, .int .i64 0, .int .i64 0, .int .i64 0, .int .i64 0, .int .i64 0, .slice none 0 0, .slice none 0 0, .int .i64 0, .slice none 0 0, .slice none 0 0] 42)).alloc (.cells #[.int .i64 0] 49) := ⟨_, rfl⟩
  have K1 : Kept [] w w1 := by rw [hw1]; exact ((Kept.refl [] w).alloc _).alloc _
  have BA : Blk w1 w.heap.size 42 [.int .i64 0, .int .i64 0, .int .i64 0, .int .i64 0, .int .i64 0, .int .i64 0, .slice none 0 0, .slice none 0 0, .int .i64 0, .slice none 0 0, .slice none 0 0] := by rw [hw1]; exact (Blk.new w _ _).kept ((Kept.refl [] _).alloc _) (by simp)
  have BE : Blk w1 (w.heap.size + 1) 49 [.int .i64 0] := by rw [hw1]; have q := Blk.new (w.alloc (.cells #[.int .i64 0, .int .i64 0, .int .i64 0, .int .i64 0, .int .i64 0, .int .i64 0, .slice none 0 0, .slice none 0 0, .int .i64 0, .slice none 0 0, .slice none 0 0] 42)) 49 [.int .i64 0]; rw [World.size_alloc] at q; exact q
  have z1 : w1.heap.size = w.heap.size + 2 := by rw [hw1, World.size_alloc, World.size_alloc]
  have hlt := A.lt hS
  have S1 := A.kept hS K1 (by simp)
  have hA := A.ask l S1 hq h1 h2
  have hen := A.enters
  go_enter_defers Try.func24, Try.ntmps24
  go_upto_region 2 with fail
  rw [← hw1]
  clear hw1
  go_wp2_with fail
  refine hA.mono ?_
  clear hA
  rintro e w2 ⟨q, r, F', rfl, hR, hfit, hq64, S2, k2, hF⟩
  have nA : w.heap.size ∉ F := fun hm => by have := hlt _ hm; omega
  have nE : w.heap.size + 1 ∉ F := fun hm => by have := hlt _ hm; omega
  have BA2 := BA.kept k2 nA
  have BE2 := BE.kept k2 nE
  have nA' : w.heap.size ∉ F' := fun hm => by rcases hF _ hm with q | q; exact nA q; omega
  have nE' : w.heap.size + 1 ∉ F' := fun hm => by rcases hF _ hm with q | q; exact nE q; omega
  have a0 := BA2.cell (j := 0) rfl
  have a1 := BA2.cell (j := 1) rfl
  have a2 := BA2.cell (j := 2) rfl
  have a3 := BA2.cell (j := 3) rfl
  have a4 := BA2.cell (j := 4) rfl
  have a5 := BA2.cell (j := 5) rfl
  have a6 := BA2.cell (j := 6) rfl
  have a7 := BA2.cell (j := 7) rfl
  have a8 := BA2.cell (j := 8) rfl
  have a9 := BA2.cell (j := 9) rfl
  have a10 := BA2.cell (j := 10) rfl
  have f0 := BA2.free 0
  have f1 := BA2.free 1
  have f2 := BA2.free 2
  have f3 := BA2.free 3
  have f4 := BA2.free 4
  have f5 := BA2.free 5
  have f6 := BA2.free 6
  have f7 := BA2.free 7
  have f8 := BA2.free 8
  have f9 := BA2.free 9
  have f10 := BA2.free 10
  have ce := BE2.cell (j := 0) rfl
  have fe := BE2.free 0
  obtain ⟨BA3, k3⟩ := BA2.fill11 (.int .i64 r.kind) (.int .i64 r.birth) (.int .i64 r.prev) (.int .i64 r.id) (.int .i64 r.page) (.int .i64 r.frm) (.slice r.b.p r.b.n r.b.c) (.slice r.a.p r.a.n r.a.c) (.int .i64 r.next) (.slice r.r.p r.r.n r.r.c) (.slice r.d.p r.d.n r.d.c)
  obtain ⟨w3, hw3⟩ : ∃ wF, wF = (((((((((((w2.setCell ⟨w.heap.size, 0, none⟩ (.int .i64 r.kind)).setCell ⟨w.heap.size, 1, none⟩ (.int .i64 r.birth)).setCell ⟨w.heap.size, 2, none⟩ (.int .i64 r.prev)).setCell ⟨w.heap.size, 3, none⟩ (.int .i64 r.id)).setCell ⟨w.heap.size, 4, none⟩ (.int .i64 r.page)).setCell ⟨w.heap.size, 5, none⟩ (.int .i64 r.frm)).setCell ⟨w.heap.size, 6, none⟩ (.slice r.b.p r.b.n r.b.c)).setCell ⟨w.heap.size, 7, none⟩ (.slice r.a.p r.a.n r.a.c)).setCell ⟨w.heap.size, 8, none⟩ (.int .i64 r.next)).setCell ⟨w.heap.size, 9, none⟩ (.slice r.r.p r.r.n r.r.c)).setCell ⟨w.heap.size, 10, none⟩ (.slice r.d.p r.d.n r.d.c)) := ⟨_, rfl⟩
  rw [← hw3] at BA3 k3
  have BE3 := BE2.kept k3 (by simp)
  have BE40 := BE3.set 0 (.int .i64 q)
  obtain ⟨w4, hw4⟩ : ∃ wx, wx = w3.setCell ⟨w.heap.size + 1, 0, none⟩ (.int .i64 q) := ⟨_, rfl⟩
  rw [← hw4] at BE40
  obtain ⟨BE4, k4⟩ := BE40
  have BE4' : Blk w4 (w.heap.size + 1) 49 [.int .i64 q] := BE4
  have BA4 := BA3.kept k4 (by simp)
  have S4 := A.kept (A.kept S2 k3 (fun x hx => by simp at hx; subst hx; exact ⟨hc, nA'⟩)) k4 (fun x hx => by simp at hx; subst hx; exact ⟨by omega, nE'⟩)
  have K4 : Kept F w w4 := (((K1.mono (T := F) (by simp)).trans k2 (fun x hx => .inl hx)).trans k3 (fun x hx => .inr (by simp at hx; omega))).trans k4 (fun x hx => .inr (by simp at hx; omega))
  have FIN := @hideH _ (And.intro hR (And.intro hfit (And.intro hq64 (And.intro S4 (And.intro K4 (show ∀ x ∈ F', x ∈ F ∨ w.heap.size ≤ x from fun x hx => by rcases hF x hx with q | q; exact .inl q; exact .inr (by omega)))))))
  clear hR hfit hq64 S4 K4 hF S2 S1 hS nA nE nA' nE' k2 k3 k4 BA BE BA2 BE2 BA3 BE3 BE4 K1 hlt hen A
  skip
  skip
  go_wp2
  rw [← hw3, ← hw4]
  clear hw3 hw4 a0 a1 a2 a3 a4 a5 a6 a7 a8 a9 a10 f0 f1 f2 f3 f4 f5 f6 f7 f8 f9 f10 ce fe
  have q0 := BA4.cell (j := 0) rfl
  have q1 := BA4.cell (j := 1) rfl
  have q2 := BA4.cell (j := 2) rfl
  have q3 := BA4.cell (j := 3) rfl
  have q4 := BA4.cell (j := 4) rfl
  have q5 := BA4.cell (j := 5) rfl
  have q6 := BA4.cell (j := 6) rfl
  have q7 := BA4.cell (j := 7) rfl
  have q8 := BA4.cell (j := 8) rfl
  have q9 := BA4.cell (j := 9) rfl
  have q10 := BA4.cell (j := 10) rfl
  have qe := BE4'.cell (j := 0) rfl
  refine leaves_cons (f := 27) (args := #[.pointer (some ⟨w.heap.size, 0, none⟩), .pointer (some ⟨w.heap.size + 1, 0, none⟩)]) (by simp) (by simp [go_sem]) ?_
  refine (ask_idle _ _ _).mono ?_
  rintro e u' w8 ⟨rfl, rfl, rfl⟩
  exact ⟨.tuple #[_, .int .i64 q], by (simp [results, Try.results24, go_sem, q0, q1, q2, q3, q4, q5, q6, q7, q8, q9, q10, qe]; try rfl), _, _, _, rfl, FIN.out⟩
end Go.Proofs.Ytinlhojojeabcaa

/-
  OWN WORK (by mkcq2.py). chain: birthOf, isOwn, goTo.
-/
namespace Go.Proofs.Ytinlhojojeabcaa
open Go.RowKit
set_option linter.unusedVariables false
set_option linter.unusedSimpArgs false

set_option maxRecDepth 20000 in
set_option maxHeartbeats 3200000 in
theorem qBirth (r : Lv) (l : Int) (w : World) : Calls Try.prog 25 #[.agg #[.int .i64 r.kind, .int .i64 r.birth, .int .i64 r.prev, .int .i64 r.id, .int .i64 r.page, .int .i64 r.frm, .slice r.b.p r.b.n r.b.c, .slice r.a.p r.a.n r.a.c, .int .i64 r.next, .slice r.r.p r.r.n r.r.c, .slice r.d.p r.d.n r.d.c], .int .i64 l] w fun e w' => e = .returned (.int .i64 (birthOf r.rc l)) ∧ Kept [] w w' := by
  obtain ⟨w1, hw1⟩ : ∃ wx, wx = w.alloc (.cells #[.int .i64 r.kind, .int .i64 r.birth, .int .i64 r.prev, .int .i64 r.id, .int .i64 r.page, .int .i64 r.frm, .slice r.b.p r.b.n r.b.c, .slice r.a.p r.a.n r.a.c, .int .i64 r.next, .slice r.r.p r.r.n r.r.c, .slice r.d.p r.d.n r.d.c] 42) := ⟨_, rfl⟩
  have k1 : Kept [] w w1 := by rw [hw1]; exact (Kept.refl [] w).alloc _
  have B1 : Blk w1 w.heap.size 42 [.int .i64 r.kind, .int .i64 r.birth, .int .i64 r.prev, .int .i64 r.id, .int .i64 r.page, .int .i64 r.frm, .slice r.b.p r.b.n r.b.c, .slice r.a.p r.a.n r.a.c, .int .i64 r.next, .slice r.r.p r.r.n r.r.c, .slice r.d.p r.d.n r.d.c] := by rw [hw1]; exact Blk.new w _ _
  have x0 := B1.cell (j := 0) rfl
  have x1 := B1.cell (j := 1) rfl
  by_cases hk : r.kind = 1
  · have HE := @hideH _ (show birthOf r.rc l = l from if_pos hk)
    have hk' : (r.kind == 1) = true := by simpa using hk
    clear hk
    go_enter Try.func25, Try.ntmps25
    go_upto_region 1 with fail
    rw [← hw1]
    clear hw1
    go_wp2
    go_ret
    exact ⟨by rw [HE.out]; rfl, k1⟩
  · have HE := @hideH _ (show birthOf r.rc l = r.birth from if_neg hk)
    have hk' : (r.kind == 1) = false := by simpa using hk
    clear hk
    go_enter Try.func25, Try.ntmps25
    go_upto_region 1 with fail
    rw [← hw1]
    clear hw1
    go_wp2
    go_ret
    exact ⟨by rw [HE.out]; rfl, k1⟩
set_option maxRecDepth 20000 in
set_option maxHeartbeats 3200000 in
theorem qGoNo {gf : Nat} {lb : Array Value} (g : Nat) (k l B p : Int) (w : World) (hB : Blk w g 60 [.func (.func gf) #[] lb, .int .i64 k, .int .i64 l, .int .i64 B]) (h : p < B ∨ l ≤ p) : Calls Try.prog 23 #[.pointer (some ⟨g, 0, none⟩), .int .i64 p] w fun e w' => e = .returned (.bool false) ∧ w' = w := by
  have x2 := hB.cell (j := 2) rfl
  have x3 := hB.cell (j := 3) rfl
  have hlt := hB.lt
  clear hB
  by_cases c1 : p < B
  · clear h
    go_enter Try.func23, Try.ntmps23
    go_wp2
    go_ret
    exact ⟨rfl, rfl⟩
  · have c2 : l ≤ p := h.resolve_left c1
    clear h
    go_enter Try.func23, Try.ntmps23
    go_wp2
    go_ret
    exact ⟨rfl, rfl⟩
set_option maxRecDepth 20000 in
set_option maxHeartbeats 3200000 in
theorem qGoTo {gf : Nat} {lb : Array Value} (g : Nat) (k l B p : Int) (w : World) (hB : Blk w g 60 [.func (.func gf) #[] lb, .int .i64 k, .int .i64 l, .int .i64 B]) (h1 : ¬ p < B) (h2 : ¬ l ≤ p) : Calls Try.prog 23 #[.pointer (some ⟨g, 0, none⟩), .int .i64 p] w fun e w' => e = .returned (.bool true) ∧ Blk w' g 60 [.func (.func gf) #[] lb, .int .i64 k, .int .i64 p, .int .i64 B] ∧ Kept [g] w w' := by
  have x2 := hB.cell (j := 2) rfl
  have x3 := hB.cell (j := 3) rfl
  have f2 := hB.free 2
  have hlt := hB.lt
  have b0 := hB.set 2 (.int .i64 p)
  obtain ⟨w1, hw1⟩ : ∃ wx, wx = w.setCell ⟨g, 2, none⟩ (.int .i64 p) := ⟨_, rfl⟩
  rw [← hw1] at b0
  have HB := @hideH _ (And.intro (show Blk w1 g 60 [.func (.func gf) #[] lb, .int .i64 k, .int .i64 p, .int .i64 B] from b0.1) b0.2)
  clear b0 hB
  go_enter Try.func23, Try.ntmps23
  go_wp2
  rw [← hw1]
  go_ret
  exact ⟨rfl, HB.out.1, HB.out.2⟩
theorem bl_of {p : Prop} [Decidable p] (b : Bool) (h : b = true ↔ p) : Value.bool b = Value.bool (decide p) := by
  congr 1
  cases b with
  | true => exact (decide_eq_true (h.1 rfl)).symm
  | false => exact (decide_eq_false fun c => nomatch h.2 c).symm
set_option maxRecDepth 20000 in
set_option maxHeartbeats 6400000 in
theorem qIsOwn {gf : Nat} {lb : Array Value} (g : Nat) (k l B : Int) (r : Lv) (w : World) (hB : Blk w g 60 [.func (.func gf) #[] lb, .int .i64 k, .int .i64 l, .int .i64 B]) : Calls Try.prog 26 #[.pointer (some ⟨g, 0, none⟩), .agg #[.int .i64 r.kind, .int .i64 r.birth, .int .i64 r.prev, .int .i64 r.id, .int .i64 r.page, .int .i64 r.frm, .slice r.b.p r.b.n r.b.c, .slice r.a.p r.a.n r.a.c, .int .i64 r.next, .slice r.r.p r.r.n r.r.c, .slice r.d.p r.d.n r.d.c]] w fun e w' => e = .returned (.bool (decide (hangs r.rc l B))) ∧ Kept [] w w' := by
  obtain ⟨w1, hw1⟩ : ∃ wx, wx = w.alloc (.cells #[.int .i64 r.kind, .int .i64 r.birth, .int .i64 r.prev, .int .i64 r.id, .int .i64 r.page, .int .i64 r.frm, .slice r.b.p r.b.n r.b.c, .slice r.a.p r.a.n r.a.c, .int .i64 r.next, .slice r.r.p r.r.n r.r.c, .slice r.d.p r.d.n r.d.c] 42) := ⟨_, rfl⟩
  have k1 : Kept [] w w1 := by rw [hw1]; exact (Kept.refl [] w).alloc _
  have B1 : Blk w1 w.heap.size 42 [.int .i64 r.kind, .int .i64 r.birth, .int .i64 r.prev, .int .i64 r.id, .int .i64 r.page, .int .i64 r.frm, .slice r.b.p r.b.n r.b.c, .slice r.a.p r.a.n r.a.c, .int .i64 r.next, .slice r.r.p r.r.n r.r.c, .slice r.d.p r.d.n r.d.c] := by rw [hw1]; exact Blk.new w _ _
  have hB1 := hB.kept k1 (by simp)
  have x0 := B1.cell (j := 0) rfl
  have x1 := B1.cell (j := 1) rfl
  have y2 := hB1.cell (j := 2) rfl
  have y3 := hB1.cell (j := 3) rfl
  have hlt := hB1.lt
  have hlt0 := hB.lt
  have HK := @hideH _ k1
  clear hB hB1 B1 k1
  obtain ⟨z, hz⟩ : ∃ z, z = decide (hangs r.rc l B) := ⟨_, rfl⟩
  rw [← hz]
  have HZ := @hideH _ hz
  clear hz
  obtain ⟨kd, hkd⟩ : ∃ kd, kd = r.kind := ⟨_, rfl⟩
  obtain ⟨bi, hbi⟩ : ∃ bi, bi = r.birth := ⟨_, rfl⟩
  rw [← hkd] at x0
  rw [← hbi] at x1
  have HD := @hideH _ (show hangs r.rc l B ↔ ((1 ≤ kd ∧ kd ≤ 6) ∧ (kd = 1 → l = B) ∧ (kd ≠ 1 → bi = B ∧ 1 ≤ B ∧ B < l)) by rw [hkd, hbi]; exact Iff.rfl)
  clear hkd hbi
  by_cases c1 : kd = 1
  · subst c1
    by_cases cb : l = B
    · subst cb
      have HT := @hideH _ (show z = true from HZ.out.trans (decide_eq_true (HD.out.2 ⟨⟨by omega, by omega⟩, fun _ => rfl, fun c => absurd rfl c⟩)))
      go_enter Try.func26, Try.ntmps26
      go_upto_region 1 with fail
      rw [← hw1]
      clear hw1
      go_upto_region 3 with fail
      go_quiet (fail)
      go_wp2
      go_ret
      exact ⟨by rw [HT.out]; simp, HK.out.drewN' _⟩
    · have cb' : (l == B) = false := by simpa using cb
      have HT := @hideH _ (show z = false from HZ.out.trans (decide_eq_false fun c => cb ((HD.out.1 c).2.1 rfl)))
      clear cb
      go_enter Try.func26, Try.ntmps26
      go_upto_region 1 with fail
      rw [← hw1]
      clear hw1
      go_upto_region 3 with fail
      go_quiet (fail)
      go_wp2
      go_ret
      exact ⟨by rw [HT.out]; rfl, HK.out.drewN' _⟩
  · have c1' : (kd == 1) = false := by simpa using c1
    by_cases ck : kd = 2 ∨ kd = 3 ∨ kd = 4 ∨ kd = 5 ∨ kd = 6
    case neg =>
      have HT := @hideH _ (show z = false from HZ.out.trans (decide_eq_false fun c => by have := (HD.out.1 c).1; omega))
      have e2 : (kd == 2) = false := by simp; omega
      have e3 : (kd == 3) = false := by simp; omega
      have e4 : (kd == 4) = false := by simp; omega
      have e5 : (kd == 5) = false := by simp; omega
      have e6 : (kd == 6) = false := by simp; omega
      clear ck c1
      go_enter Try.func26, Try.ntmps26
      go_upto_region 1 with fail
      rw [← hw1]
      clear hw1
      go_wp2
      go_ret
      exact ⟨by rw [HT.out]; rfl, HK.out⟩
    case pos =>
      have HCK := @hideH _ (show (1 ≤ kd ∧ kd ≤ 6) ∧ kd ≠ 1 by omega)
      by_cases cb : bi = B
      case neg =>
        have HT := @hideH _ (show z = false from HZ.out.trans (decide_eq_false fun c => cb ((HD.out.1 c).2.2 HCK.out.2).1))
        have cb' : (bi == B) = false := by simpa using cb
        clear cb
        rcases ck with rfl | rfl | rfl | rfl | rfl
        · clear c1 c1'
          go_enter Try.func26, Try.ntmps26
          go_upto_region 1 with fail
          rw [← hw1]
          clear hw1
          go_upto_region 9 with fail
          go_quiet (fail)
          go_wp2
          go_ret
          exact ⟨by rw [HT.out]; first | rfl | simp, HK.out.drewN' _⟩
        · clear c1 c1'
          go_enter Try.func26, Try.ntmps26
          go_upto_region 1 with fail
          rw [← hw1]
          clear hw1
          go_upto_region 9 with fail
          go_quiet (fail)
          go_wp2
          go_ret
          exact ⟨by rw [HT.out]; first | rfl | simp, HK.out.drewN' _⟩
        · clear c1 c1'
          go_enter Try.func26, Try.ntmps26
          go_upto_region 1 with fail
          rw [← hw1]
          clear hw1
          go_upto_region 9 with fail
          go_quiet (fail)
          go_wp2
          go_ret
          exact ⟨by rw [HT.out]; first | rfl | simp, HK.out.drewN' _⟩
        · clear c1 c1'
          go_enter Try.func26, Try.ntmps26
          go_upto_region 1 with fail
          rw [← hw1]
          clear hw1
          go_upto_region 9 with fail
          go_quiet (fail)
          go_wp2
          go_ret
          exact ⟨by rw [HT.out]; first | rfl | simp, HK.out.drewN' _⟩
        · clear c1 c1'
          go_enter Try.func26, Try.ntmps26
          go_upto_region 1 with fail
          rw [← hw1]
          clear hw1
          go_upto_region 9 with fail
          go_quiet (fail)
          go_wp2
          go_ret
          exact ⟨by rw [HT.out]; first | rfl | simp, HK.out.drewN' _⟩
      case pos =>
        by_cases cB : 1 ≤ B
        case neg =>
          have HT := @hideH _ (show z = false from HZ.out.trans (decide_eq_false fun c => cB ((HD.out.1 c).2.2 HCK.out.2).2.1))
          have cB' : decide (1 ≤ B) = false := decide_eq_false cB
          clear cB
          subst cb
          rcases ck with rfl | rfl | rfl | rfl | rfl
          · clear c1 c1'
            go_enter Try.func26, Try.ntmps26
            go_upto_region 1 with fail
            rw [← hw1]
            clear hw1
            go_upto_region 9 with fail
            go_quiet (fail)
            go_wp2
            go_ret
            exact ⟨by rw [HT.out]; first | rfl | simp, HK.out.drewN' _⟩
          · clear c1 c1'
            go_enter Try.func26, Try.ntmps26
            go_upto_region 1 with fail
            rw [← hw1]
            clear hw1
            go_upto_region 9 with fail
            go_quiet (fail)
            go_wp2
            go_ret
            exact ⟨by rw [HT.out]; first | rfl | simp, HK.out.drewN' _⟩
          · clear c1 c1'
            go_enter Try.func26, Try.ntmps26
            go_upto_region 1 with fail
            rw [← hw1]
            clear hw1
            go_upto_region 9 with fail
            go_quiet (fail)
            go_wp2
            go_ret
            exact ⟨by rw [HT.out]; first | rfl | simp, HK.out.drewN' _⟩
          · clear c1 c1'
            go_enter Try.func26, Try.ntmps26
            go_upto_region 1 with fail
            rw [← hw1]
            clear hw1
            go_upto_region 9 with fail
            go_quiet (fail)
            go_wp2
            go_ret
            exact ⟨by rw [HT.out]; first | rfl | simp, HK.out.drewN' _⟩
          · clear c1 c1'
            go_enter Try.func26, Try.ntmps26
            go_upto_region 1 with fail
            rw [← hw1]
            clear hw1
            go_upto_region 9 with fail
            go_quiet (fail)
            go_wp2
            go_ret
            exact ⟨by rw [HT.out]; first | rfl | simp, HK.out.drewN' _⟩
        case pos =>
          have cB' : decide (1 ≤ B) = true := decide_eq_true cB
          by_cases cl : B < l
          case neg =>
            have HT := @hideH _ (show z = false from HZ.out.trans (decide_eq_false fun c => cl ((HD.out.1 c).2.2 HCK.out.2).2.2))
            have cl' : decide (B < l) = false := decide_eq_false cl
            clear cB cl
            subst cb
            rcases ck with rfl | rfl | rfl | rfl | rfl
            · clear c1 c1'
              go_enter Try.func26, Try.ntmps26
              go_upto_region 1 with fail
              rw [← hw1]
              clear hw1
              go_upto_region 9 with fail
              go_quiet (fail)
              go_wp2
              go_ret
              exact ⟨by rw [HT.out]; first | rfl | simp, HK.out.drewN' _⟩
            · clear c1 c1'
              go_enter Try.func26, Try.ntmps26
              go_upto_region 1 with fail
              rw [← hw1]
              clear hw1
              go_upto_region 9 with fail
              go_quiet (fail)
              go_wp2
              go_ret
              exact ⟨by rw [HT.out]; first | rfl | simp, HK.out.drewN' _⟩
            · clear c1 c1'
              go_enter Try.func26, Try.ntmps26
              go_upto_region 1 with fail
              rw [← hw1]
              clear hw1
              go_upto_region 9 with fail
              go_quiet (fail)
              go_wp2
              go_ret
              exact ⟨by rw [HT.out]; first | rfl | simp, HK.out.drewN' _⟩
            · clear c1 c1'
              go_enter Try.func26, Try.ntmps26
              go_upto_region 1 with fail
              rw [← hw1]
              clear hw1
              go_upto_region 9 with fail
              go_quiet (fail)
              go_wp2
              go_ret
              exact ⟨by rw [HT.out]; first | rfl | simp, HK.out.drewN' _⟩
            · clear c1 c1'
              go_enter Try.func26, Try.ntmps26
              go_upto_region 1 with fail
              rw [← hw1]
              clear hw1
              go_upto_region 9 with fail
              go_quiet (fail)
              go_wp2
              go_ret
              exact ⟨by rw [HT.out]; first | rfl | simp, HK.out.drewN' _⟩
          case pos =>
            have HT := @hideH _ (show z = true from HZ.out.trans (decide_eq_true (HD.out.2 ⟨HCK.out.1, fun c => absurd c HCK.out.2, fun _ => ⟨cb, cB, cl⟩⟩)))
            have cl' : decide (B < l) = true := decide_eq_true cl
            clear cB cl
            subst cb
            rcases ck with rfl | rfl | rfl | rfl | rfl
            · clear c1 c1'
              go_enter Try.func26, Try.ntmps26
              go_upto_region 1 with fail
              rw [← hw1]
              clear hw1
              go_upto_region 9 with fail
              go_quiet (fail)
              go_wp2
              go_ret
              exact ⟨by rw [HT.out]; first | rfl | simp, HK.out.drewN' _⟩
            · clear c1 c1'
              go_enter Try.func26, Try.ntmps26
              go_upto_region 1 with fail
              rw [← hw1]
              clear hw1
              go_upto_region 9 with fail
              go_quiet (fail)
              go_wp2
              go_ret
              exact ⟨by rw [HT.out]; first | rfl | simp, HK.out.drewN' _⟩
            · clear c1 c1'
              go_enter Try.func26, Try.ntmps26
              go_upto_region 1 with fail
              rw [← hw1]
              clear hw1
              go_upto_region 9 with fail
              go_quiet (fail)
              go_wp2
              go_ret
              exact ⟨by rw [HT.out]; first | rfl | simp, HK.out.drewN' _⟩
            · clear c1 c1'
              go_enter Try.func26, Try.ntmps26
              go_upto_region 1 with fail
              rw [← hw1]
              clear hw1
              go_upto_region 9 with fail
              go_quiet (fail)
              go_wp2
              go_ret
              exact ⟨by rw [HT.out]; first | rfl | simp, HK.out.drewN' _⟩
            · clear c1 c1'
              go_enter Try.func26, Try.ntmps26
              go_upto_region 1 with fail
              rw [← hw1]
              clear hw1
              go_upto_region 9 with fail
              go_quiet (fail)
              go_wp2
              go_ret
              exact ⟨by rw [HT.out]; first | rfl | simp, HK.out.drewN' _⟩
end Go.Proofs.Ytinlhojojeabcaa

/-
  OWN WORK. As Late: two operations that may come up; reads taken behind the last one.
-/
namespace Go.Proofs.Ytinlhojojeabcaa
open Go.RowKit
set_option linter.unusedVariables false

section
variable {P : Program} {ops : Array Oper} {Q : Exit → Act → World → Prop} {md : Region.Mode} {S : World → Prop} {z : Nat}
theorem wpAnyZ_firstD {i : Nat} {oi : Oper} {v : Value} (hi : ops[i]? = some oi) (hsel : ∀ (j : Nat) (o : Oper) cs b, ops[j]? = some o → o.op ≠ .select cs b)
    (hQ : ∀ c a w, Q (.panic c) (a.put oi.dst v) w → Q (.panic c) a w) :
    ∀ (n : Nat) (listed : Array Bool) (a : Act) (w : World),
      listed.getD z true = true →
      (∀ j oj, ops[j]? = some oj → j ≠ i → listed.getD j true = false → (∀ e ∈ oj.after, Region.binds md e = true → e.on ≠ i) → oi.apart ops oj = true) →
      i ∈ Region.ready md ops listed → YieldsIf P ops S oi v a → S w →
      wpAnyZ P md ops Q S z n (listed.setIfInBounds i true) (a.put oi.dst v) w → wpAnyZ P md ops Q S z (n + 1) listed a w := by
  intro n
  induction n with
  | zero =>
    intro listed a w _ _ hr hy hS H
    refine ⟨fun h => (by rw [h] at hr; cases hr), fun j hj => ?_⟩
    by_cases e : j = i
    · subst e; exact hy.wpOp hi hS ⟨fun _ => hS, H⟩
    · have := ready_mono hj e
      rw [H.1] at this
      cases this
  | succ n ih =>
    intro listed a w hz hfree hr hy hS H
    have hun := (mem_ready.1 hr).1
    have hunf : listed.getD i false = false := by
      rcases Nat.lt_or_ge i listed.size with c | c
      · simp [c] at hun ⊢; exact hun
      · simp [c]
    refine ⟨fun h => (by rw [h] at hr; cases hr), fun j hj => ?_⟩
    by_cases e : j = i
    · subst e; exact hy.wpOp hi hS ⟨fun _ => hS, H⟩
    · obtain ⟨hju, oj, hoj, hall⟩ := mem_ready.1 hj
      have hjz : j ≠ z := fun c => by rw [c, hz] at hju; cases hju
      have hno : ∀ e ∈ oj.after, Region.binds md e = true → e.on ≠ i := fun e he hb c => by
        have := hall e he hb
        rw [c, hunf] at this
        cases this
      have h2 := wpOp_putIf hoj (hfree j oj hoj e hju hno) (fun cs b => hsel i oi cs b hi) (fun cs b => hsel j oj cs b hoj) hQ hy (H.2 j (ready_mono hj e))
      have hfree2 : ∀ k ok, ops[k]? = some ok → k ≠ i → (listed.setIfInBounds j true).getD k true = false → (∀ e ∈ ok.after, Region.binds md e = true → e.on ≠ i) → oi.apart ops ok = true := fun k ok hk hki hkj hnk => by
        by_cases c : j = k
        · subst c; exact hfree j ok hk hki hju hnk
        · exact hfree k ok hk hki (by rwa [getD_set_ne true c] at hkj) hnk
      refine wpOp_mono (fun a' w' h3 => ⟨h3.2.1, ih (listed.setIfInBounds j true) a' w' (by rw [getD_set_ne true hjz]; exact hz) hfree2 (ready_mono hr (Ne.symm e)) h3.1 (h3.2.1 hjz) ?_⟩) h2
      rw [Array.setIfInBounds_comm _ _ e]
      exact h3.2.2
/-- take number i first, where z is done -/
theorem wpAnyZ_takeD (i : Nat) {oi : Oper} {v : Value} {n : Nat} {listed : Array Bool} {a : Act} {w : World} (hi : ops[i]? = some oi)
    (hs : Region.noSelect ops = true) (hz : listed.getD z true = true) (hf : Region.free md ops listed i = true) (hr : (Region.ready md ops listed).contains i = true)
    (hQ : ∀ c a w, Q (.panic c) (a.put oi.dst v) w → Q (.panic c) a w) (hw : Region.wanted oi (yielded ops a.tmps) = true) (hy : ∀ w, S w → (execOp a.eval oi).run P w = .ok (.value v) w) (hS : S w)
    (h : wpAnyZ P md ops Q S z n (listed.setIfInBounds i true) (a.put oi.dst v) w) : wpAnyZ P md ops Q S z (n + 1) listed a w :=
  wpAnyZ_firstD hi (Region.noSelect_spec hs) hQ n listed a w hz (Region.free_spec hi hf) (by simpa using hr) (.inl ⟨hw, hy⟩) hS h
/-- only numbers i and j may come up -/
theorem wpAnyZ_two (i j : Nat) {oi oj : Oper} {n : Nat} {listed : Array Bool} {a : Act} {w : World} (hi : ops[i]? = some oi) (hj : ops[j]? = some oj) (hr : Region.ready md ops listed = [i, j])
    (h1 : ∀ K : Act → World → Prop, (∀ a' w', (i ≠ z → S w') → wpAnyZ P md ops Q S z n (listed.setIfInBounds i true) a' w' → K a' w') → if Region.wanted oi (yielded ops a.tmps) = true then Oper.wp P oi a w K Q else K (a.put oi.dst undef) w)
    (h2 : ∀ K : Act → World → Prop, (∀ a' w', (j ≠ z → S w') → wpAnyZ P md ops Q S z n (listed.setIfInBounds j true) a' w' → K a' w') → if Region.wanted oj (yielded ops a.tmps) = true then Oper.wp P oj a w K Q else K (a.put oj.dst undef) w) : wpAnyZ P md ops Q S z (n + 1) listed a w := by
  refine ⟨fun c => absurd (hr.symm.trans c) (by simp), fun k hk => ?_⟩
  rw [hr] at hk
  simp at hk
  rcases hk with rfl | rfl
  · exact wpOp_step hi fun K hK => h1 K fun a' w' q1 q2 => hK a' w' ⟨q1, q2⟩
  · exact wpOp_step hj fun K hK => h2 K fun a' w' q1 q2 => hK a' w' ⟨q1, q2⟩
end
end Go.Proofs.Ytinlhojojeabcaa

