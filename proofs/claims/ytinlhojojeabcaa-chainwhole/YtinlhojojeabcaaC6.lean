import Derived.WalkMore
import Derived.Test.YtinlhojojeabcaaRows
import Derived.Test.YtinlhojojeabcaaC5
/-
  OWN WORK (by mkcq4.py). chain: Back.
-/
namespace Go.Proofs.Ytinlhojojeabcaa
open Go.RowKit
set_option linter.unusedVariables false
set_option linter.unusedSimpArgs false

def roomOf (v : Value) : Nat := match v with
  | .slice _ n _ => 4096 - n
  | _ => 0
section
variable {gf : Nat} {lb : Array Value} {R : Rdr} {c : Nat} {St : World → List Nat → List Int → Prop}
set_option maxRecDepth 20000 in
set_option maxHeartbeats 6400000 in
theorem qBack (A : Asker gf lb R c St) (F : List Nat) (last : Int) (w : World) (hS : St w F []) (hc : c ≤ w.heap.size) (hl : I64 last) : Calls Try.prog 20 #[.func (.func gf) #[] lb, .int .i64 last] w fun e w' => ∃ v F', e = .returned (.tuple #[v, .int .i64 (backL R last).2.1]) ∧ Ns w' w.heap.size v (backL R last).1 ∧ St w' F' (backL R last).2.2 ∧ Kept F w w' ∧ (∀ x ∈ F', x ∈ F ∨ w.heap.size ≤ x) ∧ ∀ x, v.ownBlock = some x → x ∉ F' := by
  obtain ⟨inf, hin1, hin2, hin3, hin4⟩ := info_parts3 (show (Try.prog.info? 3).map (fun i => (i.zero, i.size, i.bytes)) = some (some (.int .i64 0), 1, 8) by kernel_rfl)
  have HI := @hideH _ (And.intro hin1 (And.intro hin2 (And.intro hin3 hin4)))
  clear hin1 hin2 hin3 hin4
  have hst : ∀ (a : Addr) (m : Mode) (w : World), (store a (.func (.func gf) #[] lb) m).run Try.prog w = stored Try.prog w a (.func (.func gf) #[] lb) m := fun a m w => run_store _ w a _ m rfl
  by_cases c1 : last = 0
  · subst c1
    have HA := @hideH _ (show backL R 0 = ([], 0, []) from rfl)
    go_enter Try.func20, Try.ntmps20
    go_wp2
    go_step3
    go_wp2
    try rw [Exit.noGoto_ret]
    (try rw [Exit.noGoto_ret]); refine bodyPost_ret (by simp [results, Try.results20, go_sem]; try rfl) rfl ?_
    rw [HA.out]
    exact ⟨_, F, rfl, Ns.nil _ _, hS, Kept.refl _ _, fun x hx => .inl hx, fun x hx => by cases hx⟩
  obtain ⟨w1, hw1⟩ : ∃ wx, wx = w.alloc (.cells #[.func (.func gf) #[] lb, .int .i64 0, .int .i64 last, .int .i64 0] 60) := ⟨_, rfl⟩
  have k1 : Kept [] w w1 := by rw [hw1]; exact (Kept.refl [] w).alloc _
  have B1 : Blk w1 w.heap.size 60 [.func (.func gf) #[] lb, .int .i64 0, .int .i64 last, .int .i64 0] := by rw [hw1]; exact Blk.new w _ _
  have z1 : w1.heap.size = w.heap.size + 1 := by rw [hw1, World.size_alloc]
  have S1 := A.kept hS k1 (by simp)
  have hlt := A.lt hS
  have c1' : (last == 0) = false := by simpa using c1
  have HC := @hideH _ (And.intro hc (And.intro hlt hl))
  by_cases c0 : last < 0
  · have HA := @hideH _ (show backL R last = ([], 120, []) from if_pos c0)
    have hN := qRecNo (gf := gf) (lb := lb) w.heap.size 0 last 0 w1 B1 (.inl c0)
    clear c0 c1
    go_enter Try.func20, Try.ntmps20
    go_wp2
    go_step3
    go_upto_region 4 with fail
    rw [← hw1]
    clear hw1
    go_wp2
    go_step3
    go_wp2
    go_loopw [7] (fun vo wr => vo = .slice none 0 0 ∧ wr = w1) (fun _ _ => 0)
    case atStart => exact ⟨rfl, rfl⟩
    case round =>
      obtain ⟨rfl, rfl⟩ := hrel
      go_wp2_with fail
      refine hN.mono ?_
      clear hN
      rintro e w2 ⟨rfl, k2⟩
      have HK := @hideH _ (And.intro (A.kept (A.kept S1 k2 (by simp)) ((Kept.refl [] w2).alloc (.cells #[.int .i64 0, .int .i64 0, .int .i64 0, .int .i64 0, .int .i64 0, .int .i64 0, .slice none 0 0, .slice none 0 0, .int .i64 0, .slice none 0 0, .slice none 0 0] 42)) (by simp)) ((k1.then k2).alloc (.cells #[.int .i64 0, .int .i64 0, .int .i64 0, .int .i64 0, .int .i64 0, .int .i64 0, .slice none 0 0, .slice none 0 0, .int .i64 0, .slice none 0 0, .slice none 0 0] 42)))
      clear k1 k2 B1 S1
      go_wp2
      (try rw [Exit.noGoto_ret]); refine bodyPost_ret (by simp [results, Try.results20, go_sem]; try rfl) rfl ?_
      rw [HA.out]
      exact ⟨_, F, rfl, Ns.nil _ _, HK.out.1, HK.out.2.mono (by simp), fun x hx => .inl hx, fun x hx => by cases hx⟩
  have HA := @hideH _ (show backF R 4096 last 0 true [] [] = backL R last from ((if_neg c0).trans (if_neg c1)).symm)
  have HP := @hideH _ (show 0 < last from by omega)
  have H1 := @hideH _ (And.intro B1 (And.intro S1 (And.intro k1 (show w.heap.size ∉ F from fun hm => by have := hlt _ hm; omega))))
  clear B1 S1 k1 c0 c1 hlt hc hl hS z1
  go_enter Try.func20, Try.ntmps20
  go_wp2
  go_step3
  go_upto_region 4 with fail
  rw [← hw1]
  clear hw1
  go_wp2
  go_step3
  go_wp2
  go_loopw [7] (fun vo wr => ∃ (k : Nat) (po : Option Addr) (co : Nat), vo = .slice po k co ∧ ∃ (l B : Int) (out asked : List Int) (F' : List Nat), Hid (0 < l ∧ k = asked.length ∧ k = out.length ∧ k ≤ 4096 ∧ I64 l ∧ backF R (4096 - k) l B (decide (k = 0)) out asked = backL R last ∧ Ns wr (w.heap.size + 1) (.slice po k co) out ∧ Blk wr w.heap.size 60 [.func (.func gf) #[] lb, .int .i64 k, .int .i64 l, .int .i64 B] ∧ St wr F' asked ∧ Kept F w wr ∧ (∀ x ∈ F', x ∈ F ∨ w.heap.size ≤ x) ∧ w.heap.size ∉ F' ∧ ∀ x, (Value.slice po k co).ownBlock = some x → x ∉ F')) (fun vo _ => roomOf vo)
  case atStart => exact ⟨0, _, _, rfl, last, 0, [], [], F, HP.out, rfl, rfl, by omega, HC.out.2.2, HA.out, Ns.nil _ _, H1.out.1, H1.out.2.1, H1.out.2.2.1.mono (by simp), fun x hx => .inl hx, H1.out.2.2.2, fun x hx => by cases hx⟩
  case round =>
    clear HA HP H1
    obtain ⟨k, po, co, rfl, l, B, out, asked, F', hh⟩ := hrel
    obtain ⟨hl0, ek, eo, hk, hl64, hF, no, hB, hSt, hK, hF', hg, ho⟩ := hh.out
    clear hh
    by_cases hk4 : k = 4096
    · have HA := @hideH _ (show backL R last = ([], 120, asked) by rw [← hF, hk4]; rfl)
      have hN := qRecNo (gf := gf) (lb := lb) w.heap.size (k : Int) l B wr hB (.inr (by omega))
      have HX := @hideH _ (And.intro hSt (And.intro hK (And.intro hF' hB)))
      clear hF hl0 ek eo hk hl64 no hB hSt hK hF' hg ho hk4
      go_wp2_with fail
      refine hN.mono ?_
      clear hN
      rintro e w2 ⟨rfl, k2⟩
      have HK := @hideH _ (And.intro (A.kept (A.kept HX.out.1 k2 (by simp)) ((Kept.refl [] w2).alloc (.cells #[.int .i64 0, .int .i64 0, .int .i64 0, .int .i64 0, .int .i64 0, .int .i64 0, .slice none 0 0, .slice none 0 0, .int .i64 0, .slice none 0 0, .slice none 0 0] 42)) (by simp)) ((HX.out.2.1.then k2).alloc (.cells #[.int .i64 0, .int .i64 0, .int .i64 0, .int .i64 0, .int .i64 0, .int .i64 0, .slice none 0 0, .slice none 0 0, .int .i64 0, .slice none 0 0, .slice none 0 0] 42)))
      clear k2
      go_wp2
      (try rw [Exit.noGoto_ret]); refine bodyPost_ret (by simp [results, Try.results20, go_sem]; try rfl) rfl ?_
      rw [HA.out]
      exact ⟨_, F', rfl, Ns.nil _ _, HK.out.1, HK.out.2, HX.out.2.2.1, fun x hx => by cases hx⟩
    have hR := qRec A w.heap.size k l B wr hSt ek.symm (by omega) hB HC.out.1 hg (by omega) hl64
    have HB := @hideH _ (show k < 4096 by omega)
    have HX := @hideH _ (And.intro ek (And.intro eo (And.intro hF (And.intro no (And.intro hK (And.intro hF' (And.intro hg (And.intro ho (And.intro hB hSt)))))))))
    have HF := @hideH _ (show 4096 - k = (4095 - k) + 1 from by have := HB.out; omega)
    have hsz := hB.lt
    have HWR := @hideH _ hsz
    clear hF hl0 ek eo hk hl64 no hB hSt hK hF' hg ho hk4 hsz
    go_wp2_with fail
    refine hR.mono ?_
    clear hR
    rintro e w2 ⟨E, r, F2, rfl, S2, k2, hF2, hway⟩
    obtain ⟨w3, hw3⟩ : ∃ wx, wx = w2.alloc (.cells #[.int .i64 r.kind, .int .i64 r.birth, .int .i64 r.prev, .int .i64 r.id, .int .i64 r.page, .int .i64 r.frm, .slice r.b.p r.b.n r.b.c, .slice r.a.p r.a.n r.a.c, .int .i64 r.next, .slice r.r.p r.r.n r.r.c, .slice r.d.p r.d.n r.d.c] 42) := ⟨_, rfl⟩
    have k3 : Kept [] w2 w3 := by rw [hw3]; exact (Kept.refl [] w2).alloc _
    have B3 : Blk w3 w2.heap.size 42 [.int .i64 r.kind, .int .i64 r.birth, .int .i64 r.prev, .int .i64 r.id, .int .i64 r.page, .int .i64 r.frm, .slice r.b.p r.b.n r.b.c, .slice r.a.p r.a.n r.a.c, .int .i64 r.next, .slice r.r.p r.r.n r.r.c, .slice r.d.p r.d.n r.d.c] := by rw [hw3]; exact Blk.new w2 _ _
    have K3 : Kept F w w3 := (HX.out.2.2.2.2.1.trans k2 (fun x hx => by rcases List.mem_cons.1 hx with q | q; exact .inr (by omega); exact HX.out.2.2.2.2.2.1 x q)).then k3
    have S3 := A.kept S2 k3 (by simp)
    have hF3 : ∀ x ∈ F2, x ∈ F ∨ w.heap.size ≤ x := fun x hx => by rcases hF2 x hx with q | q; exact HX.out.2.2.2.2.2.1 x q; exact .inr (by have := HWR.out; omega)
    have hg3 : w.heap.size ∉ F2 := fun hm => by rcases hF2 _ hm with q | q; exact HX.out.2.2.2.2.2.2.1 q; have := HWR.out; omega
    have hlo : ∀ x, (Value.slice po k co).ownBlock = some x → w.heap.size + 1 ≤ x ∧ x < wr.heap.size := fun x hx => HX.out.2.2.2.1.lt hx
    have ho3 : ∀ x, (Value.slice po k co).ownBlock = some x → x ∉ F2 := fun x hx hm => by rcases hF2 _ hm with q | q; exact HX.out.2.2.2.2.2.2.2.1 x hx q; have := (hlo x hx).2; omega
    have no3 := (HX.out.2.2.2.1.kept k2 (fun x hx hm => by rcases List.mem_cons.1 hm with q | q; (have := (hlo x hx).1; omega); exact HX.out.2.2.2.2.2.2.2.1 x hx q)).kept k3 (by simp)
    have HS3 := @hideH _ (And.intro K3 (And.intro S3 (And.intro hF3 (And.intro hg3 (And.intro ho3 (And.intro no3 hlo))))))
    have hk23 := Nat.le_trans k2.size k3.size
    have hk2s := k2.size
    go_upto_region 6 with fail
    rw [← hw3]
    clear hw3
    rcases hway with ⟨hE, hw⟩ | ⟨rfl, hfit, hR, hh, B2⟩
    · have HA := @hideH _ (show backL R last = ([], E, asked ++ [l]) by
        rw [← HX.out.2.2.1, HF.out]
        rcases hw with ⟨r', hr'⟩ | ⟨rfl, r', hr', hn⟩
        · exact backF_err hr' hE
        · exact backF_no hr' (backStep_hang hn))
      have hE' : (E != 0) = true := by simpa using hE
      clear hE hw K3 S3 hF3 hg3 ho3 no3 hlo k2 k3 S2 B3 hF2 hk23 hk2s
      go_wp2
      (try rw [Exit.noGoto_ret]); refine bodyPost_ret (by simp [results, Try.results20, go_sem]; try rfl) rfl ?_
      rw [HA.out]
      exact ⟨_, F2, rfl, Ns.nil _ _, HS3.out.2.1, HS3.out.1, HS3.out.2.2.1, fun x hx => by cases hx⟩
    · have B23 := B2.kept k3 (by simp)
      obtain ⟨B', hB'⟩ : ∃ B', B' = bornAt (decide (k = 0)) B r.rc l := ⟨_, rfl⟩
      rw [← hB'] at B23 hh
      have HBB := @hideH _ (And.intro hB' (And.intro hh (And.intro hR (And.intro hfit (And.intro B23 B3)))))
      have y2 := B23.cell (j := 2) rfl
      have x0 := B3.cell (j := 0) rfl
      have x2 := B3.cell (j := 2) rfl
      have hrow : Row w3 (w.heap.size + 1) 1 (.slice po k co) k (i64s out) := by have e := HX.out.2.1; have q := HS3.out.2.2.2.2.2.1; rw [e]; rw [e] at q; exact q
      have hbs3 : w.heap.size + 1 ≤ w3.heap.size := by have := HWR.out; omega
      have HNE := @hideH _ (show w2.heap.size ∉ (Value.slice po k co).ownBlock.toList ∧ w.heap.size ∉ (Value.slice po k co).ownBlock.toList from ⟨fun hm => by have := (hlo _ (Option.mem_toList.1 hm)).2; omega, fun hm => by have := (hlo _ (Option.mem_toList.1 hm)).1; omega⟩)
      have HW2 := @hideH _ (show w.heap.size < w2.heap.size from by have := HWR.out; omega)
      clear hh hR hfit B23 B3 hB' B2 K3 S3 hF3 hg3 ho3 no3 hlo k2 k3 S2 hF2 hk23 hk2s
      have hsrc5 := src_i64 (P := Try.prog) w3 24 3 Try.underlying24 l
      have ka5 : Kept [] w3 (w3.alloc (.cells #[.int .i64 l] 3)) := (Kept.refl [] w3).alloc _
      have hrow5 : Row (w3.alloc (.cells #[.int .i64 l] 3)) (w.heap.size + 1) 1 (.slice po k co) k (i64s out) := Row.kept hrow ka5 (by simp)
      go_upto_region 9 with (at_builtin; refine wpList_append_row2 rfl (.tmp 22) (.tmp 25) 24 rfl (w.heap.size + 1) 3 inf (.int .i64 0) 1 8 Try.underlying24 HI.out.1 HI.out.2.1 HI.out.2.2.1 HI.out.2.2.2 rfl _ _ _ (by rfl) hrow5 _ 1 [.int .i64 l] (by rfl) hsrc5 (by have := HB.out; omega) (by have := HB.out; unfold maxLen; omega) (by have := HB.out; omega) (by have := hbs3; rw [World.size_alloc]; omega) ?_; intro v5 w5 r5 k5 at5; obtain ⟨p5, c5, hv5, -⟩ := Row.shape r5; subst hv5; have d0 := k5.cell (ka5.cell x0 List.not_mem_nil) HNE.out.1; have d2 := k5.cell (ka5.cell x2 List.not_mem_nil) HNE.out.1; have HQ := @hideH _ (And.intro r5 (And.intro k5 (And.intro at5 ka5))); clear r5 k5 at5 ka5 x0 x2 y2; clear hrow5 hsrc5)
      have no5 := Ns.push HX.out.2.1 HQ.out.1
      have K5 : Kept F w w5 := (HS3.out.1.then HQ.out.2.2.2).trans HQ.out.2.1 (fun x hx => .inr (by have := (HS3.out.2.2.2.2.2.2 x (Option.mem_toList.1 hx)).1; omega))
      have S5 := A.kept (A.kept HS3.out.2.1 HQ.out.2.2.2 (by simp)) HQ.out.2.1 (fun x hx => ⟨by have e1 := (HS3.out.2.2.2.2.2.2 x (Option.mem_toList.1 hx)).1; have e2 := HC.out.1; omega, HS3.out.2.2.2.2.1 x (Option.mem_toList.1 hx)⟩)
      have B5 := (HBB.out.2.2.2.2.1.kept HQ.out.2.2.2 (by simp)).kept HQ.out.2.1 HNE.out.2
      have ho5 : ∀ x, (Value.slice p5 (k + 1) c5).ownBlock = some x → x ∉ F2 := fun x hx => by
        rcases HQ.out.2.2.1 with q | ⟨q, -⟩
        · rw [q] at hx; exact HS3.out.2.2.2.2.1 x hx
        · rw [q] at hx; intro hm; have e1 := A.lt HS3.out.2.1 x hm; have e2 := Option.some.inj hx; rw [World.size_alloc] at e2; omega
      have H5 := @hideH _ (And.intro no5 (And.intro K5 (And.intro S5 (And.intro ho5 B5))))
      clear no5 K5 S5 ho5 B5
      by_cases hk1 : r.kind = 1
      · have HA := @hideH _ (show backL R last = (out ++ [l], 0, asked ++ [l]) by rw [← HX.out.2.2.1, HF.out]; exact backF_fin HBB.out.2.2.1 (by rw [← HBB.out.1]; exact backStep_begin HBB.out.2.1 hk1))
        rw [hk1] at d0
        clear hk1
        go_wp2
        (try rw [Exit.noGoto_ret]); refine bodyPost_ret (by simp [results, Try.results20, go_sem]; try rfl) rfl ?_
        rw [HA.out]
        exact ⟨_, F2, rfl, H5.out.1.mono (by omega), H5.out.2.2.1, H5.out.2.1, HS3.out.2.2.1, H5.out.2.2.2.1⟩
      · have hk1' : (r.kind == 1) = false := by simpa using hk1
        by_cases hp : r.prev < B' ∨ l ≤ r.prev
        · have HA := @hideH _ (show backL R last = ([], 120, asked ++ [l]) by rw [← HX.out.2.2.1, HF.out]; exact backF_no HBB.out.2.2.1 (by rw [← HBB.out.1]; exact backStep_prev hk1 hp))
          have hN := qGoNo w.heap.size ((k : Int) + 1) l B' r.prev w5 H5.out.2.2.2.2 hp
          clear hp hk1
          go_wp2_with fail
          refine hN.mono ?_
          clear hN
          rintro e w6 ⟨rfl, rfl⟩
          go_wp2
          (try rw [Exit.noGoto_ret]); refine bodyPost_ret (by simp [results, Try.results20, go_sem]; try rfl) rfl ?_
          rw [HA.out]
          exact ⟨_, F2, rfl, Ns.nil _ _, H5.out.2.2.1, H5.out.2.1, HS3.out.2.2.1, fun x hx => by cases hx⟩
        · have p1 : ¬ r.prev < B' := fun q => hp (.inl q)
          have p2 : ¬ l ≤ r.prev := fun q => hp (.inr q)
          have HA := @hideH _ (show backF R (4096 - (k + 1)) r.prev B' (decide (k + 1 = 0)) (out ++ [l]) (asked ++ [l]) = backL R last by rw [← HX.out.2.2.1, HF.out, backF_on HBB.out.2.2.1 (by rw [← HBB.out.1]; exact backStep_go HBB.out.2.1 hk1 (Int.not_lt.1 p1) (Int.not_le.1 p2)), ← HBB.out.1, show 4096 - (k + 1) = 4095 - k by omega]; rfl)
          have HP := @hideH _ (show 0 < r.prev from by have := ((HBB.out.2.1).2.2 hk1).2.1; omega)
          have hN := qGoTo w.heap.size ((k : Int) + 1) l B' r.prev w5 H5.out.2.2.2.2 p1 p2
          clear hp hk1 p1 p2
          go_wp2_with fail
          refine hN.mono ?_
          clear hN
          rintro e w6 ⟨rfl, B6, k6⟩
          have H6 := @hideH _ (And.intro B6 (And.intro (H5.out.2.1.trans k6 (fun x hx => .inr (by simp at hx; omega))) (And.intro (A.kept H5.out.2.2.1 k6 (fun x hx => by simp at hx; subst hx; exact ⟨HC.out.1, HS3.out.2.2.2.1⟩)) (H5.out.1.kept k6 (fun x hx hm => by simp at hm; have := (H5.out.1.lt hx).1; omega)))))
          clear B6 k6 d0 d2
          go_wp2
          go_roundw
          case rel =>
            refine ⟨k + 1, p5, c5, rfl, r.prev, B', out ++ [l], asked ++ [l], F2, ?_⟩
            exact ⟨HP.out, by rw [List.length_append, HX.out.1]; rfl, by rw [List.length_append, HX.out.2.1]; rfl, by have := HB.out; omega, (HBB.out.2.2.2.1).2.2.1, HA.out, H6.out.2.2.2, by have q := H6.out.1; rw [show (((k + 1 : Nat) : Int)) = (k : Int) + 1 by omega]; exact q, H6.out.2.2.1, H6.out.2.1, HS3.out.2.2.1, HS3.out.2.2.2.1, H5.out.2.2.2.1⟩
          case measure => have := HB.out; unfold roomOf; simp; omega
end
end Go.Proofs.Ytinlhojojeabcaa

/-
  OWN WORK (by mkcq5.py). chain: Undo.
-/
namespace Go.Proofs.Ytinlhojojeabcaa
open Go.RowKit
set_option linter.unusedVariables false
set_option linter.unusedSimpArgs false

def roomAt (g : Nat) (w : World) : Nat := match w.cell? ⟨g, 1, none⟩ with
  | some (.int _ n) => 4096 - n.toNat
  | _ => 0
theorem roomAt_of {g : Nat} {w : World} {n : Nat} (h : w.cell? ⟨g, 1, none⟩ = some (.int .i64 (n : Int))) : roomAt g w = 4096 - n := by unfold roomAt; rw [h]; simp
section
variable {gf : Nat} {lb : Array Value} {R : Rdr} {c : Nat} {St : World → List Nat → List Int → Prop}
set_option maxRecDepth 20000 in
set_option maxHeartbeats 6400000 in
theorem qUndo (A : Asker gf lb R c St) (F : List Nat) (last : Int) (w : World) (hS : St w F []) (hc : c ≤ w.heap.size) (hl : I64 last) : Calls Try.prog 19 #[.func (.func gf) #[] lb, .int .i64 last] w fun e w' => ∃ v F', e = .returned (.tuple #[v, .int .i64 (undoL R last).2.1]) ∧ Ns w' w.heap.size v (undoL R last).1 ∧ St w' F' (undoL R last).2.2 ∧ Kept F w w' ∧ (∀ x ∈ F', x ∈ F ∨ w.heap.size ≤ x) ∧ ∀ x, v.ownBlock = some x → x ∉ F' := by
  obtain ⟨inf, hin1, hin2, hin3, hin4⟩ := info_parts3 (show (Try.prog.info? 3).map (fun i => (i.zero, i.size, i.bytes)) = some (some (.int .i64 0), 1, 8) by kernel_rfl)
  have HI := @hideH _ (And.intro hin1 (And.intro hin2 (And.intro hin3 hin4)))
  clear hin1 hin2 hin3 hin4
  have hst : ∀ (a : Addr) (m : Mode) (w : World), (store a (.func (.func gf) #[] lb) m).run Try.prog w = stored Try.prog w a (.func (.func gf) #[] lb) m := fun a m w => run_store _ w a _ m rfl
  by_cases c1 : last = 0
  · subst c1
    have HA := @hideH _ (show undoL R 0 = ([], 0, []) from rfl)
    go_enter Try.func19, Try.ntmps19
    go_wp2
    go_step3
    go_wp2
    try rw [Exit.noGoto_ret]
    (try rw [Exit.noGoto_ret]); refine bodyPost_ret (by simp [results, Try.results19, go_sem]; try rfl) rfl ?_
    rw [HA.out]
    exact ⟨_, F, rfl, Ns.nil _ _, hS, Kept.refl _ _, fun x hx => .inl hx, fun x hx => by cases hx⟩
  obtain ⟨w1, hw1⟩ : ∃ wx, wx = w.alloc (.cells #[.func (.func gf) #[] lb, .int .i64 0, .int .i64 last, .int .i64 0] 60) := ⟨_, rfl⟩
  have k1 : Kept [] w w1 := by rw [hw1]; exact (Kept.refl [] w).alloc _
  have B1 : Blk w1 w.heap.size 60 [.func (.func gf) #[] lb, .int .i64 0, .int .i64 last, .int .i64 0] := by rw [hw1]; exact Blk.new w _ _
  have z1 : w1.heap.size = w.heap.size + 1 := by rw [hw1, World.size_alloc]
  have S1 := A.kept hS k1 (by simp)
  have hlt := A.lt hS
  have c1' : (last == 0) = false := by simpa using c1
  have HC := @hideH _ (And.intro hc (And.intro hlt hl))
  by_cases c0 : last < 0
  · have HA := @hideH _ (show undoL R last = ([], 120, []) from if_pos c0)
    have hN := qRecNo (gf := gf) (lb := lb) w.heap.size 0 last 0 w1 B1 (.inl c0)
    clear c0 c1
    go_enter Try.func19, Try.ntmps19
    go_wp2
    go_step3
    go_upto_region 4 with fail
    rw [← hw1]
    clear hw1
    go_wp2
    go_step3
    go_wp2
    go_loopw [7, 8] (fun vo vm wr => vo = .slice none 0 0 ∧ vm = .bool true ∧ wr = w1) (fun _ _ _ => 0)
    case atStart => exact ⟨rfl, rfl, rfl⟩
    case round =>
      obtain ⟨rfl, rfl, rfl⟩ := hrel
      go_wp2_with fail
      refine hN.mono ?_
      clear hN
      rintro e w2 ⟨rfl, k2⟩
      have HK := @hideH _ (And.intro (A.kept (A.kept S1 k2 (by simp)) ((Kept.refl [] w2).alloc (.cells #[.int .i64 0, .int .i64 0, .int .i64 0, .int .i64 0, .int .i64 0, .int .i64 0, .slice none 0 0, .slice none 0 0, .int .i64 0, .slice none 0 0, .slice none 0 0] 42)) (by simp)) ((k1.then k2).alloc (.cells #[.int .i64 0, .int .i64 0, .int .i64 0, .int .i64 0, .int .i64 0, .int .i64 0, .slice none 0 0, .slice none 0 0, .int .i64 0, .slice none 0 0, .slice none 0 0] 42)))
      clear k1 k2 B1 S1
      go_wp2
      (try rw [Exit.noGoto_ret]); refine bodyPost_ret (by simp [results, Try.results19, go_sem]; try rfl) rfl ?_
      rw [HA.out]
      exact ⟨_, F, rfl, Ns.nil _ _, HK.out.1, HK.out.2.mono (by simp), fun x hx => .inl hx, fun x hx => by cases hx⟩
  have HA := @hideH _ (show undoF R 4096 last 0 true true [] [] = undoL R last from ((if_neg c0).trans (if_neg c1)).symm)
  have HP := @hideH _ (show 0 < last from by omega)
  have H1 := @hideH _ (And.intro B1 (And.intro S1 (And.intro k1 (show w.heap.size ∉ F from fun hm => by have := hlt _ hm; omega))))
  clear B1 S1 k1 c0 c1 hlt hc hl hS z1
  go_enter Try.func19, Try.ntmps19
  go_wp2
  go_step3
  go_upto_region 4 with fail
  rw [← hw1]
  clear hw1
  go_wp2
  go_step3
  go_wp2
  go_loopw [7, 8] (fun vo vm wr => ∃ (m : Nat) (po : Option Addr) (co : Nat) (must : Bool), vo = .slice po m co ∧ vm = .bool must ∧ ∃ (k : Nat) (l B : Int) (out asked : List Int) (F' : List Nat), Hid (0 < l ∧ k = asked.length ∧ (m = out.length ∧ m ≤ k) ∧ k ≤ 4096 ∧ I64 l ∧ undoF R (4096 - k) l B (decide (k = 0)) must out asked = undoL R last ∧ Ns wr (w.heap.size + 1) (.slice po m co) out ∧ Blk wr w.heap.size 60 [.func (.func gf) #[] lb, .int .i64 k, .int .i64 l, .int .i64 B] ∧ St wr F' asked ∧ Kept F w wr ∧ (∀ x ∈ F', x ∈ F ∨ w.heap.size ≤ x) ∧ w.heap.size ∉ F' ∧ ∀ x, (Value.slice po m co).ownBlock = some x → x ∉ F')) (fun _ _ wr => roomAt w.heap.size wr)
  case atStart => exact ⟨0, _, _, true, rfl, rfl, 0, last, 0, [], [], F, HP.out, rfl, ⟨rfl, by omega⟩, by omega, HC.out.2.2, HA.out, Ns.nil _ _, H1.out.1, H1.out.2.1, H1.out.2.2.1.mono (by simp), fun x hx => .inl hx, H1.out.2.2.2, fun x hx => by cases hx⟩
  case round =>
    clear HA HP H1
    obtain ⟨m, po, co, must, rfl, rfl, k, l, B, out, asked, F', hh⟩ := hrel
    obtain ⟨hl0, ek, eo, hk, hl64, hF, no, hB, hSt, hK, hF', hg, ho⟩ := hh.out
    clear hh
    by_cases hk4 : k = 4096
    · have HA := @hideH _ (show undoL R last = ([], 120, asked) by rw [← hF, hk4]; rfl)
      have hN := qRecNo (gf := gf) (lb := lb) w.heap.size (k : Int) l B wr hB (.inr (by omega))
      have HX := @hideH _ (And.intro hSt (And.intro hK (And.intro hF' hB)))
      clear hF hl0 ek eo hk hl64 no hB hSt hK hF' hg ho hk4
      go_wp2_with fail
      refine hN.mono ?_
      clear hN
      rintro e w2 ⟨rfl, k2⟩
      have HK := @hideH _ (And.intro (A.kept (A.kept HX.out.1 k2 (by simp)) ((Kept.refl [] w2).alloc (.cells #[.int .i64 0, .int .i64 0, .int .i64 0, .int .i64 0, .int .i64 0, .int .i64 0, .slice none 0 0, .slice none 0 0, .int .i64 0, .slice none 0 0, .slice none 0 0] 42)) (by simp)) ((HX.out.2.1.then k2).alloc (.cells #[.int .i64 0, .int .i64 0, .int .i64 0, .int .i64 0, .int .i64 0, .int .i64 0, .slice none 0 0, .slice none 0 0, .int .i64 0, .slice none 0 0, .slice none 0 0] 42)))
      clear k2
      go_wp2
      (try rw [Exit.noGoto_ret]); refine bodyPost_ret (by simp [results, Try.results19, go_sem]; try rfl) rfl ?_
      rw [HA.out]
      exact ⟨_, F', rfl, Ns.nil _ _, HK.out.1, HK.out.2, HX.out.2.2.1, fun x hx => by cases hx⟩
    have hR := qRec A w.heap.size k l B wr hSt ek.symm (by omega) hB HC.out.1 hg (by omega) hl64
    have HB := @hideH _ (show k < 4096 by omega)
    have HX := @hideH _ (And.intro ek (And.intro eo (And.intro hF (And.intro no (And.intro hK (And.intro hF' (And.intro hg (And.intro ho (And.intro hB hSt)))))))))
    have HF := @hideH _ (show 4096 - k = (4095 - k) + 1 from by have := HB.out; omega)
    have hsz := hB.lt
    have HWR := @hideH _ hsz
    clear hF hl0 ek eo hk hl64 no hB hSt hK hF' hg ho hk4 hsz
    go_wp2_with fail
    refine hR.mono ?_
    clear hR
    rintro e w2 ⟨E, r, F2, rfl, S2, k2, hF2, hway⟩
    obtain ⟨w3, hw3⟩ : ∃ wx, wx = w2.alloc (.cells #[.int .i64 r.kind, .int .i64 r.birth, .int .i64 r.prev, .int .i64 r.id, .int .i64 r.page, .int .i64 r.frm, .slice r.b.p r.b.n r.b.c, .slice r.a.p r.a.n r.a.c, .int .i64 r.next, .slice r.r.p r.r.n r.r.c, .slice r.d.p r.d.n r.d.c] 42) := ⟨_, rfl⟩
    have k3 : Kept [] w2 w3 := by rw [hw3]; exact (Kept.refl [] w2).alloc _
    have B3 : Blk w3 w2.heap.size 42 [.int .i64 r.kind, .int .i64 r.birth, .int .i64 r.prev, .int .i64 r.id, .int .i64 r.page, .int .i64 r.frm, .slice r.b.p r.b.n r.b.c, .slice r.a.p r.a.n r.a.c, .int .i64 r.next, .slice r.r.p r.r.n r.r.c, .slice r.d.p r.d.n r.d.c] := by rw [hw3]; exact Blk.new w2 _ _
    have K3 : Kept F w w3 := (HX.out.2.2.2.2.1.trans k2 (fun x hx => by rcases List.mem_cons.1 hx with q | q; exact .inr (by omega); exact HX.out.2.2.2.2.2.1 x q)).then k3
    have S3 := A.kept S2 k3 (by simp)
    have hF3 : ∀ x ∈ F2, x ∈ F ∨ w.heap.size ≤ x := fun x hx => by rcases hF2 x hx with q | q; exact HX.out.2.2.2.2.2.1 x q; exact .inr (by have := HWR.out; omega)
    have hg3 : w.heap.size ∉ F2 := fun hm => by rcases hF2 _ hm with q | q; exact HX.out.2.2.2.2.2.2.1 q; have := HWR.out; omega
    have hlo : ∀ x, (Value.slice po m co).ownBlock = some x → w.heap.size + 1 ≤ x ∧ x < wr.heap.size := fun x hx => HX.out.2.2.2.1.lt hx
    have ho3 : ∀ x, (Value.slice po m co).ownBlock = some x → x ∉ F2 := fun x hx hm => by rcases hF2 _ hm with q | q; exact HX.out.2.2.2.2.2.2.2.1 x hx q; have := (hlo x hx).2; omega
    have no3 := (HX.out.2.2.2.1.kept k2 (fun x hx hm => by rcases List.mem_cons.1 hm with q | q; (have := (hlo x hx).1; omega); exact HX.out.2.2.2.2.2.2.2.1 x hx q)).kept k3 (by simp)
    have HS3 := @hideH _ (And.intro K3 (And.intro S3 (And.intro hF3 (And.intro hg3 (And.intro ho3 (And.intro no3 hlo))))))
    have hk23 := Nat.le_trans k2.size k3.size
    have hk2s := k2.size
    go_upto_region 7 with fail
    rw [← hw3]
    clear hw3
    rcases hway with ⟨hE, hw⟩ | ⟨rfl, hfit, hR, hh, B2⟩
    · have HA := @hideH _ (show undoL R last = ([], E, asked ++ [l]) by
        rw [← HX.out.2.2.1, HF.out]
        rcases hw with ⟨r', hr'⟩ | ⟨rfl, r', hr', hn⟩
        · exact undoF_err hr' hE
        · exact undoF_no hr' (undoStep_hang hn))
      have hE' : (E != 0) = true := by simpa using hE
      clear hE hw K3 S3 hF3 hg3 ho3 no3 hlo k2 k3 S2 B3 hF2 hk23 hk2s
      go_wp2
      (try rw [Exit.noGoto_ret]); refine bodyPost_ret (by simp [results, Try.results19, go_sem]; try rfl) rfl ?_
      rw [HA.out]
      exact ⟨_, F2, rfl, Ns.nil _ _, HS3.out.2.1, HS3.out.1, HS3.out.2.2.1, fun x hx => by cases hx⟩
    · have B23 := B2.kept k3 (by simp)
      obtain ⟨B', hB'⟩ : ∃ B', B' = bornAt (decide (k = 0)) B r.rc l := ⟨_, rfl⟩
      rw [← hB'] at B23 hh
      have HBB := @hideH _ (And.intro hB' (And.intro hh (And.intro hR (And.intro hfit (And.intro B23 B3)))))
      have y2 := B23.cell (j := 2) rfl
      have x0 := B3.cell (j := 0) rfl
      have x2 := B3.cell (j := 2) rfl
      have x8 := B3.cell (j := 8) rfl
      have y1 := B23.cell (j := 1) rfl
      have hbs3 : w.heap.size + 1 ≤ w3.heap.size := by have := HWR.out; omega
      have HNE := @hideH _ (show w2.heap.size ∉ (Value.slice po m co).ownBlock.toList ∧ w.heap.size ∉ (Value.slice po m co).ownBlock.toList from ⟨fun hm => by have := (hlo _ (Option.mem_toList.1 hm)).2; omega, fun hm => by have := (hlo _ (Option.mem_toList.1 hm)).1; omega⟩)
      have HW2 := @hideH _ (show w.heap.size < w2.heap.size from by have := HWR.out; omega)
      have HK0 := @hideH _ (show wr.cell? ⟨w.heap.size, 1, none⟩ = some (.int .i64 (k : Int)) from HX.out.2.2.2.2.2.2.2.2.1.cell (j := 1) rfl)
      clear hh hR hfit B23 B3 hB' B2 K3 S3 hF3 hg3 ho3 no3 hlo k2 k3 S2 hF2 hk23 hk2s y1
      cases must with
      | true =>
        by_cases hk2 : r.kind = 2
        case neg =>
          have HA := @hideH _ (show undoL R last = ([], 120, asked ++ [l]) by rw [← HX.out.2.2.1, HF.out]; exact undoF_no HBB.out.2.2.1 (by rw [← HBB.out.1]; exact undoStep_must hk2))
          have hk2' : (r.kind != 2) = true := by simpa using hk2
          clear hk2
          go_wp2
          (try rw [Exit.noGoto_ret]); refine bodyPost_ret (by simp [results, Try.results19, go_sem]; try rfl) rfl ?_
          rw [HA.out]
          exact ⟨_, F2, rfl, Ns.nil _ _, HS3.out.2.1, HS3.out.1, HS3.out.2.2.1, fun x hx => by cases hx⟩
        case pos =>
          have hrow : Row w3 (w.heap.size + 1) 1 (.slice po m co) m (i64s out) := by have e := HX.out.2.1.1; have q := HS3.out.2.2.2.2.2.1; rw [e]; rw [e] at q; exact q
          have HBm := @hideH _ (show m < 4096 from by have := HB.out; have := HX.out.2.1.2; omega)
          have HKD := @hideH _ hk2
          rw [hk2] at x0
          clear hk2
          have hsrc5 := src_i64 (P := Try.prog) w3 24 3 Try.underlying24 l
          have ka5 : Kept [] w3 (w3.alloc (.cells #[.int .i64 l] 3)) := (Kept.refl [] w3).alloc _
          have hrow5 : Row (w3.alloc (.cells #[.int .i64 l] 3)) (w.heap.size + 1) 1 (.slice po m co) m (i64s out) := Row.kept hrow ka5 (by simp)
          go_upto_region 19 with (at_builtin; refine wpList_append_row2 rfl (.tmp 38) (.tmp 41) 24 rfl (w.heap.size + 1) 3 inf (.int .i64 0) 1 8 Try.underlying24 HI.out.1 HI.out.2.1 HI.out.2.2.1 HI.out.2.2.2 rfl _ _ _ (by rfl) hrow5 _ 1 [.int .i64 l] (by rfl) hsrc5 (by have := HBm.out; omega) (by have := HBm.out; unfold maxLen; omega) (by have := HBm.out; omega) (by have := hbs3; rw [World.size_alloc]; omega) ?_; intro v5 w5 r5 k5 at5; obtain ⟨p5, c5, hv5, -⟩ := Row.shape r5; subst hv5; have d0 := k5.cell (ka5.cell x0 List.not_mem_nil) HNE.out.1; have d2 := k5.cell (ka5.cell x2 List.not_mem_nil) HNE.out.1; have HQ := @hideH _ (And.intro r5 (And.intro k5 (And.intro at5 ka5))); clear r5 k5 at5 ka5 x0 x2 x8 y2; clear hrow5 hsrc5)
          have no5 := Ns.push HX.out.2.1.1 HQ.out.1
          have K5 : Kept F w w5 := (HS3.out.1.then HQ.out.2.2.2).trans HQ.out.2.1 (fun x hx => .inr (by have := (HS3.out.2.2.2.2.2.2 x (Option.mem_toList.1 hx)).1; omega))
          have S5 := A.kept (A.kept HS3.out.2.1 HQ.out.2.2.2 (by simp)) HQ.out.2.1 (fun x hx => ⟨by have e1 := (HS3.out.2.2.2.2.2.2 x (Option.mem_toList.1 hx)).1; have e2 := HC.out.1; omega, HS3.out.2.2.2.2.1 x (Option.mem_toList.1 hx)⟩)
          have B5 := (HBB.out.2.2.2.2.1.kept HQ.out.2.2.2 (by simp)).kept HQ.out.2.1 HNE.out.2
          have ho5 : ∀ x, (Value.slice p5 (m + 1) c5).ownBlock = some x → x ∉ F2 := fun x hx => by
            rcases HQ.out.2.2.1 with q | ⟨q, -⟩
            · rw [q] at hx; exact HS3.out.2.2.2.2.1 x hx
            · rw [q] at hx; intro hm; have e1 := A.lt HS3.out.2.1 x hm; have e2 := Option.some.inj hx; rw [World.size_alloc] at e2; omega
          have H5 := @hideH _ (And.intro no5 (And.intro K5 (And.intro S5 (And.intro ho5 B5))))
          clear no5 K5 S5 ho5 B5
          have hk2 := HKD.out
          by_cases hp : r.prev < B' ∨ l ≤ r.prev
          · skip
            have HA := @hideH _ (show undoL R last = ([], 120, asked ++ [l]) by rw [← HX.out.2.2.1, HF.out]; exact undoF_no HBB.out.2.2.1 (by rw [← HBB.out.1]; exact undoStep_prev (by show r.kind ≠ 1; omega) (by show r.kind ≠ 3; omega) hp))
            have hN := qGoNo w.heap.size ((k : Int) + 1) l B' r.prev w5 H5.out.2.2.2.2 hp
            clear hp hk2
            go_wp2_with fail
            refine hN.mono ?_
            clear hN
            rintro e w6 ⟨rfl, rfl⟩
            go_wp2
            (try rw [Exit.noGoto_ret]); refine bodyPost_ret (by simp [results, Try.results19, go_sem]; try rfl) rfl ?_
            rw [HA.out]
            exact ⟨_, F2, rfl, Ns.nil _ _, H5.out.2.2.1, H5.out.2.1, HS3.out.2.2.1, fun x hx => by cases hx⟩
          · have p1 : ¬ r.prev < B' := fun q => hp (.inl q)
            have p2 : ¬ l ≤ r.prev := fun q => hp (.inr q)
            have HA := @hideH _ (show undoF R (4096 - (k + 1)) r.prev B' (decide (k + 1 = 0)) false (out ++ [l]) (asked ++ [l]) = undoL R last by rw [← HX.out.2.2.1, HF.out, undoF_on HBB.out.2.2.1 (by rw [← HBB.out.1]; exact undoStep_go HBB.out.2.1 (fun _ => hk2) (by show r.kind ≠ 1; omega) (by show r.kind ≠ 3; omega) (Int.not_lt.1 p1) (Int.not_le.1 p2)), ← HBB.out.1, show 4096 - (k + 1) = 4095 - k by omega]; rw [show undoOut r.rc l out = (out ++ [l]) from if_pos hk2]; rfl)
            have HP := @hideH _ (show 0 < r.prev from by have := ((HBB.out.2.1).2.2 (by show r.kind ≠ 1; omega)).2.1; omega)
            have hN := qGoTo w.heap.size ((k : Int) + 1) l B' r.prev w5 H5.out.2.2.2.2 p1 p2
            clear hp p1 p2 hk2
            go_wp2_with fail
            refine hN.mono ?_
            clear hN
            rintro e w6 ⟨rfl, B6, k6⟩
            have H6 := @hideH _ (And.intro B6 (And.intro (H5.out.2.1.trans k6 (fun x hx => .inr (by simp at hx; omega))) (And.intro (A.kept H5.out.2.2.1 k6 (fun x hx => by simp at hx; subst hx; exact ⟨HC.out.1, HS3.out.2.2.2.1⟩)) (H5.out.1.kept k6 (fun x hx hm => by simp at hm; have := (H5.out.1.lt hx).1; omega)))))
            have HM := @hideH _ (show w6.cell? ⟨w.heap.size, 1, none⟩ = some (.int .i64 ((k + 1 : Nat) : Int)) from by rw [show (((k + 1 : Nat) : Int)) = (k : Int) + 1 by omega]; exact B6.cell (j := 1) rfl)
            clear B6 k6
            go_wp2
            go_roundw
            case rel =>
              refine ⟨m + 1, p5, c5, false, rfl, rfl, k + 1, r.prev, B', (out ++ [l]), asked ++ [l], F2, ?_⟩
              exact ⟨HP.out, by rw [List.length_append, HX.out.1]; rfl, ⟨by rw [List.length_append, HX.out.2.1.1]; rfl, by have := HX.out.2.1.2; omega⟩, by have := HB.out; omega, (HBB.out.2.2.2.1).2.2.1, HA.out, H6.out.2.2.2, by have q := H6.out.1; rw [show (((k + 1 : Nat) : Int)) = (k : Int) + 1 by omega]; exact q, H6.out.2.2.1, H6.out.2.1, HS3.out.2.2.1, HS3.out.2.2.2.1, H5.out.2.2.2.1⟩
            case measure => rw [roomAt_of HK0.out, roomAt_of HM.out]; have := HB.out; omega
      | false =>
        by_cases hk2 : r.kind = 2
        case pos =>
          have hrow : Row w3 (w.heap.size + 1) 1 (.slice po m co) m (i64s out) := by have e := HX.out.2.1.1; have q := HS3.out.2.2.2.2.2.1; rw [e]; rw [e] at q; exact q
          have HBm := @hideH _ (show m < 4096 from by have := HB.out; have := HX.out.2.1.2; omega)
          have HKD := @hideH _ hk2
          rw [hk2] at x0
          clear hk2
          have hsrc5 := src_i64 (P := Try.prog) w3 24 3 Try.underlying24 l
          have ka5 : Kept [] w3 (w3.alloc (.cells #[.int .i64 l] 3)) := (Kept.refl [] w3).alloc _
          have hrow5 : Row (w3.alloc (.cells #[.int .i64 l] 3)) (w.heap.size + 1) 1 (.slice po m co) m (i64s out) := Row.kept hrow ka5 (by simp)
          go_upto_region 19 with (at_builtin; refine wpList_append_row2 rfl (.tmp 38) (.tmp 41) 24 rfl (w.heap.size + 1) 3 inf (.int .i64 0) 1 8 Try.underlying24 HI.out.1 HI.out.2.1 HI.out.2.2.1 HI.out.2.2.2 rfl _ _ _ (by rfl) hrow5 _ 1 [.int .i64 l] (by rfl) hsrc5 (by have := HBm.out; omega) (by have := HBm.out; unfold maxLen; omega) (by have := HBm.out; omega) (by have := hbs3; rw [World.size_alloc]; omega) ?_; intro v5 w5 r5 k5 at5; obtain ⟨p5, c5, hv5, -⟩ := Row.shape r5; subst hv5; have d0 := k5.cell (ka5.cell x0 List.not_mem_nil) HNE.out.1; have d2 := k5.cell (ka5.cell x2 List.not_mem_nil) HNE.out.1; have HQ := @hideH _ (And.intro r5 (And.intro k5 (And.intro at5 ka5))); clear r5 k5 at5 ka5 x0 x2 x8 y2; clear hrow5 hsrc5)
          have no5 := Ns.push HX.out.2.1.1 HQ.out.1
          have K5 : Kept F w w5 := (HS3.out.1.then HQ.out.2.2.2).trans HQ.out.2.1 (fun x hx => .inr (by have := (HS3.out.2.2.2.2.2.2 x (Option.mem_toList.1 hx)).1; omega))
          have S5 := A.kept (A.kept HS3.out.2.1 HQ.out.2.2.2 (by simp)) HQ.out.2.1 (fun x hx => ⟨by have e1 := (HS3.out.2.2.2.2.2.2 x (Option.mem_toList.1 hx)).1; have e2 := HC.out.1; omega, HS3.out.2.2.2.2.1 x (Option.mem_toList.1 hx)⟩)
          have B5 := (HBB.out.2.2.2.2.1.kept HQ.out.2.2.2 (by simp)).kept HQ.out.2.1 HNE.out.2
          have ho5 : ∀ x, (Value.slice p5 (m + 1) c5).ownBlock = some x → x ∉ F2 := fun x hx => by
            rcases HQ.out.2.2.1 with q | ⟨q, -⟩
            · rw [q] at hx; exact HS3.out.2.2.2.2.1 x hx
            · rw [q] at hx; intro hm; have e1 := A.lt HS3.out.2.1 x hm; have e2 := Option.some.inj hx; rw [World.size_alloc] at e2; omega
          have H5 := @hideH _ (And.intro no5 (And.intro K5 (And.intro S5 (And.intro ho5 B5))))
          clear no5 K5 S5 ho5 B5
          have hk2 := HKD.out
          by_cases hp : r.prev < B' ∨ l ≤ r.prev
          · skip
            have HA := @hideH _ (show undoL R last = ([], 120, asked ++ [l]) by rw [← HX.out.2.2.1, HF.out]; exact undoF_no HBB.out.2.2.1 (by rw [← HBB.out.1]; exact undoStep_prev (by show r.kind ≠ 1; omega) (by show r.kind ≠ 3; omega) hp))
            have hN := qGoNo w.heap.size ((k : Int) + 1) l B' r.prev w5 H5.out.2.2.2.2 hp
            clear hp hk2
            go_wp2_with fail
            refine hN.mono ?_
            clear hN
            rintro e w6 ⟨rfl, rfl⟩
            go_wp2
            (try rw [Exit.noGoto_ret]); refine bodyPost_ret (by simp [results, Try.results19, go_sem]; try rfl) rfl ?_
            rw [HA.out]
            exact ⟨_, F2, rfl, Ns.nil _ _, H5.out.2.2.1, H5.out.2.1, HS3.out.2.2.1, fun x hx => by cases hx⟩
          · have p1 : ¬ r.prev < B' := fun q => hp (.inl q)
            have p2 : ¬ l ≤ r.prev := fun q => hp (.inr q)
            have HA := @hideH _ (show undoF R (4096 - (k + 1)) r.prev B' (decide (k + 1 = 0)) false (out ++ [l]) (asked ++ [l]) = undoL R last by rw [← HX.out.2.2.1, HF.out, undoF_on HBB.out.2.2.1 (by rw [← HBB.out.1]; exact undoStep_go HBB.out.2.1 (fun _ => hk2) (by show r.kind ≠ 1; omega) (by show r.kind ≠ 3; omega) (Int.not_lt.1 p1) (Int.not_le.1 p2)), ← HBB.out.1, show 4096 - (k + 1) = 4095 - k by omega]; rw [show undoOut r.rc l out = (out ++ [l]) from if_pos hk2]; rfl)
            have HP := @hideH _ (show 0 < r.prev from by have := ((HBB.out.2.1).2.2 (by show r.kind ≠ 1; omega)).2.1; omega)
            have hN := qGoTo w.heap.size ((k : Int) + 1) l B' r.prev w5 H5.out.2.2.2.2 p1 p2
            clear hp p1 p2 hk2
            go_wp2_with fail
            refine hN.mono ?_
            clear hN
            rintro e w6 ⟨rfl, B6, k6⟩
            have H6 := @hideH _ (And.intro B6 (And.intro (H5.out.2.1.trans k6 (fun x hx => .inr (by simp at hx; omega))) (And.intro (A.kept H5.out.2.2.1 k6 (fun x hx => by simp at hx; subst hx; exact ⟨HC.out.1, HS3.out.2.2.2.1⟩)) (H5.out.1.kept k6 (fun x hx hm => by simp at hm; have := (H5.out.1.lt hx).1; omega)))))
            have HM := @hideH _ (show w6.cell? ⟨w.heap.size, 1, none⟩ = some (.int .i64 ((k + 1 : Nat) : Int)) from by rw [show (((k + 1 : Nat) : Int)) = (k : Int) + 1 by omega]; exact B6.cell (j := 1) rfl)
            clear B6 k6
            go_wp2
            go_roundw
            case rel =>
              refine ⟨m + 1, p5, c5, false, rfl, rfl, k + 1, r.prev, B', (out ++ [l]), asked ++ [l], F2, ?_⟩
              exact ⟨HP.out, by rw [List.length_append, HX.out.1]; rfl, ⟨by rw [List.length_append, HX.out.2.1.1]; rfl, by have := HX.out.2.1.2; omega⟩, by have := HB.out; omega, (HBB.out.2.2.2.1).2.2.1, HA.out, H6.out.2.2.2, by have q := H6.out.1; rw [show (((k + 1 : Nat) : Int)) = (k : Int) + 1 by omega]; exact q, H6.out.2.2.1, H6.out.2.1, HS3.out.2.2.1, HS3.out.2.2.2.1, H5.out.2.2.2.1⟩
            case measure => rw [roomAt_of HK0.out, roomAt_of HM.out]; have := HB.out; omega
        case neg =>
          by_cases hk1 : r.kind = 1
          case pos =>
            have HA := @hideH _ (show undoL R last = (out, 0, asked ++ [l]) by rw [← HX.out.2.2.1, HF.out, undoF_fin HBB.out.2.2.1 (by rw [← HBB.out.1]; exact undoStep_begin HBB.out.2.1 hk1), show undoOut r.rc l out = out from if_neg hk2])
            rw [hk1] at x0
            clear hk1 hk2
            go_wp2
            (try rw [Exit.noGoto_ret]); refine bodyPost_ret (by simp [results, Try.results19, go_sem]; try rfl) rfl ?_
            rw [HA.out]
            exact ⟨_, F2, rfl, HS3.out.2.2.2.2.2.1.mono (by omega), HS3.out.2.1, HS3.out.1, HS3.out.2.2.1, HS3.out.2.2.2.2.1⟩
          case neg =>
            by_cases hk3 : r.kind = 3
            case pos =>
              by_cases hn : r.next = 0
              case pos =>
                have HA := @hideH _ (show undoL R last = (out, 0, asked ++ [l]) by rw [← HX.out.2.2.1, HF.out, undoF_fin HBB.out.2.2.1 (by rw [← HBB.out.1]; exact undoStep_end HBB.out.2.1 hk3 hn), show undoOut r.rc l out = out from if_neg hk2])
                rw [hk3] at x0
                rw [hn] at x8
                clear hk1 hk2 hk3 hn
                go_wp2
                (try rw [Exit.noGoto_ret]); refine bodyPost_ret (by simp [results, Try.results19, go_sem]; try rfl) rfl ?_
                rw [HA.out]
                exact ⟨_, F2, rfl, HS3.out.2.2.2.2.2.1.mono (by omega), HS3.out.2.1, HS3.out.1, HS3.out.2.2.1, HS3.out.2.2.2.2.1⟩
              case neg =>
                have hn' : (r.next == 0) = false := by simpa using hn
                rw [hk3] at x0
                by_cases hp : r.next < B' ∨ l ≤ r.next
                · skip
                  have HA := @hideH _ (show undoL R last = ([], 120, asked ++ [l]) by rw [← HX.out.2.2.1, HF.out]; exact undoF_no HBB.out.2.2.1 (by rw [← HBB.out.1]; exact undoStep_next hk3 hn hp))
                  have hN := qGoNo w.heap.size ((k : Int) + 1) l B' r.next w3 HBB.out.2.2.2.2.1 hp
                  clear hp hk1 hk2 hk3 hn
                  go_wp2_with fail
                  refine hN.mono ?_
                  clear hN
                  rintro e w6 ⟨rfl, rfl⟩
                  go_wp2
                  (try rw [Exit.noGoto_ret]); refine bodyPost_ret (by simp [results, Try.results19, go_sem]; try rfl) rfl ?_
                  rw [HA.out]
                  exact ⟨_, F2, rfl, Ns.nil _ _, HS3.out.2.1, HS3.out.1, HS3.out.2.2.1, fun x hx => by cases hx⟩
                · have p1 : ¬ r.next < B' := fun q => hp (.inl q)
                  have p2 : ¬ l ≤ r.next := fun q => hp (.inr q)
                  have HA := @hideH _ (show undoF R (4096 - (k + 1)) r.next B' (decide (k + 1 = 0)) true out (asked ++ [l]) = undoL R last by rw [← HX.out.2.2.1, HF.out, undoF_on HBB.out.2.2.1 (by rw [← HBB.out.1]; exact undoStep_gonext HBB.out.2.1 hk3 hn (Int.not_lt.1 p1) (Int.not_le.1 p2)), ← HBB.out.1, show 4096 - (k + 1) = 4095 - k by omega]; rw [show undoOut r.rc l out = out from if_neg hk2]; rfl)
                  have HP := @hideH _ (show 0 < r.next from by have := ((HBB.out.2.1).2.2 (by show r.kind ≠ 1; omega)).2.1; omega)
                  have hN := qGoTo w.heap.size ((k : Int) + 1) l B' r.next w3 HBB.out.2.2.2.2.1 p1 p2
                  clear hp p1 p2 hk1 hk2 hk3 hn
                  go_wp2_with fail
                  refine hN.mono ?_
                  clear hN
                  rintro e w6 ⟨rfl, B6, k6⟩
                  have H6 := @hideH _ (And.intro B6 (And.intro (HS3.out.1.trans k6 (fun x hx => .inr (by simp at hx; omega))) (And.intro (A.kept HS3.out.2.1 k6 (fun x hx => by simp at hx; subst hx; exact ⟨HC.out.1, HS3.out.2.2.2.1⟩)) (HS3.out.2.2.2.2.2.1.kept k6 (fun x hx hm => by simp at hm; have := (HS3.out.2.2.2.2.2.1.lt hx).1; omega)))))
                  have HM := @hideH _ (show w6.cell? ⟨w.heap.size, 1, none⟩ = some (.int .i64 ((k + 1 : Nat) : Int)) from by rw [show (((k + 1 : Nat) : Int)) = (k : Int) + 1 by omega]; exact B6.cell (j := 1) rfl)
                  clear B6 k6
                  go_wp2
                  go_roundw
                  case rel =>
                    refine ⟨m, po, co, true, rfl, rfl, k + 1, r.next, B', out, asked ++ [l], F2, ?_⟩
                    exact ⟨HP.out, by rw [List.length_append, HX.out.1]; rfl, ⟨HX.out.2.1.1, by have := HX.out.2.1.2; omega⟩, by have := HB.out; omega, (HBB.out.2.2.2.1).2.2.2, HA.out, H6.out.2.2.2, by have q := H6.out.1; rw [show (((k + 1 : Nat) : Int)) = (k : Int) + 1 by omega]; exact q, H6.out.2.2.1, H6.out.2.1, HS3.out.2.2.1, HS3.out.2.2.2.1, HS3.out.2.2.2.2.1⟩
                  case measure => rw [roomAt_of HK0.out, roomAt_of HM.out]; have := HB.out; omega
            case neg =>
              have hk1' : (r.kind == 1) = false := by simpa using hk1
              have hk2' : (r.kind == 2) = false := by simpa using hk2
              have hk3' : (r.kind == 3) = false := by simpa using hk3
              by_cases hp : r.prev < B' ∨ l ≤ r.prev
              · skip
                have HA := @hideH _ (show undoL R last = ([], 120, asked ++ [l]) by rw [← HX.out.2.2.1, HF.out]; exact undoF_no HBB.out.2.2.1 (by rw [← HBB.out.1]; exact undoStep_prev hk1 hk3 hp))
                have hN := qGoNo w.heap.size ((k : Int) + 1) l B' r.prev w3 HBB.out.2.2.2.2.1 hp
                clear hp hk1 hk2 hk3
                go_wp2_with fail
                refine hN.mono ?_
                clear hN
                rintro e w6 ⟨rfl, rfl⟩
                go_wp2
                (try rw [Exit.noGoto_ret]); refine bodyPost_ret (by simp [results, Try.results19, go_sem]; try rfl) rfl ?_
                rw [HA.out]
                exact ⟨_, F2, rfl, Ns.nil _ _, HS3.out.2.1, HS3.out.1, HS3.out.2.2.1, fun x hx => by cases hx⟩
              · have p1 : ¬ r.prev < B' := fun q => hp (.inl q)
                have p2 : ¬ l ≤ r.prev := fun q => hp (.inr q)
                have HA := @hideH _ (show undoF R (4096 - (k + 1)) r.prev B' (decide (k + 1 = 0)) false out (asked ++ [l]) = undoL R last by rw [← HX.out.2.2.1, HF.out, undoF_on HBB.out.2.2.1 (by rw [← HBB.out.1]; exact undoStep_go HBB.out.2.1 (fun q => nomatch q) hk1 hk3 (Int.not_lt.1 p1) (Int.not_le.1 p2)), ← HBB.out.1, show 4096 - (k + 1) = 4095 - k by omega]; rw [show undoOut r.rc l out = out from if_neg hk2]; rfl)
                have HP := @hideH _ (show 0 < r.prev from by have := ((HBB.out.2.1).2.2 (by show r.kind ≠ 1; omega)).2.1; omega)
                have hN := qGoTo w.heap.size ((k : Int) + 1) l B' r.prev w3 HBB.out.2.2.2.2.1 p1 p2
                clear hp p1 p2 hk1 hk2 hk3
                go_wp2_with fail
                refine hN.mono ?_
                clear hN
                rintro e w6 ⟨rfl, B6, k6⟩
                have H6 := @hideH _ (And.intro B6 (And.intro (HS3.out.1.trans k6 (fun x hx => .inr (by simp at hx; omega))) (And.intro (A.kept HS3.out.2.1 k6 (fun x hx => by simp at hx; subst hx; exact ⟨HC.out.1, HS3.out.2.2.2.1⟩)) (HS3.out.2.2.2.2.2.1.kept k6 (fun x hx hm => by simp at hm; have := (HS3.out.2.2.2.2.2.1.lt hx).1; omega)))))
                have HM := @hideH _ (show w6.cell? ⟨w.heap.size, 1, none⟩ = some (.int .i64 ((k + 1 : Nat) : Int)) from by rw [show (((k + 1 : Nat) : Int)) = (k : Int) + 1 by omega]; exact B6.cell (j := 1) rfl)
                clear B6 k6
                go_wp2
                go_roundw
                case rel =>
                  refine ⟨m, po, co, false, rfl, rfl, k + 1, r.prev, B', out, asked ++ [l], F2, ?_⟩
                  exact ⟨HP.out, by rw [List.length_append, HX.out.1]; rfl, ⟨HX.out.2.1.1, by have := HX.out.2.1.2; omega⟩, by have := HB.out; omega, (HBB.out.2.2.2.1).2.2.1, HA.out, H6.out.2.2.2, by have q := H6.out.1; rw [show (((k + 1 : Nat) : Int)) = (k : Int) + 1 by omega]; exact q, H6.out.2.2.1, H6.out.2.1, HS3.out.2.2.1, HS3.out.2.2.2.1, HS3.out.2.2.2.2.1⟩
                case measure => rw [roomAt_of HK0.out, roomAt_of HM.out]; have := HB.out; omega
end
end Go.Proofs.Ytinlhojojeabcaa

/-
  OWN WORK. chain: the program's Back and Undo keep what the laws ask of them.
-/
namespace Go.Proofs.Ytinlhojojeabcaa
open Go.RowKit

theorem chOps : ChOps where
  back := fun A F l w h1 h2 h3 => qBack A F l w h1 h2 h3
  undo := fun A F l w h1 h2 h3 => qUndo A F l w h1 h2 h3
end Go.Proofs.Ytinlhojojeabcaa

/-
  OWN WORK. THE STATEMENT, out of the walk.
-/
namespace Go.Proofs.Ytinlhojojeabcaa.chainWhole
open Go.ChangeShapes Go.WideShapes Go.ChangeAt Go.RowKit
set_option linter.unusedVariables false
set_option maxRecDepth 100000 in
theorem contract (H : Type) (enc : TypeId × Value → H) (W : World) (base : Nat) (args : Array Value) (ds gs : List (DataW H)) (before : List MemPlace)
    (hval : ∀ (j : Nat) t v, Try.f6.params[j]? = some t → args[j]? = some v → Value.okWide Try.prog W .any base t v)
    (hW : DataW.Whole enc Try.prog Try.f6.params.toList Rows.chainWholeSpec.vars false W args.toList ds gs before) (hsz : (DataW.weightsEach Try.prog (Try.f6.params.toList ++ Rows.chainWholeSpec.plain.varTypes Try.prog) (ds ++ gs)).all (· ≤ reachBytes) = true) :
    Calls Try.prog 6 args W fun e W' => ∃ v, e = .returned v ∧ Rows.chainWholeSpec.post enc Try.prog Try.f6 false true false false W args v W' := by
  have hW' := hW
  obtain ⟨p, q, hA0, hV, rfl, hfz, hnd⟩ := hW
  have hA : DataW.TrodAll enc Try.prog W 0 (fun _ => true) true Try.f6.params.toList args.toList ds p := hA0
  rw [Try.params6] at hA hval hsz
  obtain ⟨v0, vs0, d0, ds0, p0, q0, hargs, rfl, rfl, h0, r0⟩ := trodAll_cons hA
  obtain ⟨rfl, rfl, rfl⟩ := trodAll_nil r0
  obtain rfl : args = #[v0] := by cases args; simp_all
  obtain ⟨rfl, rfl⟩ := trodVars_none hV
  obtain ⟨ao0, len0, cap0, rfl⟩ := okWide_slice Try.underlying31 (hval 0 31 v0 rfl rfl)
  have lt0 : ∀ x ∈ p0, x.block < W.heap.size := by obtain ⟨m, hm⟩ := h0; exact DataW.trod_lt m _ _ _ hm
  obtain ⟨l0, hl0, B0⟩ := acts_open Try.underlying31 Try.underlying58 (by kernel_rfl) rfl rfl rfl (by kernel_rfl) (by kernel_rfl) (by kernel_rfl) (by kernel_rfl) (by kernel_rfl) (by kernel_rfl) h0
  clear hA0
  refine (chainWhole_walk chOps written_any _ l0 W B0).mono fun e W' ⟨he, kp⟩ => ?_
  subst he
  have bel := kp.below
  exact ⟨_, rfl, _, _, _, [], _, [], hW', trodAll_mk1 (shut_bool Try.underlying4 _), (trodAll_cons_mk (Below.trod laidOut (by kernel_rfl) (of_decide_eq_true (by kernel_rfl)) h0 bel lt0) trodAll_mk0), rfl, bel.frame _, fun h => by cases h⟩

set_option maxRecDepth 100000 in
theorem lifted (os : Os) (started : os.Started) (H : Type) (enc : TypeId × Value → H) :
    ReturnsInHanded {} Try.checked os 6 .any (Rows.chainWholeSpec.pre6 enc Try.prog Try.f6 Rows.chainWholeRow.domain false) (Rows.chainWholeSpec.post enc Try.prog Try.f6 false true false false) := by
  refine returnsInHanded_of_change_sized (C := Try.checked) own started (by kernel_rfl) Try.func6
    (ChangeSpec.witness6 (enc := enc) (C := Try.checked) false ⟨#[], #[.slice none 0 0], []⟩ 8 (by kernel_rfl) (by kernel_rfl) (by kernel_rfl) (by kernel_rfl)) ?_
  intro W base args ds gs before hval hW _ hsz _
  exact contract H enc W base args ds gs before hval hW hsz

theorem proved : Rows.ChainWholeSaid :=
  OpenClaim.holds_of_wide 6 Try.f6 rfl rfl rfl rfl rfl rfl rfl ⟨rfl, rfl, rfl, rfl, rfl⟩ rfl rfl rfl rfl rfl (by kernel_rfl) Try.func6 (by kernel_rfl)
    (of_decide_eq_true (by kernel_rfl)) (by unfold Func.isWrapper; first | (rw [if_pos (by decide +kernel)]; kernel_rfl) | (rw [if_neg (by decide +kernel)]; exact ⟨rfl, rfl⟩))
    (fun os started H enc _ => lifted os started H enc)
#print axioms proved
end Go.Proofs.Ytinlhojojeabcaa.chainWhole

