import Derived.Deep.Slices
import Derived.Test.YtinlhojojeabcaaRows
import Derived.Recover
import Derived.Shelf.Abstract
import Derived.Test.YtinlhojojeabcaaC1
/-
  OWN WORK (by mkch1.py). Layer 12: the document's third step.
-/
namespace Go.Proofs.Ytinlhojojeabcaa
open Go.RowKit
set_option linter.unusedVariables false
set_option linter.unusedSimpArgs false

def hangE (r : Rc) (l b : Int) : Int := if hangs r l b then 0 else 120
theorem hangE_kind {r : Rc} {l b : Int} (h : ¬ kindOk r.kind) : hangE r l b = 120 := if_neg fun q => h q.1
theorem hangE_begin {r : Rc} {l b : Int} (h : r.kind = 1) (h2 : l = b) : hangE r l b = 0 := if_pos ⟨⟨by omega, by omega⟩, fun _ => h2, fun c => absurd h c⟩
theorem hangE_begin_no {r : Rc} {l b : Int} (h : r.kind = 1) (h2 : l ≠ b) : hangE r l b = 120 := if_neg fun q => h2 (q.2.1 h)
theorem hangE_no {r : Rc} {l b : Int} (h : r.kind ≠ 1) (h2 : ¬ (r.birth = b ∧ 1 ≤ b ∧ b < l)) : hangE r l b = 120 := if_neg fun q => h2 (q.2.2 h)
theorem hangE_yes {r : Rc} {l b : Int} (h : r.kind ≠ 1) (h0 : kindOk r.kind) (h2 : r.birth = b ∧ 1 ≤ b ∧ b < l) : hangE r l b = 0 := if_pos ⟨h0, fun c => absurd c h, fun _ => h2⟩
theorem hangE_two (r : Rc) (l b : Int) : hangE r l b = 0 ∧ hangs r l b ∨ hangE r l b = 120 ∧ ¬ hangs r l b := by
  unfold hangE
  by_cases c : hangs r l b
  · exact .inl ⟨if_pos c, c⟩
  · exact .inr ⟨if_neg c, c⟩
theorem backStep_hang {r : Rc} {l b : Int} (h : ¬ hangs r l b) : backStep r l b = none := by unfold backStep; rw [if_pos h]
theorem backStep_begin {r : Rc} {l b : Int} (h : hangs r l b) (hk : r.kind = 1) : backStep r l b = some none := by unfold backStep; rw [if_neg (not_not_intro h), if_pos hk]
theorem backStep_prev {r : Rc} {l b : Int} (hk : r.kind ≠ 1) (hp : r.prev < b ∨ l ≤ r.prev) : backStep r l b = none := by
  unfold backStep
  split
  · rfl
  · first | rfl | rw [if_neg hk, if_pos hp]
theorem backStep_go {r : Rc} {l b : Int} (h : hangs r l b) (hk : r.kind ≠ 1) (h1 : b ≤ r.prev) (h2 : r.prev < l) : backStep r l b = some (some r.prev) := by unfold backStep; rw [if_neg (not_not_intro h), if_neg hk, if_neg (by omega)]
theorem undoStep_hang {r : Rc} {l b : Int} {m : Bool} (h : ¬ hangs r l b) : undoStep r l b m = none := by unfold undoStep; rw [if_pos h]
theorem undoStep_must {r : Rc} {l b : Int} (h : r.kind ≠ 2) : undoStep r l b true = none := by
  unfold undoStep
  split
  · rfl
  · rw [if_pos ⟨rfl, h⟩]
theorem undoStep_begin {r : Rc} {l b : Int} (h : hangs r l b) (hk : r.kind = 1) : undoStep r l b false = some none := by unfold undoStep; rw [if_neg (not_not_intro h), if_neg (by simp), if_pos hk]
theorem undoStep_end {r : Rc} {l b : Int} (h : hangs r l b) (hk : r.kind = 3) (hn : r.next = 0) : undoStep r l b false = some none := by unfold undoStep; rw [if_neg (not_not_intro h), if_neg (by simp), if_neg (by omega), if_pos hk, if_pos hn]
theorem undoStep_next {r : Rc} {l b : Int} {m : Bool} (hk : r.kind = 3) (hn : r.next ≠ 0) (hp : r.next < b ∨ l ≤ r.next) : undoStep r l b m = none := by
  unfold undoStep
  split
  · rfl
  · split
    · rfl
    · simp [hk, hn, hp]
theorem undoStep_gonext {r : Rc} {l b : Int} (h : hangs r l b) (hk : r.kind = 3) (hn : r.next ≠ 0) (h1 : b ≤ r.next) (h2 : r.next < l) : undoStep r l b false = some (some (r.next, true)) := by unfold undoStep; rw [if_neg (not_not_intro h), if_neg (by simp), if_neg (by omega), if_pos hk, if_neg hn, if_neg (by omega)]
theorem undoStep_prev {r : Rc} {l b : Int} {m : Bool} (hk : r.kind ≠ 1) (hk3 : r.kind ≠ 3) (hp : r.prev < b ∨ l ≤ r.prev) : undoStep r l b m = none := by
  unfold undoStep
  split
  · rfl
  · split
    · rfl
    · first | rfl | rw [if_neg hk, if_neg hk3, if_pos hp]
theorem undoStep_go {r : Rc} {l b : Int} {m : Bool} (h : hangs r l b) (hm : m = true → r.kind = 2) (hk : r.kind ≠ 1) (hk3 : r.kind ≠ 3) (h1 : b ≤ r.prev) (h2 : r.prev < l) : undoStep r l b m = some (some (r.prev, false)) := by unfold undoStep; rw [if_neg (not_not_intro h), if_neg (fun q => q.2 (hm q.1)), if_neg hk, if_neg hk3, if_neg (by omega)]
theorem born_true {r : Rc} {l b : Int} (h : r.kind = 1) : bornAt true b r l = l := by unfold bornAt birthOf; rw [if_pos rfl, if_pos h]
theorem born_first {r : Rc} {l b : Int} (h : r.kind ≠ 1) : bornAt true b r l = r.birth := by unfold bornAt birthOf; rw [if_pos rfl, if_neg h]
theorem born_false {r : Rc} {l b : Int} : bornAt false b r l = b := rfl
set_option maxRecDepth 20000 in
set_option maxHeartbeats 3200000 in
theorem rChained (r : Lv) (l b : Int) (f : Bool) (w : World) : Calls Try.prog 21 #[.agg #[.int .i64 r.kind, .int .i64 r.birth, .int .i64 r.prev, .int .i64 r.id, .int .i64 r.page, .int .i64 r.frm, .slice r.b.p r.b.n r.b.c, .slice r.a.p r.a.n r.a.c, .int .i64 r.next, .slice r.r.p r.r.n r.r.c, .slice r.d.p r.d.n r.d.c], .int .i64 l, .int .i64 b, .bool f] w fun e w' => e = .returned (.tuple #[.int .i64 (hangE r.rc l (bornAt f b r.rc l)), .int .i64 (bornAt f b r.rc l)]) ∧ Kept [] w w' := by
  obtain ⟨kd, hkd⟩ : ∃ k, k = r.rc.kind := ⟨_, rfl⟩
  obtain ⟨bi, hbi⟩ : ∃ k, k = r.rc.birth := ⟨_, rfl⟩
  obtain ⟨rc, hrc⟩ : ∃ k, k = r.rc := ⟨_, rfl⟩
  rw [show r.kind = kd from hkd.symm, show r.birth = bi from hbi.symm]
  rw [← hrc] at hkd hbi ⊢
  have HKD := @hideH _ hkd
  have HBI := @hideH _ hbi
  clear hrc hkd hbi
  obtain ⟨w1, hw1⟩ : ∃ wx, wx = w.alloc (.cells #[.int .i64 kd, .int .i64 bi, .int .i64 r.prev, .int .i64 r.id, .int .i64 r.page, .int .i64 r.frm, .slice r.b.p r.b.n r.b.c, .slice r.a.p r.a.n r.a.c, .int .i64 r.next, .slice r.r.p r.r.n r.r.c, .slice r.d.p r.d.n r.d.c] 42) := ⟨_, rfl⟩
  have k1 : Kept [] w w1 := by rw [hw1]; exact (Kept.refl [] w).alloc _
  have B1 : Blk w1 w.heap.size 42 [.int .i64 kd, .int .i64 bi, .int .i64 r.prev, .int .i64 r.id, .int .i64 r.page, .int .i64 r.frm, .slice r.b.p r.b.n r.b.c, .slice r.a.p r.a.n r.a.c, .int .i64 r.next, .slice r.r.p r.r.n r.r.c, .slice r.d.p r.d.n r.d.c] := by rw [hw1]; exact Blk.new w _ _
  have c0 := B1.cell (j := 0) rfl
  have c1 := B1.cell (j := 1) rfl
  have KE := @hideH _ k1
  clear B1 k1
  obtain ⟨B, hB⟩ : ∃ B, B = bornAt f b rc l := ⟨_, rfl⟩
  rw [← hB]
  obtain ⟨E, hE⟩ : ∃ E, E = hangE rc l B := ⟨_, rfl⟩
  rw [← hE]
  have HB := @hideH _ hB
  have HE := @hideH _ hE
  clear hB hE
  go_enter Try.func21, Try.ntmps21
  go_upto_region 1 with fail
  rw [← hw1]
  clear hw1
  go_upto_if 10 with fail
  go_cut [2] (fun v wx => v = .int .i64 B ∧ wx = w1)
  case first =>
    cases f with
    | false =>
      go_wp2
      go_meet
      case rel => exact ⟨by rw [HB.out]; rfl, rfl⟩
    | true =>
      by_cases hk : kd = 1
      · have HB' := @hideH _ (show B = l by rw [HB.out]; exact born_true (HKD.out ▸ hk))
        subst hk
        skip
        go_wp2
        go_meet
        case rel => exact ⟨by rw [HB'.out], rfl⟩
      · have HB' := @hideH _ (show B = bi by rw [HB.out, HBI.out]; exact born_first (HKD.out ▸ hk))
        have hk' : (kd == 1) = false := by simpa using hk
        clear hk
        go_wp2
        go_meet
        case rel => exact ⟨by rw [HB'.out], rfl⟩
  case rest =>
    obtain ⟨h1, h2⟩ := hcut
    subst h1 h2
    skip
    by_cases q1 : kd < 1
    · skip
      have eE : E = 120 := by rw [HE.out]; exact hangE_kind (fun q => by have := q.1; rw [← HKD.out] at this; omega)
      have HEE := @hideH _ eE
      clear eE
      go_wp2
      refine bodyPost_ret (by simp [results, Try.results21, go_sem]; try rfl) rfl ?_
      exact ⟨by rw [HEE.out], KE.out⟩
    · by_cases q2 : kd > 6
      · skip
        have eE : E = 120 := by rw [HE.out]; exact hangE_kind (fun q => by have := q.2; rw [← HKD.out] at this; omega)
        have HEE := @hideH _ eE
        have q2' : (6 : Int) < kd := q2
        clear eE
        go_wp2
        refine bodyPost_ret (by simp [results, Try.results21, go_sem]; try rfl) rfl ?_
        exact ⟨by rw [HEE.out], KE.out⟩
      · have q2' : ¬ (6 : Int) < kd := q2
        by_cases q3 : kd = 1
        · by_cases q4 : l = B
          · skip
            have eE : E = 0 := by rw [HE.out]; exact hangE_begin (HKD.out ▸ q3) q4
            have HEE := @hideH _ eE
            have q4' : (l != B) = false := by simpa using q4
            subst q3
            clear q4
            clear eE
            go_wp2
            refine bodyPost_ret (by simp [results, Try.results21, go_sem]; try rfl) rfl ?_
            exact ⟨by rw [HEE.out], KE.out⟩
          · skip
            have eE : E = 120 := by rw [HE.out]; exact hangE_begin_no (HKD.out ▸ q3) q4
            have HEE := @hideH _ eE
            have q4' : (l != B) = true := by simpa using q4
            subst q3
            clear q4
            clear eE
            go_wp2
            refine bodyPost_ret (by simp [results, Try.results21, go_sem]; try rfl) rfl ?_
            exact ⟨by rw [HEE.out], KE.out⟩
        · have q3' : (kd == 1) = false := by simpa using q3
          by_cases q5 : bi = B
          · by_cases q6 : B < 1
            · skip
              have eE : E = 120 := by rw [HE.out]; exact hangE_no (HKD.out ▸ q3) (fun q => by omega)
              have HEE := @hideH _ eE
              have q5' : (bi != B) = false := by simpa using q5
              clear q5 q3
              clear eE
              go_wp2
              refine bodyPost_ret (by simp [results, Try.results21, go_sem]; try rfl) rfl ?_
              exact ⟨by rw [HEE.out], KE.out⟩
            · by_cases q7 : l ≤ B
              · skip
                have eE : E = 120 := by rw [HE.out]; exact hangE_no (HKD.out ▸ q3) (fun q => by omega)
                have HEE := @hideH _ eE
                have q5' : (bi != B) = false := by simpa using q5
                clear q5 q3
                clear eE
                go_wp2
                refine bodyPost_ret (by simp [results, Try.results21, go_sem]; try rfl) rfl ?_
                exact ⟨by rw [HEE.out], KE.out⟩
              · skip
                have eE : E = 0 := by rw [HE.out]; exact hangE_yes (HKD.out ▸ q3) ⟨by rw [← HKD.out]; omega, by rw [← HKD.out]; omega⟩ ⟨by rw [← HBI.out]; exact q5, by omega, by omega⟩
                have HEE := @hideH _ eE
                have q5' : (bi != B) = false := by simpa using q5
                clear q5 q3
                clear eE
                go_wp2
                refine bodyPost_ret (by simp [results, Try.results21, go_sem]; try rfl) rfl ?_
                exact ⟨by rw [HEE.out], KE.out⟩
          · skip
            have eE : E = 120 := by rw [HE.out]; exact hangE_no (HKD.out ▸ q3) (fun q => q5 (by rw [HBI.out]; exact q.1))
            have HEE := @hideH _ eE
            have q5' : (bi != B) = true := by simpa using q5
            clear q5 q3
            clear eE
            go_wp2
            refine bodyPost_ret (by simp [results, Try.results21, go_sem]; try rfl) rfl ?_
            exact ⟨by rw [HEE.out], KE.out⟩
end Go.Proofs.Ytinlhojojeabcaa

/-
  OWN WORK (by mkch2.py). Layer 12: the document's Back.
-/
namespace Go.Proofs.Ytinlhojojeabcaa
open Go.RowKit
set_option linter.unusedVariables false
set_option linter.unusedSimpArgs false

set_option maxRecDepth 20000 in
set_option maxHeartbeats 3200000 in
theorem rBack (v : Value) (ls : List Ln) (all : Bool) (last : Int) (w : World) (h : Lines w v ls) (hl : I64 last) : Calls Try.prog 11 #[v, .bool all, .int .i64 last] w fun e w' => ∃ a p, e = .returned (.tuple #[a, .int .i64 (backL (rdr ls all) last).2.1, p]) ∧ Ns w' w.heap.size a (backL (rdr ls all) last).1 ∧ Ns w' w.heap.size p (backL (rdr ls all) last).2.2 ∧ Kept [] w w' := by
  obtain ⟨inf, hin1, hin2, hin3, hin4⟩ := info_parts3 (show (Try.prog.info? 3).map (fun i => (i.zero, i.size, i.bytes)) = some (some (.int .i64 0), 1, 8) by kernel_rfl)
  have HI := @hideH _ (And.intro hin1 (And.intro hin2 (And.intro hin3 hin4)))
  clear hin1 hin2 hin3 hin4
  have HS := @hideH _ h
  have HL := @hideH _ hl
  obtain ⟨pv, cv, hv, -⟩ := h.shape
  subst hv
  obtain ⟨nv, hnv⟩ : ∃ n, n = ls.length := ⟨_, rfl⟩
  rw [← hnv] at HS ⊢
  clear h hl hnv
  by_cases c0 : last < 0
  · have HA := @hideH _ (show backL (rdr ls all) last = ([], 120, []) from if_pos c0)
    go_enter Try.func11, Try.ntmps11
    go_wp2
    refine bodyPost_ret (by simp [results, Try.results11, go_sem]; try rfl) rfl ?_
    rw [HA.out]
    exact ⟨_, _, rfl, Ns.nil _ _, Ns.nil _ _, Kept.refl _ _⟩
  · by_cases c1 : last = 0
    · subst c1
      have HA := @hideH _ (show backL (rdr ls all) 0 = ([], 0, []) from rfl)
      go_enter Try.func11, Try.ntmps11
      go_wp2
      go_loopw [9, 10, 11] (fun a b x wr => a = .slice none 0 0 ∧ b = .slice none 0 0 ∧ x = .int .i64 0 ∧ wr = w) (fun _ _ _ _ => 0)
      case atStart => exact ⟨rfl, rfl, rfl, rfl⟩
      case round =>
        obtain ⟨rfl, rfl, rfl, rfl⟩ := hrel
        go_wp2
        refine bodyPost_ret (by simp [results, Try.results11, go_sem]; try rfl) rfl ?_
        rw [HA.out]
        exact ⟨_, _, rfl, Ns.nil _ _, Ns.nil _ _, Kept.refl _ _⟩
    · have HA := @hideH _ (show backF (rdr ls all) 4096 last 0 true [] [] = backL (rdr ls all) last from ((if_neg c0).trans (if_neg c1)).symm)
      have c2 : 0 < last := by omega
      clear c1
      go_enter Try.func11, Try.ntmps11
      go_wp2
      go_loopw [9, 10, 11, 12] (fun vo va vl vb wr => ∃ (k m : Nat) (l B : Int) (out asked : List Int) (po : Option Addr) (co : Nat) (pa : Option Addr) (ca : Nat), vo = .slice po m co ∧ va = .slice pa k ca ∧ vl = .int .i64 l ∧ vb = .int .i64 B ∧ 0 < l ∧ Hid (k = asked.length ∧ m = out.length ∧ k ≤ 4096 ∧ m ≤ k ∧ I64 l ∧ backF (rdr ls all) (4096 - k) l B (decide (k = 0)) out asked = backL (rdr ls all) last ∧ Ns wr w.heap.size (.slice po m co) out ∧ Ns wr w.heap.size (.slice pa k ca) asked ∧ Apt (.slice po m co) (.slice pa k ca) ∧ Kept [] w wr)) (fun _ _ vl _ _ => (intOf vl).toNat)
      case atStart => exact ⟨0, 0, last, 0, [], [], _, _, _, _, rfl, rfl, rfl, rfl, c2, rfl, rfl, by omega, by omega, HL.out, HA.out, Ns.nil _ _, Ns.nil _ _, Apt.nil _, Kept.refl _ _⟩
      case round =>
        obtain ⟨k, m, l, B, out, asked, po, co, pa, ca, rfl, rfl, rfl, rfl, hl0, hh⟩ := hrel
        clear HA c0 c2 HL
        by_cases hk : k = 4096
        · have HA := @hideH _ (show backL (rdr ls all) last = ([], 120, asked) by rw [← hh.out.2.2.2.2.2.1, hk]; rfl)
          subst hk
          go_wp2
          refine bodyPost_ret (by simp [results, Try.results11, go_sem]; try rfl) rfl ?_
          rw [HA.out]
          exact ⟨_, _, rfl, Ns.nil _ _, hh.out.2.2.2.2.2.2.2.1, hh.out.2.2.2.2.2.2.2.2.2⟩
        · have hk' : ((k : Int) == 4096) = false := by simp; omega
          obtain ⟨ek, em, hk1, hmk, hl64, hF, no, na, apt, K⟩ := hh.out
          have HB := @hideH _ (show k < 4096 from by omega)
          have hbs := K.size
          have hrow : Row wr w.heap.size 1 (.slice pa k ca) k (i64s asked) := by rw [ek]; rw [ek] at na; exact na
          have HX := @hideH _ (And.intro ek (And.intro em (And.intro hmk (And.intro hl64 (And.intro hF (And.intro no (And.intro apt (And.intro K na))))))))
          clear hh ek em hk1 hmk hl64 hF no na apt K hk
          have hsrc1 := src_i64 (P := Try.prog) wr 24 3 Try.underlying24 l
          have ka1 : Kept [] wr (wr.alloc (.cells #[.int .i64 l] 3)) := (Kept.refl [] wr).alloc _
          have hrow1 : Row (wr.alloc (.cells #[.int .i64 l] 3)) w.heap.size 1 (.slice pa k ca) k (i64s asked) := Row.kept hrow ka1 (by simp)
          go_wp2_with (at_builtin; refine wpList_append_row2 rfl (.tmp 25) (.tmp 27) 24 rfl w.heap.size 3 inf (.int .i64 0) 1 8 Try.underlying24 HI.out.1 HI.out.2.1 HI.out.2.2.1 HI.out.2.2.2 rfl _ _ _ (by rfl) hrow1 _ 1 [.int .i64 l] (by rfl) hsrc1 (by have := HB.out; omega) (by have := HB.out; unfold maxLen; omega) (by have := HB.out; omega) (by have := hbs; rw [World.size_alloc]; omega) ?_; intro v1 w1 r1 k1 at1; obtain ⟨p1, c1, hv1, -⟩ := Row.shape r1; subst hv1; clear hrow1 hsrc1)
          have na1 := Ns.push HX.out.1 r1
          have HY := @hideH _ (And.intro na1 (And.intro k1 (And.intro at1 ka1)))
          clear r1 k1 at1 ka1 hrow na1
          have K1 : Kept [] w w1 := ((HX.out.2.2.2.2.2.2.2.1).then HY.out.2.2.2).trans HY.out.2.1 (fun x hx => .inr (Ns.lt HX.out.2.2.2.2.2.2.2.2 (by simpa using hx)).1)
          have no1 := Ns.kept (Ns.kept HX.out.2.2.2.2.2.1 HY.out.2.2.2 (by simp)) HY.out.2.1 HX.out.2.2.2.2.2.2.1.not_mem
          have apt1 := Apt.push (HX.out.2.2.2.2.2.2.1).symm (fun x hx => (Ns.lt (Ns.kept HX.out.2.2.2.2.2.1 HY.out.2.2.2 (by simp)) hx).2) HY.out.2.2.1
          have hR := rRead _ ls all l w1 (HS.out.kept K1 (by simp)) (by omega) HX.out.2.2.2.1
          refine hR.mono ?_
          clear hR
          rintro e w2 ⟨q, r, rfl, hr, k2⟩
          have hfit := readL_fits (all := all) (lsn := l) HS.out.1 (by omega) HX.out.2.2.2.1
          rw [hr] at hfit
          have hR : rdr ls all l = (q, r.rc) := by unfold rdr; rw [hr]
          obtain ⟨w3, hw3⟩ : ∃ wx, wx = w2.alloc (.cells #[.int .i64 r.kind, .int .i64 r.birth, .int .i64 r.prev, .int .i64 r.id, .int .i64 r.page, .int .i64 r.frm, .slice r.b.p r.b.n r.b.c, .slice r.a.p r.a.n r.a.c, .int .i64 r.next, .slice r.r.p r.r.n r.r.c, .slice r.d.p r.d.n r.d.c] 42) := ⟨_, rfl⟩
          have k3 : Kept [] w2 w3 := by rw [hw3]; exact (Kept.refl [] w2).alloc _
          have B3 : Blk w3 w2.heap.size 42 [.int .i64 r.kind, .int .i64 r.birth, .int .i64 r.prev, .int .i64 r.id, .int .i64 r.page, .int .i64 r.frm, .slice r.b.p r.b.n r.b.c, .slice r.a.p r.a.n r.a.c, .int .i64 r.next, .slice r.r.p r.r.n r.r.c, .slice r.d.p r.d.n r.d.c] := by rw [hw3]; exact Blk.new w2 _ _
          have HZ := @hideH _ (And.intro (show Kept [] w w3 from (K1.then k2).then k3) (And.intro (no1.kept (k2.then k3) (by simp)) (And.intro (HY.out.1.kept (k2.then k3) (by simp)) (And.intro apt1 (And.intro hR hfit)))))
          have HW := @hideH _ (show ∀ x, (Value.slice po m co).ownBlock = some x → x < w2.heap.size from fun x hx => Nat.lt_of_lt_of_le (Ns.lt no1 hx).2 k2.size)
          clear K1 k2 k3 no1 apt1 hR hfit hr HY
          go_upto_region 11 with fail
          rw [← hw3]
          clear hw3
          have HF := @hideH _ (show 4096 - k = (4095 - k) + 1 from by have := HB.out; omega)
          by_cases hq : q = 0
          case neg =>
            have hq' : (q != 0) = true := by simpa using hq
            have HA := @hideH _ (show backL (rdr ls all) last = ([], q, asked ++ [l]) by rw [← HX.out.2.2.2.2.1, HF.out]; exact backF_err HZ.out.2.2.2.2.1 hq)
            clear hq
            go_wp2
            refine bodyPost_ret (by simp [results, Try.results11, go_sem]; try rfl) rfl ?_
            rw [HA.out]
            exact ⟨_, _, rfl, Ns.nil _ _, HZ.out.2.2.1, HZ.out.1⟩
          case pos =>
            subst hq
            have x0 := B3.cell (j := 0) rfl
            have x1 := B3.cell (j := 1) rfl
            have x2 := B3.cell (j := 2) rfl
            have x3 := B3.cell (j := 3) rfl
            have x4 := B3.cell (j := 4) rfl
            have x5 := B3.cell (j := 5) rfl
            have x6 := B3.cell (j := 6) rfl
            have x7 := B3.cell (j := 7) rfl
            have x8 := B3.cell (j := 8) rfl
            have x9 := B3.cell (j := 9) rfl
            have x10 := B3.cell (j := 10) rfl
            go_wp2_with fail
            obtain ⟨f, hf⟩ : ∃ f : Bool, f = ((k : Int) + 1 == 1) := ⟨_, rfl⟩
            rw [← hf]
            have hf2 : f = decide (k = 0) := by rw [hf]; by_cases c : k = 0 <;> simp [c] <;> omega
            clear hf
            refine (rChained r l B f w3).mono ?_
            rintro e w4 ⟨rfl, k4⟩
            obtain ⟨B', hB'⟩ : ∃ B', B' = bornAt f B r.rc l := ⟨_, rfl⟩
            rw [← hB']
            obtain ⟨E, hE⟩ : ∃ E, E = hangE r.rc l B' := ⟨_, rfl⟩
            rw [← hE]
            have HBB := @hideH _ (And.intro (show B' = bornAt (decide (k = 0)) B r.rc l by rw [← hf2]; exact hB') hE)
            replace x0 := k4.cell x0 (by simp)
            replace x1 := k4.cell x1 (by simp)
            replace x2 := k4.cell x2 (by simp)
            replace x3 := k4.cell x3 (by simp)
            replace x4 := k4.cell x4 (by simp)
            replace x5 := k4.cell x5 (by simp)
            replace x6 := k4.cell x6 (by simp)
            replace x7 := k4.cell x7 (by simp)
            replace x8 := k4.cell x8 (by simp)
            replace x9 := k4.cell x9 (by simp)
            replace x10 := k4.cell x10 (by simp)
            have HZ4 := @hideH _ (And.intro (show Kept [] w w4 from HZ.out.1.then k4) (And.intro (HZ.out.2.1.kept k4 (by simp)) (HZ.out.2.2.1.kept k4 (by simp))))
            clear hf2 hB' hE k4 B3
            by_cases hE0 : E = 0
            case neg =>
              have hE0' : (E != 0) = true := by simpa using hE0
              obtain ⟨e120, hnh⟩ : E = 120 ∧ ¬ hangs r.rc l B' := by rw [HBB.out.2]; exact (hangE_two r.rc l B').resolve_left fun c => hE0 (by rw [HBB.out.2]; exact c.1)
              have HA := @hideH _ (show backL (rdr ls all) last = ([], 120, asked ++ [l]) by rw [← HX.out.2.2.2.2.1, HF.out]; exact backF_no HZ.out.2.2.2.2.1 (by rw [← HBB.out.1]; exact backStep_hang hnh))
              subst e120
              clear hE0 hE0' hnh
              go_wp2
              refine bodyPost_ret (by simp [results, Try.results11, go_sem]; try rfl) rfl ?_
              rw [HA.out]
              exact ⟨_, _, rfl, Ns.nil _ _, HZ4.out.2.2, HZ4.out.1⟩
            case pos =>
              have HH := @hideH _ (show hangs r.rc l B' from ((hangE_two r.rc l B').resolve_right fun c => by rw [← HBB.out.2, hE0] at c; exact absurd c.1 (by decide)).2)
              subst hE0
              have hrow : Row w4 w.heap.size 1 (.slice po m co) m (i64s out) := by have e := HX.out.2.1; have q := HZ4.out.2.1; rw [e]; rw [e] at q; exact q
              have HB2 := @hideH _ (show m < 4096 from by have := HB.out; have := HX.out.2.2.1; omega)
              have hbs4 := HZ4.out.1.size
              have HNE := @hideH _ (show w2.heap.size ∉ (Value.slice po m co).ownBlock.toList from fun hm => by have e1 := HW.out _ (Option.mem_toList.1 hm); omega)
              clear x1 x3 x4 x5 x6 x7 x8 x9 x10
              by_cases hk1 : r.kind = 1
              · have HA := @hideH _ (show backL (rdr ls all) last = (out ++ [l], 0, asked ++ [l]) by rw [← HX.out.2.2.2.2.1, HF.out]; exact backF_fin HZ.out.2.2.2.2.1 (by rw [← HBB.out.1]; exact backStep_begin HH.out hk1))
                rw [hk1] at x0
                clear hk1
                have hsrc5 := src_i64 (P := Try.prog) w4 24 3 Try.underlying24 l
                have ka5 : Kept [] w4 (w4.alloc (.cells #[.int .i64 l] 3)) := (Kept.refl [] w4).alloc _
                have hrow5 : Row (w4.alloc (.cells #[.int .i64 l] 3)) w.heap.size 1 (.slice po m co) m (i64s out) := Row.kept hrow ka5 (by simp)
                go_wp2_with (at_builtin; refine wpList_append_row2 rfl (.tmp 54) (.tmp 56) 24 rfl w.heap.size 3 inf (.int .i64 0) 1 8 Try.underlying24 HI.out.1 HI.out.2.1 HI.out.2.2.1 HI.out.2.2.2 rfl _ _ _ (by rfl) hrow5 _ 1 [.int .i64 l] (by rfl) hsrc5 (by have := HB2.out; omega) (by have := HB2.out; unfold maxLen; omega) (by have := HB2.out; omega) (by have := hbs4; rw [World.size_alloc]; omega) ?_; intro v5 w5 r5 k5 at5; obtain ⟨p5, c5, hv5, -⟩ := Row.shape r5; subst hv5; have d0 := k5.cell (ka5.cell x0 List.not_mem_nil) HNE.out; have d2 := k5.cell (ka5.cell x2 List.not_mem_nil) HNE.out; have HQ := @hideH _ (And.intro r5 (And.intro k5 (And.intro at5 ka5))); clear r5 k5 at5 ka5 x0 x2; clear hrow5 hsrc5)
                have no5 := Ns.push HX.out.2.1 HQ.out.1
                have K5 : Kept [] w w5 := (HZ4.out.1.then HQ.out.2.2.2).trans HQ.out.2.1 (fun x hx => .inr (Ns.lt HZ4.out.2.1 (by simpa using hx)).1)
                have na5 := Ns.kept (Ns.kept HZ4.out.2.2 HQ.out.2.2.2 (by simp)) HQ.out.2.1 HZ.out.2.2.2.1.not_mem
                have apt5 := Apt.push HZ.out.2.2.2.1.symm (fun x hx => (Ns.lt (Ns.kept HZ4.out.2.2 HQ.out.2.2.2 (by simp)) hx).2) HQ.out.2.2.1
                refine bodyPost_ret (by simp [results, Try.results11, go_sem]; try rfl) rfl ?_
                rw [HA.out]
                exact ⟨_, _, rfl, no5, na5, K5⟩
              · have hk1' : (r.kind == 1) = false := by simpa using hk1
                by_cases p1 : r.prev < B'
                · skip
                  have HA := @hideH _ (show backL (rdr ls all) last = ([], 120, asked ++ [l]) by rw [← HX.out.2.2.2.2.1, HF.out]; exact backF_no HZ.out.2.2.2.2.1 (by rw [← HBB.out.1]; exact backStep_prev hk1 (by first | exact .inl p1 | exact .inr p2)))
                  clear hk1
                  have hsrc5 := src_i64 (P := Try.prog) w4 24 3 Try.underlying24 l
                  have ka5 : Kept [] w4 (w4.alloc (.cells #[.int .i64 l] 3)) := (Kept.refl [] w4).alloc _
                  have hrow5 : Row (w4.alloc (.cells #[.int .i64 l] 3)) w.heap.size 1 (.slice po m co) m (i64s out) := Row.kept hrow ka5 (by simp)
                  go_wp2_with (at_builtin; refine wpList_append_row2 rfl (.tmp 54) (.tmp 56) 24 rfl w.heap.size 3 inf (.int .i64 0) 1 8 Try.underlying24 HI.out.1 HI.out.2.1 HI.out.2.2.1 HI.out.2.2.2 rfl _ _ _ (by rfl) hrow5 _ 1 [.int .i64 l] (by rfl) hsrc5 (by have := HB2.out; omega) (by have := HB2.out; unfold maxLen; omega) (by have := HB2.out; omega) (by have := hbs4; rw [World.size_alloc]; omega) ?_; intro v5 w5 r5 k5 at5; obtain ⟨p5, c5, hv5, -⟩ := Row.shape r5; subst hv5; have d0 := k5.cell (ka5.cell x0 List.not_mem_nil) HNE.out; have d2 := k5.cell (ka5.cell x2 List.not_mem_nil) HNE.out; have HQ := @hideH _ (And.intro r5 (And.intro k5 (And.intro at5 ka5))); clear r5 k5 at5 ka5 x0 x2; clear hrow5 hsrc5)
                  have no5 := Ns.push HX.out.2.1 HQ.out.1
                  have K5 : Kept [] w w5 := (HZ4.out.1.then HQ.out.2.2.2).trans HQ.out.2.1 (fun x hx => .inr (Ns.lt HZ4.out.2.1 (by simpa using hx)).1)
                  have na5 := Ns.kept (Ns.kept HZ4.out.2.2 HQ.out.2.2.2 (by simp)) HQ.out.2.1 HZ.out.2.2.2.1.not_mem
                  have apt5 := Apt.push HZ.out.2.2.2.1.symm (fun x hx => (Ns.lt (Ns.kept HZ4.out.2.2 HQ.out.2.2.2 (by simp)) hx).2) HQ.out.2.2.1
                  refine bodyPost_ret (by simp [results, Try.results11, go_sem]; try rfl) rfl ?_
                  rw [HA.out]
                  exact ⟨_, _, rfl, Ns.nil _ _, na5, K5⟩
                · by_cases p2 : l ≤ r.prev
                  · skip
                    have HA := @hideH _ (show backL (rdr ls all) last = ([], 120, asked ++ [l]) by rw [← HX.out.2.2.2.2.1, HF.out]; exact backF_no HZ.out.2.2.2.2.1 (by rw [← HBB.out.1]; exact backStep_prev hk1 (by first | exact .inl p1 | exact .inr p2)))
                    clear hk1
                    have hsrc5 := src_i64 (P := Try.prog) w4 24 3 Try.underlying24 l
                    have ka5 : Kept [] w4 (w4.alloc (.cells #[.int .i64 l] 3)) := (Kept.refl [] w4).alloc _
                    have hrow5 : Row (w4.alloc (.cells #[.int .i64 l] 3)) w.heap.size 1 (.slice po m co) m (i64s out) := Row.kept hrow ka5 (by simp)
                    go_wp2_with (at_builtin; refine wpList_append_row2 rfl (.tmp 54) (.tmp 56) 24 rfl w.heap.size 3 inf (.int .i64 0) 1 8 Try.underlying24 HI.out.1 HI.out.2.1 HI.out.2.2.1 HI.out.2.2.2 rfl _ _ _ (by rfl) hrow5 _ 1 [.int .i64 l] (by rfl) hsrc5 (by have := HB2.out; omega) (by have := HB2.out; unfold maxLen; omega) (by have := HB2.out; omega) (by have := hbs4; rw [World.size_alloc]; omega) ?_; intro v5 w5 r5 k5 at5; obtain ⟨p5, c5, hv5, -⟩ := Row.shape r5; subst hv5; have d0 := k5.cell (ka5.cell x0 List.not_mem_nil) HNE.out; have d2 := k5.cell (ka5.cell x2 List.not_mem_nil) HNE.out; have HQ := @hideH _ (And.intro r5 (And.intro k5 (And.intro at5 ka5))); clear r5 k5 at5 ka5 x0 x2; clear hrow5 hsrc5)
                    have no5 := Ns.push HX.out.2.1 HQ.out.1
                    have K5 : Kept [] w w5 := (HZ4.out.1.then HQ.out.2.2.2).trans HQ.out.2.1 (fun x hx => .inr (Ns.lt HZ4.out.2.1 (by simpa using hx)).1)
                    have na5 := Ns.kept (Ns.kept HZ4.out.2.2 HQ.out.2.2.2 (by simp)) HQ.out.2.1 HZ.out.2.2.2.1.not_mem
                    have apt5 := Apt.push HZ.out.2.2.2.1.symm (fun x hx => (Ns.lt (Ns.kept HZ4.out.2.2 HQ.out.2.2.2 (by simp)) hx).2) HQ.out.2.2.1
                    refine bodyPost_ret (by simp [results, Try.results11, go_sem]; try rfl) rfl ?_
                    rw [HA.out]
                    exact ⟨_, _, rfl, Ns.nil _ _, na5, K5⟩
                  · have HA := @hideH _ (show backF (rdr ls all) (4096 - (k + 1)) r.prev B' (decide (k + 1 = 0)) (out ++ [l]) (asked ++ [l]) = backL (rdr ls all) last by rw [← HX.out.2.2.2.2.1, HF.out, backF_on HZ.out.2.2.2.2.1 (by rw [← HBB.out.1]; exact backStep_go HH.out hk1 (Int.not_lt.1 p1) (Int.not_le.1 p2)), ← HBB.out.1, show 4096 - (k + 1) = 4095 - k by omega]; rfl)
                    have HP := @hideH _ (show 0 < r.prev from by have := ((HH.out).2.2 hk1).2.1; omega)
                    have HP2 := @hideH _ (show r.prev < l from Int.not_le.1 p2)
                    clear hk1
                    have hsrc5 := src_i64 (P := Try.prog) w4 24 3 Try.underlying24 l
                    have ka5 : Kept [] w4 (w4.alloc (.cells #[.int .i64 l] 3)) := (Kept.refl [] w4).alloc _
                    have hrow5 : Row (w4.alloc (.cells #[.int .i64 l] 3)) w.heap.size 1 (.slice po m co) m (i64s out) := Row.kept hrow ka5 (by simp)
                    go_wp2_with (at_builtin; refine wpList_append_row2 rfl (.tmp 54) (.tmp 56) 24 rfl w.heap.size 3 inf (.int .i64 0) 1 8 Try.underlying24 HI.out.1 HI.out.2.1 HI.out.2.2.1 HI.out.2.2.2 rfl _ _ _ (by rfl) hrow5 _ 1 [.int .i64 l] (by rfl) hsrc5 (by have := HB2.out; omega) (by have := HB2.out; unfold maxLen; omega) (by have := HB2.out; omega) (by have := hbs4; rw [World.size_alloc]; omega) ?_; intro v5 w5 r5 k5 at5; obtain ⟨p5, c5, hv5, -⟩ := Row.shape r5; subst hv5; have d0 := k5.cell (ka5.cell x0 List.not_mem_nil) HNE.out; have d2 := k5.cell (ka5.cell x2 List.not_mem_nil) HNE.out; have HQ := @hideH _ (And.intro r5 (And.intro k5 (And.intro at5 ka5))); clear r5 k5 at5 ka5 x0 x2; clear hrow5 hsrc5)
                    have no5 := Ns.push HX.out.2.1 HQ.out.1
                    have K5 : Kept [] w w5 := (HZ4.out.1.then HQ.out.2.2.2).trans HQ.out.2.1 (fun x hx => .inr (Ns.lt HZ4.out.2.1 (by simpa using hx)).1)
                    have na5 := Ns.kept (Ns.kept HZ4.out.2.2 HQ.out.2.2.2 (by simp)) HQ.out.2.1 HZ.out.2.2.2.1.not_mem
                    have apt5 := Apt.push HZ.out.2.2.2.1.symm (fun x hx => (Ns.lt (Ns.kept HZ4.out.2.2 HQ.out.2.2.2 (by simp)) hx).2) HQ.out.2.2.1
                    go_roundw
                    case rel => exact ⟨k + 1, m + 1, r.prev, B', out ++ [l], asked ++ [l], _, _, _, _, rfl, rfl, rfl, rfl, HP.out, by rw [List.length_append, HX.out.1]; rfl, by rw [List.length_append, HX.out.2.1]; rfl, by have := HB.out; omega, by have := HX.out.2.2.1; omega, (HZ.out.2.2.2.2.2.1).2.2.1, HA.out, no5, na5, apt5, K5⟩
                    case measure => have e1 := HP.out; have e2 := HP2.out; simp [intOf]; omega
end Go.Proofs.Ytinlhojojeabcaa

/-
  OWN WORK (by mkch3.py). Layer 12: the document's Undo.
-/
namespace Go.Proofs.Ytinlhojojeabcaa
open Go.RowKit
set_option linter.unusedVariables false
set_option linter.unusedSimpArgs false

set_option maxRecDepth 20000 in
set_option maxHeartbeats 3200000 in
theorem rUndo (v : Value) (ls : List Ln) (all : Bool) (last : Int) (w : World) (h : Lines w v ls) (hl : I64 last) : Calls Try.prog 13 #[v, .bool all, .int .i64 last] w fun e w' => ∃ a p, e = .returned (.tuple #[a, .int .i64 (undoL (rdr ls all) last).2.1, p]) ∧ Ns w' w.heap.size a (undoL (rdr ls all) last).1 ∧ Ns w' w.heap.size p (undoL (rdr ls all) last).2.2 ∧ Kept [] w w' := by
  obtain ⟨inf, hin1, hin2, hin3, hin4⟩ := info_parts3 (show (Try.prog.info? 3).map (fun i => (i.zero, i.size, i.bytes)) = some (some (.int .i64 0), 1, 8) by kernel_rfl)
  have HI := @hideH _ (And.intro hin1 (And.intro hin2 (And.intro hin3 hin4)))
  clear hin1 hin2 hin3 hin4
  have HS := @hideH _ h
  have HL := @hideH _ hl
  obtain ⟨pv, cv, hv, -⟩ := h.shape
  subst hv
  obtain ⟨nv, hnv⟩ : ∃ n, n = ls.length := ⟨_, rfl⟩
  rw [← hnv] at HS ⊢
  clear h hl hnv
  by_cases c0 : last < 0
  · have HA := @hideH _ (show undoL (rdr ls all) last = ([], 120, []) from if_pos c0)
    go_enter Try.func13, Try.ntmps13
    go_wp2
    refine bodyPost_ret (by simp [results, Try.results13, go_sem]; try rfl) rfl ?_
    rw [HA.out]
    exact ⟨_, _, rfl, Ns.nil _ _, Ns.nil _ _, Kept.refl _ _⟩
  · by_cases c1 : last = 0
    · subst c1
      have HA := @hideH _ (show undoL (rdr ls all) 0 = ([], 0, []) from rfl)
      go_enter Try.func13, Try.ntmps13
      go_wp2
      go_loopw [9, 10, 11] (fun a b x wr => a = .slice none 0 0 ∧ b = .slice none 0 0 ∧ x = .int .i64 0 ∧ wr = w) (fun _ _ _ _ => 0)
      case atStart => exact ⟨rfl, rfl, rfl, rfl⟩
      case round =>
        obtain ⟨rfl, rfl, rfl, rfl⟩ := hrel
        go_wp2
        refine bodyPost_ret (by simp [results, Try.results13, go_sem]; try rfl) rfl ?_
        rw [HA.out]
        exact ⟨_, _, rfl, Ns.nil _ _, Ns.nil _ _, Kept.refl _ _⟩
    · have HA := @hideH _ (show undoF (rdr ls all) 4096 last 0 true true [] [] = undoL (rdr ls all) last from ((if_neg c0).trans (if_neg c1)).symm)
      have c2 : 0 < last := by omega
      clear c1
      go_enter Try.func13, Try.ntmps13
      go_wp2
      go_loopw [9, 10, 11, 12, 13] (fun vo va vl vb vm wr => ∃ (k m : Nat) (l B : Int) (M : Bool) (out asked : List Int) (po : Option Addr) (co : Nat) (pa : Option Addr) (ca : Nat), vo = .slice po m co ∧ va = .slice pa k ca ∧ vl = .int .i64 l ∧ vb = .int .i64 B ∧ vm = .bool M ∧ 0 < l ∧ Hid (k = asked.length ∧ m = out.length ∧ k ≤ 4096 ∧ m ≤ k ∧ I64 l ∧ undoF (rdr ls all) (4096 - k) l B (decide (k = 0)) M out asked = undoL (rdr ls all) last ∧ Ns wr w.heap.size (.slice po m co) out ∧ Ns wr w.heap.size (.slice pa k ca) asked ∧ Apt (.slice po m co) (.slice pa k ca) ∧ Kept [] w wr)) (fun _ _ vl _ _ _ => (intOf vl).toNat)
      case atStart => exact ⟨0, 0, last, 0, true, [], [], _, _, _, _, rfl, rfl, rfl, rfl, rfl, c2, rfl, rfl, by omega, by omega, HL.out, HA.out, Ns.nil _ _, Ns.nil _ _, Apt.nil _, Kept.refl _ _⟩
      case round =>
        obtain ⟨k, m, l, B, M, out, asked, po, co, pa, ca, rfl, rfl, rfl, rfl, rfl, hl0, hh⟩ := hrel
        clear HA c0 c2 HL
        by_cases hk : k = 4096
        · have HA := @hideH _ (show undoL (rdr ls all) last = ([], 120, asked) by rw [← hh.out.2.2.2.2.2.1, hk]; rfl)
          subst hk
          go_wp2
          refine bodyPost_ret (by simp [results, Try.results13, go_sem]; try rfl) rfl ?_
          rw [HA.out]
          exact ⟨_, _, rfl, Ns.nil _ _, hh.out.2.2.2.2.2.2.2.1, hh.out.2.2.2.2.2.2.2.2.2⟩
        · have hk' : ((k : Int) == 4096) = false := by simp; omega
          obtain ⟨ek, em, hk1, hmk, hl64, hF, no, na, apt, K⟩ := hh.out
          have HB := @hideH _ (show k < 4096 from by omega)
          have hbs := K.size
          have hrow : Row wr w.heap.size 1 (.slice pa k ca) k (i64s asked) := by rw [ek]; rw [ek] at na; exact na
          have HX := @hideH _ (And.intro ek (And.intro em (And.intro hmk (And.intro hl64 (And.intro hF (And.intro no (And.intro apt (And.intro K na))))))))
          clear hh ek em hk1 hmk hl64 hF no na apt K hk
          have hsrc1 := src_i64 (P := Try.prog) wr 24 3 Try.underlying24 l
          have ka1 : Kept [] wr (wr.alloc (.cells #[.int .i64 l] 3)) := (Kept.refl [] wr).alloc _
          have hrow1 : Row (wr.alloc (.cells #[.int .i64 l] 3)) w.heap.size 1 (.slice pa k ca) k (i64s asked) := Row.kept hrow ka1 (by simp)
          go_wp2_with (at_builtin; refine wpList_append_row2 rfl (.tmp 27) (.tmp 29) 24 rfl w.heap.size 3 inf (.int .i64 0) 1 8 Try.underlying24 HI.out.1 HI.out.2.1 HI.out.2.2.1 HI.out.2.2.2 rfl _ _ _ (by rfl) hrow1 _ 1 [.int .i64 l] (by rfl) hsrc1 (by have := HB.out; omega) (by have := HB.out; unfold maxLen; omega) (by have := HB.out; omega) (by have := hbs; rw [World.size_alloc]; omega) ?_; intro v1 w1 r1 k1 at1; obtain ⟨p1, c1, hv1, -⟩ := Row.shape r1; subst hv1; clear hrow1 hsrc1)
          have na1 := Ns.push HX.out.1 r1
          have HY := @hideH _ (And.intro na1 (And.intro k1 (And.intro at1 ka1)))
          clear r1 k1 at1 ka1 hrow na1
          have K1 : Kept [] w w1 := ((HX.out.2.2.2.2.2.2.2.1).then HY.out.2.2.2).trans HY.out.2.1 (fun x hx => .inr (Ns.lt HX.out.2.2.2.2.2.2.2.2 (by simpa using hx)).1)
          have no1 := Ns.kept (Ns.kept HX.out.2.2.2.2.2.1 HY.out.2.2.2 (by simp)) HY.out.2.1 HX.out.2.2.2.2.2.2.1.not_mem
          have apt1 := Apt.push (HX.out.2.2.2.2.2.2.1).symm (fun x hx => (Ns.lt (Ns.kept HX.out.2.2.2.2.2.1 HY.out.2.2.2 (by simp)) hx).2) HY.out.2.2.1
          have hR := rRead _ ls all l w1 (HS.out.kept K1 (by simp)) (by omega) HX.out.2.2.2.1
          refine hR.mono ?_
          clear hR
          rintro e w2 ⟨q, r, rfl, hr, k2⟩
          have hfit := readL_fits (all := all) (lsn := l) HS.out.1 (by omega) HX.out.2.2.2.1
          rw [hr] at hfit
          have hR : rdr ls all l = (q, r.rc) := by unfold rdr; rw [hr]
          obtain ⟨w3, hw3⟩ : ∃ wx, wx = w2.alloc (.cells #[.int .i64 r.kind, .int .i64 r.birth, .int .i64 r.prev, .int .i64 r.id, .int .i64 r.page, .int .i64 r.frm, .slice r.b.p r.b.n r.b.c, .slice r.a.p r.a.n r.a.c, .int .i64 r.next, .slice r.r.p r.r.n r.r.c, .slice r.d.p r.d.n r.d.c] 42) := ⟨_, rfl⟩
          have k3 : Kept [] w2 w3 := by rw [hw3]; exact (Kept.refl [] w2).alloc _
          have B3 : Blk w3 w2.heap.size 42 [.int .i64 r.kind, .int .i64 r.birth, .int .i64 r.prev, .int .i64 r.id, .int .i64 r.page, .int .i64 r.frm, .slice r.b.p r.b.n r.b.c, .slice r.a.p r.a.n r.a.c, .int .i64 r.next, .slice r.r.p r.r.n r.r.c, .slice r.d.p r.d.n r.d.c] := by rw [hw3]; exact Blk.new w2 _ _
          have HZ := @hideH _ (And.intro (show Kept [] w w3 from (K1.then k2).then k3) (And.intro (no1.kept (k2.then k3) (by simp)) (And.intro (HY.out.1.kept (k2.then k3) (by simp)) (And.intro apt1 (And.intro hR hfit)))))
          have HW := @hideH _ (show ∀ x, (Value.slice po m co).ownBlock = some x → x < w2.heap.size from fun x hx => Nat.lt_of_lt_of_le (Ns.lt no1 hx).2 k2.size)
          clear K1 k2 k3 no1 apt1 hR hfit hr HY
          go_upto_region 12 with fail
          rw [← hw3]
          clear hw3
          have HF := @hideH _ (show 4096 - k = (4095 - k) + 1 from by have := HB.out; omega)
          by_cases hq : q = 0
          case neg =>
            have hq' : (q != 0) = true := by simpa using hq
            have HA := @hideH _ (show undoL (rdr ls all) last = ([], q, asked ++ [l]) by rw [← HX.out.2.2.2.2.1, HF.out]; exact undoF_err HZ.out.2.2.2.2.1 hq)
            clear hq
            go_wp2
            refine bodyPost_ret (by simp [results, Try.results13, go_sem]; try rfl) rfl ?_
            rw [HA.out]
            exact ⟨_, _, rfl, Ns.nil _ _, HZ.out.2.2.1, HZ.out.1⟩
          case pos =>
            subst hq
            have x0 := B3.cell (j := 0) rfl
            have x1 := B3.cell (j := 1) rfl
            have x2 := B3.cell (j := 2) rfl
            have x3 := B3.cell (j := 3) rfl
            have x4 := B3.cell (j := 4) rfl
            have x5 := B3.cell (j := 5) rfl
            have x6 := B3.cell (j := 6) rfl
            have x7 := B3.cell (j := 7) rfl
            have x8 := B3.cell (j := 8) rfl
            have x9 := B3.cell (j := 9) rfl
            have x10 := B3.cell (j := 10) rfl
            go_wp2_with fail
            obtain ⟨f, hf⟩ : ∃ f : Bool, f = ((k : Int) + 1 == 1) := ⟨_, rfl⟩
            rw [← hf]
            have hf2 : f = decide (k = 0) := by rw [hf]; by_cases c : k = 0 <;> simp [c] <;> omega
            clear hf
            refine (rChained r l B f w3).mono ?_
            rintro e w4 ⟨rfl, k4⟩
            obtain ⟨B', hB'⟩ : ∃ B', B' = bornAt f B r.rc l := ⟨_, rfl⟩
            rw [← hB']
            obtain ⟨E, hE⟩ : ∃ E, E = hangE r.rc l B' := ⟨_, rfl⟩
            rw [← hE]
            have HBB := @hideH _ (And.intro (show B' = bornAt (decide (k = 0)) B r.rc l by rw [← hf2]; exact hB') hE)
            replace x0 := k4.cell x0 (by simp)
            replace x1 := k4.cell x1 (by simp)
            replace x2 := k4.cell x2 (by simp)
            replace x3 := k4.cell x3 (by simp)
            replace x4 := k4.cell x4 (by simp)
            replace x5 := k4.cell x5 (by simp)
            replace x6 := k4.cell x6 (by simp)
            replace x7 := k4.cell x7 (by simp)
            replace x8 := k4.cell x8 (by simp)
            replace x9 := k4.cell x9 (by simp)
            replace x10 := k4.cell x10 (by simp)
            have HZ4 := @hideH _ (And.intro (show Kept [] w w4 from HZ.out.1.then k4) (And.intro (HZ.out.2.1.kept k4 (by simp)) (HZ.out.2.2.1.kept k4 (by simp))))
            clear hf2 hB' hE k4 B3
            by_cases hE0 : E = 0
            case neg =>
              have hE0' : (E != 0) = true := by simpa using hE0
              obtain ⟨e120, hnh⟩ : E = 120 ∧ ¬ hangs r.rc l B' := by rw [HBB.out.2]; exact (hangE_two r.rc l B').resolve_left fun c => hE0 (by rw [HBB.out.2]; exact c.1)
              have HA := @hideH _ (show undoL (rdr ls all) last = ([], 120, asked ++ [l]) by rw [← HX.out.2.2.2.2.1, HF.out]; exact undoF_no HZ.out.2.2.2.2.1 (by rw [← HBB.out.1]; exact undoStep_hang hnh))
              subst e120
              clear hE0 hE0' hnh
              go_wp2
              refine bodyPost_ret (by simp [results, Try.results13, go_sem]; try rfl) rfl ?_
              rw [HA.out]
              exact ⟨_, _, rfl, Ns.nil _ _, HZ4.out.2.2, HZ4.out.1⟩
            case pos =>
              have HH := @hideH _ (show hangs r.rc l B' from ((hangE_two r.rc l B').resolve_right fun c => by rw [← HBB.out.2, hE0] at c; exact absurd c.1 (by decide)).2)
              subst hE0
              have hrow : Row w4 w.heap.size 1 (.slice po m co) m (i64s out) := by have e := HX.out.2.1; have q := HZ4.out.2.1; rw [e]; rw [e] at q; exact q
              have HB2 := @hideH _ (show m < 4096 from by have := HB.out; have := HX.out.2.2.1; omega)
              have hbs4 := HZ4.out.1.size
              have HNE := @hideH _ (show w2.heap.size ∉ (Value.slice po m co).ownBlock.toList from fun hm => by have e1 := HW.out _ (Option.mem_toList.1 hm); omega)
              clear x1 x3 x4 x5 x6 x7 x9 x10
              by_cases hk2 : r.kind = 2
              · have hk1 : r.kind ≠ 1 := by omega
                have hk3 : r.kind ≠ 3 := by omega
                have HK2 := @hideH _ hk2
                rw [hk2] at x0
                cases M with
                | false =>
                  by_cases p1 : r.prev < B'
                  · skip
                    have HA := @hideH _ (show undoL (rdr ls all) last = ([], 120, asked ++ [l]) by rw [← HX.out.2.2.2.2.1, HF.out]; exact undoF_no HZ.out.2.2.2.2.1 (by rw [← HBB.out.1]; exact undoStep_prev hk1 hk3 (.inl p1)))
                    clear hk1 hk2 hk3
                    have hsrc5 := src_i64 (P := Try.prog) w4 24 3 Try.underlying24 l
                    have ka5 : Kept [] w4 (w4.alloc (.cells #[.int .i64 l] 3)) := (Kept.refl [] w4).alloc _
                    have hrow5 : Row (w4.alloc (.cells #[.int .i64 l] 3)) w.heap.size 1 (.slice po m co) m (i64s out) := Row.kept hrow ka5 (by simp)
                    go_wp2_with (at_builtin; refine wpList_append_row2 rfl (.tmp 83) (.tmp 85) 24 rfl w.heap.size 3 inf (.int .i64 0) 1 8 Try.underlying24 HI.out.1 HI.out.2.1 HI.out.2.2.1 HI.out.2.2.2 rfl _ _ _ (by rfl) hrow5 _ 1 [.int .i64 l] (by rfl) hsrc5 (by have := HB2.out; omega) (by have := HB2.out; unfold maxLen; omega) (by have := HB2.out; omega) (by have := hbs4; rw [World.size_alloc]; omega) ?_; intro v5 w5 r5 k5 at5; obtain ⟨p5, c5, hv5, -⟩ := Row.shape r5; subst hv5; have d0 := k5.cell (ka5.cell x0 List.not_mem_nil) HNE.out; have d2 := k5.cell (ka5.cell x2 List.not_mem_nil) HNE.out; have HQ := @hideH _ (And.intro r5 (And.intro k5 (And.intro at5 ka5))); clear r5 k5 at5 ka5 x0 x2; clear hrow5 hsrc5)
                    have no5 := Ns.push HX.out.2.1 HQ.out.1
                    have K5 : Kept [] w w5 := (HZ4.out.1.then HQ.out.2.2.2).trans HQ.out.2.1 (fun x hx => .inr (Ns.lt HZ4.out.2.1 (by simpa using hx)).1)
                    have na5 := Ns.kept (Ns.kept HZ4.out.2.2 HQ.out.2.2.2 (by simp)) HQ.out.2.1 HZ.out.2.2.2.1.not_mem
                    have apt5 := Apt.push HZ.out.2.2.2.1.symm (fun x hx => (Ns.lt (Ns.kept HZ4.out.2.2 HQ.out.2.2.2 (by simp)) hx).2) HQ.out.2.2.1
                    refine bodyPost_ret (by simp [results, Try.results13, go_sem]; try rfl) rfl ?_
                    rw [HA.out]
                    exact ⟨_, _, rfl, Ns.nil _ _, na5, K5⟩
                  · by_cases p2 : l ≤ r.prev
                    · skip
                      have HA := @hideH _ (show undoL (rdr ls all) last = ([], 120, asked ++ [l]) by rw [← HX.out.2.2.2.2.1, HF.out]; exact undoF_no HZ.out.2.2.2.2.1 (by rw [← HBB.out.1]; exact undoStep_prev hk1 hk3 (.inr p2)))
                      clear hk1 hk2 hk3
                      have hsrc5 := src_i64 (P := Try.prog) w4 24 3 Try.underlying24 l
                      have ka5 : Kept [] w4 (w4.alloc (.cells #[.int .i64 l] 3)) := (Kept.refl [] w4).alloc _
                      have hrow5 : Row (w4.alloc (.cells #[.int .i64 l] 3)) w.heap.size 1 (.slice po m co) m (i64s out) := Row.kept hrow ka5 (by simp)
                      go_wp2_with (at_builtin; refine wpList_append_row2 rfl (.tmp 83) (.tmp 85) 24 rfl w.heap.size 3 inf (.int .i64 0) 1 8 Try.underlying24 HI.out.1 HI.out.2.1 HI.out.2.2.1 HI.out.2.2.2 rfl _ _ _ (by rfl) hrow5 _ 1 [.int .i64 l] (by rfl) hsrc5 (by have := HB2.out; omega) (by have := HB2.out; unfold maxLen; omega) (by have := HB2.out; omega) (by have := hbs4; rw [World.size_alloc]; omega) ?_; intro v5 w5 r5 k5 at5; obtain ⟨p5, c5, hv5, -⟩ := Row.shape r5; subst hv5; have d0 := k5.cell (ka5.cell x0 List.not_mem_nil) HNE.out; have d2 := k5.cell (ka5.cell x2 List.not_mem_nil) HNE.out; have HQ := @hideH _ (And.intro r5 (And.intro k5 (And.intro at5 ka5))); clear r5 k5 at5 ka5 x0 x2; clear hrow5 hsrc5)
                      have no5 := Ns.push HX.out.2.1 HQ.out.1
                      have K5 : Kept [] w w5 := (HZ4.out.1.then HQ.out.2.2.2).trans HQ.out.2.1 (fun x hx => .inr (Ns.lt HZ4.out.2.1 (by simpa using hx)).1)
                      have na5 := Ns.kept (Ns.kept HZ4.out.2.2 HQ.out.2.2.2 (by simp)) HQ.out.2.1 HZ.out.2.2.2.1.not_mem
                      have apt5 := Apt.push HZ.out.2.2.2.1.symm (fun x hx => (Ns.lt (Ns.kept HZ4.out.2.2 HQ.out.2.2.2 (by simp)) hx).2) HQ.out.2.2.1
                      refine bodyPost_ret (by simp [results, Try.results13, go_sem]; try rfl) rfl ?_
                      rw [HA.out]
                      exact ⟨_, _, rfl, Ns.nil _ _, na5, K5⟩
                    · skip
                      have HA := @hideH _ (show undoF (rdr ls all) (4096 - (k + 1)) r.prev B' (decide (k + 1 = 0)) false (out ++ [l]) (asked ++ [l]) = undoL (rdr ls all) last by rw [← HX.out.2.2.2.2.1, HF.out, undoF_on HZ.out.2.2.2.2.1 (by rw [← HBB.out.1]; exact undoStep_go HH.out (fun _ => hk2) hk1 hk3 (Int.not_lt.1 p1) (Int.not_le.1 p2)), ← HBB.out.1, show 4096 - (k + 1) = 4095 - k by omega]; unfold undoOut; rw [if_pos (show r.rc.kind = 2 from hk2)]; rfl)
                      have HP := @hideH _ (show 0 < r.prev from by have := ((HH.out).2.2 hk1).2.1; omega)
                      have HP2 := @hideH _ (show r.prev < l from Int.not_le.1 p2)
                      clear hk1 hk2 hk3
                      have hsrc5 := src_i64 (P := Try.prog) w4 24 3 Try.underlying24 l
                      have ka5 : Kept [] w4 (w4.alloc (.cells #[.int .i64 l] 3)) := (Kept.refl [] w4).alloc _
                      have hrow5 : Row (w4.alloc (.cells #[.int .i64 l] 3)) w.heap.size 1 (.slice po m co) m (i64s out) := Row.kept hrow ka5 (by simp)
                      go_wp2_with (at_builtin; refine wpList_append_row2 rfl (.tmp 83) (.tmp 85) 24 rfl w.heap.size 3 inf (.int .i64 0) 1 8 Try.underlying24 HI.out.1 HI.out.2.1 HI.out.2.2.1 HI.out.2.2.2 rfl _ _ _ (by rfl) hrow5 _ 1 [.int .i64 l] (by rfl) hsrc5 (by have := HB2.out; omega) (by have := HB2.out; unfold maxLen; omega) (by have := HB2.out; omega) (by have := hbs4; rw [World.size_alloc]; omega) ?_; intro v5 w5 r5 k5 at5; obtain ⟨p5, c5, hv5, -⟩ := Row.shape r5; subst hv5; have d0 := k5.cell (ka5.cell x0 List.not_mem_nil) HNE.out; have d2 := k5.cell (ka5.cell x2 List.not_mem_nil) HNE.out; have HQ := @hideH _ (And.intro r5 (And.intro k5 (And.intro at5 ka5))); clear r5 k5 at5 ka5 x0 x2; clear hrow5 hsrc5)
                      have no5 := Ns.push HX.out.2.1 HQ.out.1
                      have K5 : Kept [] w w5 := (HZ4.out.1.then HQ.out.2.2.2).trans HQ.out.2.1 (fun x hx => .inr (Ns.lt HZ4.out.2.1 (by simpa using hx)).1)
                      have na5 := Ns.kept (Ns.kept HZ4.out.2.2 HQ.out.2.2.2 (by simp)) HQ.out.2.1 HZ.out.2.2.2.1.not_mem
                      have apt5 := Apt.push HZ.out.2.2.2.1.symm (fun x hx => (Ns.lt (Ns.kept HZ4.out.2.2 HQ.out.2.2.2 (by simp)) hx).2) HQ.out.2.2.1
                      go_roundw
                      case rel => exact ⟨k + 1, m + 1, r.prev, B', false, out ++ [l], asked ++ [l], _, _, _, _, rfl, rfl, rfl, rfl, rfl, HP.out, by rw [List.length_append, HX.out.1]; rfl, by rw [List.length_append, HX.out.2.1]; rfl, by have := HB.out; omega, by have := HX.out.2.2.1; omega, (HZ.out.2.2.2.2.2.1).2.2.1, HA.out, no5, na5, apt5, K5⟩
                      case measure => have e1 := HP.out; have e2 := HP2.out; simp [intOf]; omega
                | true =>
                  by_cases p1 : r.prev < B'
                  · skip
                    have HA := @hideH _ (show undoL (rdr ls all) last = ([], 120, asked ++ [l]) by rw [← HX.out.2.2.2.2.1, HF.out]; exact undoF_no HZ.out.2.2.2.2.1 (by rw [← HBB.out.1]; exact undoStep_prev hk1 hk3 (.inl p1)))
                    clear hk1 hk2 hk3
                    have hsrc5 := src_i64 (P := Try.prog) w4 24 3 Try.underlying24 l
                    have ka5 : Kept [] w4 (w4.alloc (.cells #[.int .i64 l] 3)) := (Kept.refl [] w4).alloc _
                    have hrow5 : Row (w4.alloc (.cells #[.int .i64 l] 3)) w.heap.size 1 (.slice po m co) m (i64s out) := Row.kept hrow ka5 (by simp)
                    go_wp2_with (at_builtin; refine wpList_append_row2 rfl (.tmp 83) (.tmp 85) 24 rfl w.heap.size 3 inf (.int .i64 0) 1 8 Try.underlying24 HI.out.1 HI.out.2.1 HI.out.2.2.1 HI.out.2.2.2 rfl _ _ _ (by rfl) hrow5 _ 1 [.int .i64 l] (by rfl) hsrc5 (by have := HB2.out; omega) (by have := HB2.out; unfold maxLen; omega) (by have := HB2.out; omega) (by have := hbs4; rw [World.size_alloc]; omega) ?_; intro v5 w5 r5 k5 at5; obtain ⟨p5, c5, hv5, -⟩ := Row.shape r5; subst hv5; have d0 := k5.cell (ka5.cell x0 List.not_mem_nil) HNE.out; have d2 := k5.cell (ka5.cell x2 List.not_mem_nil) HNE.out; have HQ := @hideH _ (And.intro r5 (And.intro k5 (And.intro at5 ka5))); clear r5 k5 at5 ka5 x0 x2; clear hrow5 hsrc5)
                    have no5 := Ns.push HX.out.2.1 HQ.out.1
                    have K5 : Kept [] w w5 := (HZ4.out.1.then HQ.out.2.2.2).trans HQ.out.2.1 (fun x hx => .inr (Ns.lt HZ4.out.2.1 (by simpa using hx)).1)
                    have na5 := Ns.kept (Ns.kept HZ4.out.2.2 HQ.out.2.2.2 (by simp)) HQ.out.2.1 HZ.out.2.2.2.1.not_mem
                    have apt5 := Apt.push HZ.out.2.2.2.1.symm (fun x hx => (Ns.lt (Ns.kept HZ4.out.2.2 HQ.out.2.2.2 (by simp)) hx).2) HQ.out.2.2.1
                    refine bodyPost_ret (by simp [results, Try.results13, go_sem]; try rfl) rfl ?_
                    rw [HA.out]
                    exact ⟨_, _, rfl, Ns.nil _ _, na5, K5⟩
                  · by_cases p2 : l ≤ r.prev
                    · skip
                      have HA := @hideH _ (show undoL (rdr ls all) last = ([], 120, asked ++ [l]) by rw [← HX.out.2.2.2.2.1, HF.out]; exact undoF_no HZ.out.2.2.2.2.1 (by rw [← HBB.out.1]; exact undoStep_prev hk1 hk3 (.inr p2)))
                      clear hk1 hk2 hk3
                      have hsrc5 := src_i64 (P := Try.prog) w4 24 3 Try.underlying24 l
                      have ka5 : Kept [] w4 (w4.alloc (.cells #[.int .i64 l] 3)) := (Kept.refl [] w4).alloc _
                      have hrow5 : Row (w4.alloc (.cells #[.int .i64 l] 3)) w.heap.size 1 (.slice po m co) m (i64s out) := Row.kept hrow ka5 (by simp)
                      go_wp2_with (at_builtin; refine wpList_append_row2 rfl (.tmp 83) (.tmp 85) 24 rfl w.heap.size 3 inf (.int .i64 0) 1 8 Try.underlying24 HI.out.1 HI.out.2.1 HI.out.2.2.1 HI.out.2.2.2 rfl _ _ _ (by rfl) hrow5 _ 1 [.int .i64 l] (by rfl) hsrc5 (by have := HB2.out; omega) (by have := HB2.out; unfold maxLen; omega) (by have := HB2.out; omega) (by have := hbs4; rw [World.size_alloc]; omega) ?_; intro v5 w5 r5 k5 at5; obtain ⟨p5, c5, hv5, -⟩ := Row.shape r5; subst hv5; have d0 := k5.cell (ka5.cell x0 List.not_mem_nil) HNE.out; have d2 := k5.cell (ka5.cell x2 List.not_mem_nil) HNE.out; have HQ := @hideH _ (And.intro r5 (And.intro k5 (And.intro at5 ka5))); clear r5 k5 at5 ka5 x0 x2; clear hrow5 hsrc5)
                      have no5 := Ns.push HX.out.2.1 HQ.out.1
                      have K5 : Kept [] w w5 := (HZ4.out.1.then HQ.out.2.2.2).trans HQ.out.2.1 (fun x hx => .inr (Ns.lt HZ4.out.2.1 (by simpa using hx)).1)
                      have na5 := Ns.kept (Ns.kept HZ4.out.2.2 HQ.out.2.2.2 (by simp)) HQ.out.2.1 HZ.out.2.2.2.1.not_mem
                      have apt5 := Apt.push HZ.out.2.2.2.1.symm (fun x hx => (Ns.lt (Ns.kept HZ4.out.2.2 HQ.out.2.2.2 (by simp)) hx).2) HQ.out.2.2.1
                      refine bodyPost_ret (by simp [results, Try.results13, go_sem]; try rfl) rfl ?_
                      rw [HA.out]
                      exact ⟨_, _, rfl, Ns.nil _ _, na5, K5⟩
                    · skip
                      have HA := @hideH _ (show undoF (rdr ls all) (4096 - (k + 1)) r.prev B' (decide (k + 1 = 0)) false (out ++ [l]) (asked ++ [l]) = undoL (rdr ls all) last by rw [← HX.out.2.2.2.2.1, HF.out, undoF_on HZ.out.2.2.2.2.1 (by rw [← HBB.out.1]; exact undoStep_go HH.out (fun _ => hk2) hk1 hk3 (Int.not_lt.1 p1) (Int.not_le.1 p2)), ← HBB.out.1, show 4096 - (k + 1) = 4095 - k by omega]; unfold undoOut; rw [if_pos (show r.rc.kind = 2 from hk2)]; rfl)
                      have HP := @hideH _ (show 0 < r.prev from by have := ((HH.out).2.2 hk1).2.1; omega)
                      have HP2 := @hideH _ (show r.prev < l from Int.not_le.1 p2)
                      clear hk1 hk2 hk3
                      have hsrc5 := src_i64 (P := Try.prog) w4 24 3 Try.underlying24 l
                      have ka5 : Kept [] w4 (w4.alloc (.cells #[.int .i64 l] 3)) := (Kept.refl [] w4).alloc _
                      have hrow5 : Row (w4.alloc (.cells #[.int .i64 l] 3)) w.heap.size 1 (.slice po m co) m (i64s out) := Row.kept hrow ka5 (by simp)
                      go_wp2_with (at_builtin; refine wpList_append_row2 rfl (.tmp 83) (.tmp 85) 24 rfl w.heap.size 3 inf (.int .i64 0) 1 8 Try.underlying24 HI.out.1 HI.out.2.1 HI.out.2.2.1 HI.out.2.2.2 rfl _ _ _ (by rfl) hrow5 _ 1 [.int .i64 l] (by rfl) hsrc5 (by have := HB2.out; omega) (by have := HB2.out; unfold maxLen; omega) (by have := HB2.out; omega) (by have := hbs4; rw [World.size_alloc]; omega) ?_; intro v5 w5 r5 k5 at5; obtain ⟨p5, c5, hv5, -⟩ := Row.shape r5; subst hv5; have d0 := k5.cell (ka5.cell x0 List.not_mem_nil) HNE.out; have d2 := k5.cell (ka5.cell x2 List.not_mem_nil) HNE.out; have HQ := @hideH _ (And.intro r5 (And.intro k5 (And.intro at5 ka5))); clear r5 k5 at5 ka5 x0 x2; clear hrow5 hsrc5)
                      have no5 := Ns.push HX.out.2.1 HQ.out.1
                      have K5 : Kept [] w w5 := (HZ4.out.1.then HQ.out.2.2.2).trans HQ.out.2.1 (fun x hx => .inr (Ns.lt HZ4.out.2.1 (by simpa using hx)).1)
                      have na5 := Ns.kept (Ns.kept HZ4.out.2.2 HQ.out.2.2.2 (by simp)) HQ.out.2.1 HZ.out.2.2.2.1.not_mem
                      have apt5 := Apt.push HZ.out.2.2.2.1.symm (fun x hx => (Ns.lt (Ns.kept HZ4.out.2.2 HQ.out.2.2.2 (by simp)) hx).2) HQ.out.2.2.1
                      go_roundw
                      case rel => exact ⟨k + 1, m + 1, r.prev, B', false, out ++ [l], asked ++ [l], _, _, _, _, rfl, rfl, rfl, rfl, rfl, HP.out, by rw [List.length_append, HX.out.1]; rfl, by rw [List.length_append, HX.out.2.1]; rfl, by have := HB.out; omega, by have := HX.out.2.2.1; omega, (HZ.out.2.2.2.2.2.1).2.2.1, HA.out, no5, na5, apt5, K5⟩
                      case measure => have e1 := HP.out; have e2 := HP2.out; simp [intOf]; omega
              · have hk2' : (r.kind == 2) = false := by simpa using hk2
                have hk2'' : (r.kind != 2) = true := by simpa using hk2
                cases M with
                | true =>
                  have HA := @hideH _ (show undoL (rdr ls all) last = ([], 120, asked ++ [l]) by rw [← HX.out.2.2.2.2.1, HF.out]; exact undoF_no HZ.out.2.2.2.2.1 (by rw [← HBB.out.1]; exact undoStep_must hk2))
                  clear hk2
                  clear hrow hbs4 HNE
                  go_wp2
                  have no5 := HZ4.out.2.1
                  have K5 := HZ4.out.1
                  have na5 := HZ4.out.2.2
                  have apt5 := HZ.out.2.2.2.1.symm
                  refine bodyPost_ret (by simp [results, Try.results13, go_sem]; try rfl) rfl ?_
                  rw [HA.out]
                  exact ⟨_, _, rfl, Ns.nil _ _, na5, K5⟩
                | false =>
                  by_cases hk1 : r.kind = 1
                  · skip
                    have HA := @hideH _ (show undoL (rdr ls all) last = (out, 0, asked ++ [l]) by rw [← HX.out.2.2.2.2.1, HF.out]; rw [undoF_fin HZ.out.2.2.2.2.1 (by rw [← HBB.out.1]; exact undoStep_begin HH.out hk1)]; unfold undoOut; rw [if_neg (show r.rc.kind ≠ 2 from hk2)])
                    rw [hk1] at x0
                    clear hk1 hk2 hk2' hk2''
                    clear hrow hbs4 HNE
                    go_wp2
                    have no5 := HZ4.out.2.1
                    have K5 := HZ4.out.1
                    have na5 := HZ4.out.2.2
                    have apt5 := HZ.out.2.2.2.1.symm
                    refine bodyPost_ret (by simp [results, Try.results13, go_sem]; try rfl) rfl ?_
                    rw [HA.out]
                    exact ⟨_, _, rfl, no5, na5, K5⟩
                  · have hk1' : (r.kind == 1) = false := by simpa using hk1
                    by_cases hk3 : r.kind = 3
                    · by_cases hn0 : r.next = 0
                      · skip
                        have HA := @hideH _ (show undoL (rdr ls all) last = (out, 0, asked ++ [l]) by rw [← HX.out.2.2.2.2.1, HF.out]; rw [undoF_fin HZ.out.2.2.2.2.1 (by rw [← HBB.out.1]; exact undoStep_end HH.out hk3 hn0)]; unfold undoOut; rw [if_neg (show r.rc.kind ≠ 2 from hk2)])
                        rw [hk3] at x0
                        rw [hn0] at x8
                        clear hk1 hk2 hk3 hn0 hk1' hk2' hk2''
                        clear hrow hbs4 HNE
                        go_wp2
                        have no5 := HZ4.out.2.1
                        have K5 := HZ4.out.1
                        have na5 := HZ4.out.2.2
                        have apt5 := HZ.out.2.2.2.1.symm
                        refine bodyPost_ret (by simp [results, Try.results13, go_sem]; try rfl) rfl ?_
                        rw [HA.out]
                        exact ⟨_, _, rfl, no5, na5, K5⟩
                      · have hn0' : (r.next == 0) = false := by simpa using hn0
                        by_cases p1 : r.next < B'
                        · skip
                          have HA := @hideH _ (show undoL (rdr ls all) last = ([], 120, asked ++ [l]) by rw [← HX.out.2.2.2.2.1, HF.out]; exact undoF_no HZ.out.2.2.2.2.1 (by rw [← HBB.out.1]; exact undoStep_next hk3 hn0 (.inl p1)))
                          rw [hk3] at x0
                          clear hk1 hk2 hk3 hn0 hk1' hk2' hk2''
                          clear hrow hbs4 HNE
                          go_wp2
                          have no5 := HZ4.out.2.1
                          have K5 := HZ4.out.1
                          have na5 := HZ4.out.2.2
                          have apt5 := HZ.out.2.2.2.1.symm
                          refine bodyPost_ret (by simp [results, Try.results13, go_sem]; try rfl) rfl ?_
                          rw [HA.out]
                          exact ⟨_, _, rfl, Ns.nil _ _, na5, K5⟩
                        · by_cases p2 : l ≤ r.next
                          · skip
                            have HA := @hideH _ (show undoL (rdr ls all) last = ([], 120, asked ++ [l]) by rw [← HX.out.2.2.2.2.1, HF.out]; exact undoF_no HZ.out.2.2.2.2.1 (by rw [← HBB.out.1]; exact undoStep_next hk3 hn0 (.inr p2)))
                            rw [hk3] at x0
                            clear hk1 hk2 hk3 hn0 hk1' hk2' hk2''
                            clear hrow hbs4 HNE
                            go_wp2
                            have no5 := HZ4.out.2.1
                            have K5 := HZ4.out.1
                            have na5 := HZ4.out.2.2
                            have apt5 := HZ.out.2.2.2.1.symm
                            refine bodyPost_ret (by simp [results, Try.results13, go_sem]; try rfl) rfl ?_
                            rw [HA.out]
                            exact ⟨_, _, rfl, Ns.nil _ _, na5, K5⟩
                          · skip
                            have HA := @hideH _ (show undoF (rdr ls all) (4096 - (k + 1)) r.next B' (decide (k + 1 = 0)) true (out) (asked ++ [l]) = undoL (rdr ls all) last by rw [← HX.out.2.2.2.2.1, HF.out, undoF_on HZ.out.2.2.2.2.1 (by rw [← HBB.out.1]; exact undoStep_gonext HH.out hk3 hn0 (Int.not_lt.1 p1) (Int.not_le.1 p2)), ← HBB.out.1, show 4096 - (k + 1) = 4095 - k by omega]; unfold undoOut; rw [if_neg (show r.rc.kind ≠ 2 from hk2)]; rfl)
                            have HP := @hideH _ (show 0 < r.next from by have := ((HH.out).2.2 hk1).2.1; omega)
                            have HP2 := @hideH _ (show r.next < l from Int.not_le.1 p2)
                            rw [hk3] at x0
                            clear hk1 hk2 hk3 hn0 hk1' hk2' hk2''
                            clear hrow hbs4 HNE
                            go_wp2
                            have no5 := HZ4.out.2.1
                            have K5 := HZ4.out.1
                            have na5 := HZ4.out.2.2
                            have apt5 := HZ.out.2.2.2.1.symm
                            go_roundw
                            case rel => exact ⟨k + 1, m, r.next, B', true, out, asked ++ [l], _, _, _, _, rfl, rfl, rfl, rfl, rfl, HP.out, by rw [List.length_append, HX.out.1]; rfl, HX.out.2.1, by have := HB.out; omega, by have := HX.out.2.2.1; omega, (HZ.out.2.2.2.2.2.1).2.2.2, HA.out, no5, na5, apt5, K5⟩
                            case measure => have e1 := HP.out; have e2 := HP2.out; simp [intOf]; omega
                    · have hk3' : (r.kind == 3) = false := by simpa using hk3
                      by_cases p1 : r.prev < B'
                      · skip
                        have HA := @hideH _ (show undoL (rdr ls all) last = ([], 120, asked ++ [l]) by rw [← HX.out.2.2.2.2.1, HF.out]; exact undoF_no HZ.out.2.2.2.2.1 (by rw [← HBB.out.1]; exact undoStep_prev hk1 hk3 (.inl p1)))
                        clear hk1 hk2 hk3
                        clear hrow hbs4 HNE
                        go_wp2
                        have no5 := HZ4.out.2.1
                        have K5 := HZ4.out.1
                        have na5 := HZ4.out.2.2
                        have apt5 := HZ.out.2.2.2.1.symm
                        refine bodyPost_ret (by simp [results, Try.results13, go_sem]; try rfl) rfl ?_
                        rw [HA.out]
                        exact ⟨_, _, rfl, Ns.nil _ _, na5, K5⟩
                      · by_cases p2 : l ≤ r.prev
                        · skip
                          have HA := @hideH _ (show undoL (rdr ls all) last = ([], 120, asked ++ [l]) by rw [← HX.out.2.2.2.2.1, HF.out]; exact undoF_no HZ.out.2.2.2.2.1 (by rw [← HBB.out.1]; exact undoStep_prev hk1 hk3 (.inr p2)))
                          clear hk1 hk2 hk3
                          clear hrow hbs4 HNE
                          go_wp2
                          have no5 := HZ4.out.2.1
                          have K5 := HZ4.out.1
                          have na5 := HZ4.out.2.2
                          have apt5 := HZ.out.2.2.2.1.symm
                          refine bodyPost_ret (by simp [results, Try.results13, go_sem]; try rfl) rfl ?_
                          rw [HA.out]
                          exact ⟨_, _, rfl, Ns.nil _ _, na5, K5⟩
                        · skip
                          have HA := @hideH _ (show undoF (rdr ls all) (4096 - (k + 1)) r.prev B' (decide (k + 1 = 0)) false (out) (asked ++ [l]) = undoL (rdr ls all) last by rw [← HX.out.2.2.2.2.1, HF.out, undoF_on HZ.out.2.2.2.2.1 (by rw [← HBB.out.1]; exact undoStep_go HH.out (fun c => by cases c) hk1 hk3 (Int.not_lt.1 p1) (Int.not_le.1 p2)), ← HBB.out.1, show 4096 - (k + 1) = 4095 - k by omega]; unfold undoOut; rw [if_neg (show r.rc.kind ≠ 2 from hk2)]; rfl)
                          have HP := @hideH _ (show 0 < r.prev from by have := ((HH.out).2.2 hk1).2.1; omega)
                          have HP2 := @hideH _ (show r.prev < l from Int.not_le.1 p2)
                          clear hk1 hk2 hk3
                          clear hrow hbs4 HNE
                          go_wp2
                          have no5 := HZ4.out.2.1
                          have K5 := HZ4.out.1
                          have na5 := HZ4.out.2.2
                          have apt5 := HZ.out.2.2.2.1.symm
                          go_roundw
                          case rel => exact ⟨k + 1, m, r.prev, B', false, out, asked ++ [l], _, _, _, _, rfl, rfl, rfl, rfl, rfl, HP.out, by rw [List.length_append, HX.out.1]; rfl, HX.out.2.1, by have := HB.out; omega, by have := HX.out.2.2.1; omega, (HZ.out.2.2.2.2.2.1).2.2.1, HA.out, no5, na5, apt5, K5⟩
                          case measure => have e1 := HP.out; have e2 := HP2.out; simp [intOf]; omega
end Go.Proofs.Ytinlhojojeabcaa

/-
  OWN WORK (by mkch7.py). Layer 12: the laws ChainBacks, ChainUndos.
-/
namespace Go.Proofs.Ytinlhojojeabcaa
open Go.RowKit
set_option linter.unusedVariables false
set_option linter.unusedSimpArgs false

set_option maxRecDepth 20000 in
set_option maxHeartbeats 3200000 in
theorem chainBacks_walk (O : ChOps) (v : Value) (ls : List Ln) (all : Bool) (from_ : Int) (w : World) (h : Lines w v ls) (hf : I64 from_) : Calls Try.prog 4 #[v, .bool all, .int .i64 from_] w fun e w' => e = .returned (.bool true) ∧ Kept [] w w' := by
  obtain ⟨pv, cv, hv, -⟩ := h.shape
  subst hv
  obtain ⟨nv, hnv⟩ : ∃ n, n = ls.length := ⟨_, rfl⟩
  rw [← hnv] at h ⊢
  clear hnv
  go_enter Try.func4, Try.ntmps4
  go_wp2_with fail
  refine (asking_any O _ ls all false from_ w h hf).mono ?_
  rintro e w1 ⟨a, p, rfl, na, np, -, k1⟩
  rw [show askL false (rdr ls all) from_ = backL (rdr ls all) from_ from rfl] at na np ⊢
  obtain ⟨A, hA⟩ : ∃ A, A = backL (rdr ls all) from_ := ⟨_, rfl⟩
  have hR := rBack _ ls all from_ w1 (h.kept k1 (by simp)) hf
  rw [← hA] at na np hR ⊢
  clear hA hf
  obtain ⟨l1, E, l2⟩ := A
  simp only at na np hR ⊢
  obtain ⟨pa, ca, hva⟩ := na.shape
  subst hva
  obtain ⟨pp, cp, hvp⟩ := np.shape
  subst hvp
  go_wp2_with fail
  refine hR.mono ?_
  clear hR
  rintro e w2 ⟨b, q, rfl, nb, nq, k2⟩
  obtain ⟨pb, cb, hvb⟩ := nb.shape
  subst hvb
  obtain ⟨pq, cq, hvq⟩ := nq.shape
  subst hvq
  go_wp2_with fail
  refine (known_any O w2).mono ?_
  rintro e w3 ⟨rfl, k3⟩
  have na3 := na.kept (k2.then k3) (by simp)
  have np3 := np.kept (k2.then k3) (by simp)
  have nb3 := nb.kept k3 (by simp)
  have nq3 := nq.kept k3 (by simp)
  have K3 := (k1.then k2).then k3
  clear na np nb nq k1 k2 k3
  go_wp2_with fail
  refine (same_eq _ _ _ _ _ w3 na3 nb3).mono ?_
  rintro e w4 ⟨rfl, k4⟩
  have np4 := np3.kept k4 (by simp)
  have nq4 := nq3.kept k4 (by simp)
  have KE := K3.then k4
  clear na3 nb3 np3 nq3 K3 k4
  go_wp2_with fail
  refine (same_eq _ _ _ _ _ w4 np4 nq4).mono ?_
  rintro e w5 ⟨rfl, k5⟩
  have HE := @hideH _ (KE.then k5)
  clear KE k5 np4 nq4
  go_wp2
  go_ret
  exact ⟨by first | rfl | simp, HE.out⟩
set_option maxRecDepth 20000 in
set_option maxHeartbeats 3200000 in
theorem chainUndos_walk (O : ChOps) (v : Value) (ls : List Ln) (all : Bool) (from_ : Int) (w : World) (h : Lines w v ls) (hf : I64 from_) : Calls Try.prog 5 #[v, .bool all, .int .i64 from_] w fun e w' => e = .returned (.bool true) ∧ Kept [] w w' := by
  obtain ⟨pv, cv, hv, -⟩ := h.shape
  subst hv
  obtain ⟨nv, hnv⟩ : ∃ n, n = ls.length := ⟨_, rfl⟩
  rw [← hnv] at h ⊢
  clear hnv
  go_enter Try.func5, Try.ntmps5
  go_wp2_with fail
  refine (asking_any O _ ls all true from_ w h hf).mono ?_
  rintro e w1 ⟨a, p, rfl, na, np, -, k1⟩
  rw [show askL true (rdr ls all) from_ = undoL (rdr ls all) from_ from rfl] at na np ⊢
  obtain ⟨A, hA⟩ : ∃ A, A = undoL (rdr ls all) from_ := ⟨_, rfl⟩
  have hR := rUndo _ ls all from_ w1 (h.kept k1 (by simp)) hf
  rw [← hA] at na np hR ⊢
  clear hA hf
  obtain ⟨l1, E, l2⟩ := A
  simp only at na np hR ⊢
  obtain ⟨pa, ca, hva⟩ := na.shape
  subst hva
  obtain ⟨pp, cp, hvp⟩ := np.shape
  subst hvp
  go_wp2_with fail
  refine hR.mono ?_
  clear hR
  rintro e w2 ⟨b, q, rfl, nb, nq, k2⟩
  obtain ⟨pb, cb, hvb⟩ := nb.shape
  subst hvb
  obtain ⟨pq, cq, hvq⟩ := nq.shape
  subst hvq
  go_wp2_with fail
  refine (known_any O w2).mono ?_
  rintro e w3 ⟨rfl, k3⟩
  have na3 := na.kept (k2.then k3) (by simp)
  have np3 := np.kept (k2.then k3) (by simp)
  have nb3 := nb.kept k3 (by simp)
  have nq3 := nq.kept k3 (by simp)
  have K3 := (k1.then k2).then k3
  clear na np nb nq k1 k2 k3
  go_wp2_with fail
  refine (same_eq _ _ _ _ _ w3 na3 nb3).mono ?_
  rintro e w4 ⟨rfl, k4⟩
  have np4 := np3.kept k4 (by simp)
  have nq4 := nq3.kept k4 (by simp)
  have KE := K3.then k4
  clear na3 nb3 np3 nq3 K3 k4
  go_wp2_with fail
  refine (same_eq _ _ _ _ _ w4 np4 nq4).mono ?_
  rintro e w5 ⟨rfl, k5⟩
  have HE := @hideH _ (KE.then k5)
  clear KE k5 np4 nq4
  go_wp2
  go_ret
  exact ⟨by first | rfl | simp, HE.out⟩
end Go.Proofs.Ytinlhojojeabcaa

/-
  OWN WORK (by mkch7.py). Layer 12: lines that came in.
-/
namespace Go.Proofs.Ytinlhojojeabcaa
open Go.ChangeShapes Go.WideShapes Go.ChangeAt Go.RowKit Go.Deep
set_option linter.unusedVariables false
set_option linter.unusedSimpArgs false

theorem i64_of_wf {z : Int} (h : (Lit.int .i64 z).wf = true) : I64 z := by
  have hb : -9223372036854775808 ≤ z ∧ z ≤ 9223372036854775807 := by simpa [Lit.wf, IntKind.min, IntKind.max, IntKind.signed, IntKind.bits] using h
  exact ⟨by omega, by omega⟩
theorem choose_lt12 {α : Type} [Inhabited α] {n : Nat} {Q : Nat → α → Prop} (h : ∀ i, i < n → ∃ q, Q i q) : ∃ q : Nat → α, ∀ i, i < n → Q i (q i) := by
  refine ⟨fun i => if hi : i < n then Classical.choose (h i hi) else default, fun i hi => ?_⟩
  simp only [hi, dite_true]
  exact Classical.choose_spec (h i hi)
theorem list2_of {α : Type} {l : List α} (h : l.length = 2) : ∃ a0 a1, l = [a0, a1] := by
  match l, h with
  | [a0, a1], _ => exact ⟨a0, a1, rfl⟩
theorem list3_of {α : Type} {l : List α} (h : l.length = 3) : ∃ a0 a1 a2, l = [a0, a1, a2] := by
  match l, h with
  | [a0, a1, a2], _ => exact ⟨a0, a1, a2, rfl⟩
theorem list11_of {α : Type} {l : List α} (h : l.length = 11) : ∃ a0 a1 a2 a3 a4 a5 a6 a7 a8 a9 a10, l = [a0, a1, a2, a3, a4, a5, a6, a7, a8, a9, a10] := by
  match l, h with
  | [a0, a1, a2, a3, a4, a5, a6, a7, a8, a9, a10], _ => exact ⟨a0, a1, a2, a3, a4, a5, a6, a7, a8, a9, a10, rfl⟩
theorem list12_of {α : Type} {l : List α} (h : l.length = 12) : ∃ a0 a1 a2 a3 a4 a5 a6 a7 a8 a9 a10 a11, l = [a0, a1, a2, a3, a4, a5, a6, a7, a8, a9, a10, a11] := by
  match l, h with
  | [a0, a1, a2, a3, a4, a5, a6, a7, a8, a9, a10, a11], _ => exact ⟨a0, a1, a2, a3, a4, a5, a6, a7, a8, a9, a10, a11, rfl⟩
theorem sv_open12 {H : Type} {enc : TypeId × Value → H} {W : World} {t e : TypeId} {fuel : Nat} {v : Value} {x : DataW H × List MemPlace} (ht : Try.prog.underlying t = some (.slice e))
    (hf : DataW.trod enc Try.prog W 0 (fun _ => true) true fuel t [v] = some x) : ∃ s : Sv, v = .slice s.p s.n s.c := by
  rcases open_slice ht hf with ⟨hcs, hx⟩ | ⟨a, l, c, m, n, D, Pl, hcs, hb, hl, hm, hmm, hx, hel⟩
  · simp [Value.cells] at hcs
    exact ⟨⟨_, _, _⟩, hcs⟩
  · simp [Value.cells] at hcs
    exact ⟨⟨_, _, _⟩, hcs⟩
theorem lines_open {H : Type} {enc : TypeId × Value → H} {W : World} {t e : TypeId} {f0 f1 : Field} {g0 g1 g2 g3 g4 g5 g6 g7 g8 g9 g10 : Field} {ao : Option Addr} {len cap : Nat} {d : DataW H} {p : List MemPlace} (ht : Try.prog.underlying t = some (.slice e)) (he : Try.prog.underlying e = some (.struct #[f0, f1])) (ce : Try.prog.cellsOf e = 12) (fo0 : f0.offset = 0) (fo1 : f1.offset = 1) (fc0 : Try.prog.cellsOf f0.type = 1) (fc1 : Try.prog.cellsOf f1.type = 11) (ft0 : Try.prog.underlying f0.type = some (.int .i64)) (ft1 : Try.prog.underlying f1.type = some (.struct #[g0, g1, g2, g3, g4, g5, g6, g7, g8, g9, g10]))
    (o0 : g0.offset = 0) (c0 : Try.prog.cellsOf g0.type = 1) (o1 : g1.offset = 1) (c1 : Try.prog.cellsOf g1.type = 1) (o2 : g2.offset = 2) (c2 : Try.prog.cellsOf g2.type = 1) (o3 : g3.offset = 3) (c3 : Try.prog.cellsOf g3.type = 1) (o4 : g4.offset = 4) (c4 : Try.prog.cellsOf g4.type = 1) (o5 : g5.offset = 5) (c5 : Try.prog.cellsOf g5.type = 1) (o6 : g6.offset = 6) (c6 : Try.prog.cellsOf g6.type = 1) (o7 : g7.offset = 7) (c7 : Try.prog.cellsOf g7.type = 1) (o8 : g8.offset = 8) (c8 : Try.prog.cellsOf g8.type = 1) (o9 : g9.offset = 9) (c9 : Try.prog.cellsOf g9.type = 1) (o10 : g10.offset = 10) (c10 : Try.prog.cellsOf g10.type = 1)
    (t0 : Try.prog.underlying g0.type = some (.int .i64)) (t1 : Try.prog.underlying g1.type = some (.int .i64)) (t2 : Try.prog.underlying g2.type = some (.int .i64)) (t3 : Try.prog.underlying g3.type = some (.int .i64)) (t4 : Try.prog.underlying g4.type = some (.int .i64)) (t5 : Try.prog.underlying g5.type = some (.int .i64)) {e6 : TypeId} (t6 : Try.prog.underlying g6.type = some (.slice e6)) {e7 : TypeId} (t7 : Try.prog.underlying g7.type = some (.slice e7)) (t8 : Try.prog.underlying g8.type = some (.int .i64)) {e9 : TypeId} (t9 : Try.prog.underlying g9.type = some (.slice e9)) {e10 : TypeId} (t10 : Try.prog.underlying g10.type = some (.slice e10))
    (h : DataW.Trod enc Try.prog W 0 (fun _ => true) true t (.slice ao len cap) d p) : ∃ ls : List Ln, ls.length = len ∧ Lines W (.slice ao len cap) ls := by
  obtain ⟨fuel, hf⟩ := h
  rcases open_slice ht hf with ⟨hcs, hx⟩ | ⟨a, l, c, m, n, D, Pl, hcs, hb, hl, hm, hmm, hx, hel⟩
  · simp [Value.cells] at hcs
    obtain ⟨rfl, rfl, rfl⟩ := hcs
    exact ⟨[], rfl, ⟨fun l hl => by simp at hl, none, 0, rfl, Nat.le_refl _, by simp [maxLen], fun hn => absurd rfl hn⟩⟩
  · simp [Value.cells] at hcs
    obtain ⟨rfl, rfl, rfl⟩ := hcs
    have hmm' : m = cap := by simpa using hmm
    have each : ∀ i, i < m → ∃ q : Ln, q.fits ∧ ∀ (j : Nat) u, q.cells[j]? = some u → W.cell? ((a.add (i * 12)).add j) = some u := by
      intro i hi
      obtain ⟨cs', g1', g2'⟩ := hel i hi
      rw [ce] at g1'
      obtain ⟨_, hlen, hcell⟩ := World.cells?_some g1'
      obtain ⟨xs, k, hk, hxy, _, hxl, hff⟩ := DataW.trod_struct he g2'
      obtain ⟨y0, y1, rfl⟩ := list2_of (show xs.length = 2 from hxl)
      obtain ⟨v0, v1, v2, v3, v4, v5, v6, v7, v8, v9, v10, v11, rfl⟩ := list12_of hlen
      have q0 := hff 0 f0 rfl
      have q1 := hff 1 f1 rfl
      simp [fo0, fo1, fc0, fc1] at q0 q1
      obtain ⟨z0, e0, -, w0⟩ := DataW.trod_int ft0 q0
      simp at e0
      obtain ⟨xs2, k2, hk2, hxy2, _, hxl2, hff2⟩ := DataW.trod_struct ft1 q1
      obtain ⟨u0, u1, u2, u3, u4, u5, u6, u7, u8, u9, u10, rfl⟩ := list11_of (show xs2.length = 11 from hxl2)
      have r0 := hff2 0 g0 rfl
      have r1 := hff2 1 g1 rfl
      have r2 := hff2 2 g2 rfl
      have r3 := hff2 3 g3 rfl
      have r4 := hff2 4 g4 rfl
      have r5 := hff2 5 g5 rfl
      have r6 := hff2 6 g6 rfl
      have r7 := hff2 7 g7 rfl
      have r8 := hff2 8 g8 rfl
      have r9 := hff2 9 g9 rfl
      have r10 := hff2 10 g10 rfl
      simp [o0, c0, o1, c1, o2, c2, o3, c3, o4, c4, o5, c5, o6, c6, o7, c7, o8, c8, o9, c9, o10, c10] at r0 r1 r2 r3 r4 r5 r6 r7 r8 r9 r10
      obtain ⟨s0, e0', -, w0'⟩ := DataW.trod_int t0 r0
      simp at e0'
      obtain ⟨s1, e1', -, w1'⟩ := DataW.trod_int t1 r1
      simp at e1'
      obtain ⟨s2, e2', -, w2'⟩ := DataW.trod_int t2 r2
      simp at e2'
      obtain ⟨s3, e3', -, w3'⟩ := DataW.trod_int t3 r3
      simp at e3'
      obtain ⟨s4, e4', -, w4'⟩ := DataW.trod_int t4 r4
      simp at e4'
      obtain ⟨s5, e5', -, w5'⟩ := DataW.trod_int t5 r5
      simp at e5'
      obtain ⟨s6, e6'⟩ := sv_open12 t6 r6
      obtain ⟨s7, e7'⟩ := sv_open12 t7 r7
      obtain ⟨s8, e8', -, w8'⟩ := DataW.trod_int t8 r8
      simp at e8'
      obtain ⟨s9, e9'⟩ := sv_open12 t9 r9
      obtain ⟨s10, e10'⟩ := sv_open12 t10 r10
      subst e0 e0' e1' e2' e3' e4' e5' e6' e7' e8' e9' e10'
      refine ⟨⟨z0, ⟨s0, s1, s2, s3, s4, s5, s6, s7, s8, s9, s10⟩⟩, ⟨i64_of_wf w0, i64_of_wf w0', i64_of_wf w1', i64_of_wf w2', i64_of_wf w8'⟩, fun j u hj => ?_⟩
      have hj12 : j < 12 := (List.getElem?_eq_some_iff.1 hj).1
      have q := hcell j hj12
      rw [q]
      match j, hj12, hj with
      | 0, _, hj => simpa [Ln.cells, Lv.cells] using hj
      | 1, _, hj => simpa [Ln.cells, Lv.cells] using hj
      | 2, _, hj => simpa [Ln.cells, Lv.cells] using hj
      | 3, _, hj => simpa [Ln.cells, Lv.cells] using hj
      | 4, _, hj => simpa [Ln.cells, Lv.cells] using hj
      | 5, _, hj => simpa [Ln.cells, Lv.cells] using hj
      | 6, _, hj => simpa [Ln.cells, Lv.cells] using hj
      | 7, _, hj => simpa [Ln.cells, Lv.cells] using hj
      | 8, _, hj => simpa [Ln.cells, Lv.cells] using hj
      | 9, _, hj => simpa [Ln.cells, Lv.cells] using hj
      | 10, _, hj => simpa [Ln.cells, Lv.cells] using hj
      | 11, _, hj => simpa [Ln.cells, Lv.cells] using hj
    haveI : Inhabited Ln := ⟨⟨0, .zero⟩⟩
    obtain ⟨q, hq⟩ := choose_lt12 each
    refine ⟨(List.range len).map q, by simp, ⟨fun l hl' => ?_, some a, cap, by simp, by simpa using hl, hm, fun hn => ?_⟩⟩
    · obtain ⟨i, hi, rfl⟩ := List.mem_map.1 hl'
      exact (hq i (by have := List.mem_range.1 hi; omega)).1
    · have hlen : 0 < len := by
        rcases Nat.eq_zero_or_pos len with c | c
        · subst c; exact absurd rfl hn
        · exact c
      have h0 := (hq 0 (by omega)).2 0 _ rfl
      have hs := spot_of_cell h0
      have hs' : a.spot = none := by
        unfold Addr.add at hs
        split at hs <;> simp_all
      obtain ⟨b, o, sp⟩ := a
      simp only at hs'
      subst hs'
      have hlt : b < W.heap.size := by
        have e : (((⟨b, o, none⟩ : Addr).add (0 * 12)).add 0).block = b := rfl
        have := lt_of_cell h0
        omega
      refine ⟨b, o, rfl, hlt, fun i s hs' j u hj => ?_⟩
      simp only [List.getElem?_map] at hs'
      obtain ⟨k, hk, rfl⟩ := Option.map_eq_some_iff.1 hs'
      obtain ⟨hk2, rfl⟩ := List.getElem?_eq_some_iff.1 hk
      have hi : i < len := by simpa using hk2
      simp only [List.getElem_range] at hj
      have q2 := (hq i (by omega)).2 j u hj
      rw [add_none (a := ⟨b, o, none⟩) rfl, add_none (a := ⟨b, o + i * 12, none⟩) rfl] at q2
      exact q2
end Go.Proofs.Ytinlhojojeabcaa

/-
  OWN WORK (by mkcq1.py). chain: ask (a read, and what it panics with caught).
-/
namespace Go.Proofs.Ytinlhojojeabcaa
open Go.RowKit
set_option linter.unusedVariables false
set_option linter.unusedSimpArgs false

theorem ask_idle (p q : Addr) (w : World) :
    CallsD Try.prog 27 #[.pointer (some p), .pointer (some q)] .returning w fun e u' w' => e = .returned (.tuple #[]) ∧ u' = .returning ∧ w' = w := by
  refine callsD_of_wpS Try.func27 rfl fun c₀ cs hu => ?_
  apply wpS_seq
  apply wpS_region
  simp [wpOpsS, go_sem, recoverD, hu, Try.ntmps27, Exit.thenS]
  refine wpS_cond (t := false) (by simp [Act.eval, Array.replicate]) ?_
  simp only [Bool.false_eq_true, if_false]
  refine wpS_of_wp (wp_skip ?_)
  cases c₀
  simp_all [bodyPostS, results, Try.results27]
set_option maxRecDepth 20000 in
set_option maxHeartbeats 6400000 in
theorem qAsk {gf : Nat} {lb : Array Value} {R : Rdr} {c : Nat} {St : World → List Nat → List Int → Prop} (A : Asker gf lb R c St) {F : List Nat} {qs : List Int} (l : Int) (w : World) (hS : St w F qs) (hc : c ≤ w.heap.size) (hq : qs.length < 4096) (h1 : 1 ≤ l) (h2 : I64 l) : Calls Try.prog 24 #[.func (.func gf) #[] lb, .int .i64 l] w fun e w' => ∃ (q : Int) (r : Lv) (F' : List Nat), e = .returned (.tuple #[.agg #[.int .i64 r.kind, .int .i64 r.birth, .int .i64 r.prev, .int .i64 r.id, .int .i64 r.page, .int .i64 r.frm, .slice r.b.p r.b.n r.b.c, .slice r.a.p r.a.n r.a.c, .int .i64 r.next, .slice r.r.p r.r.n r.r.c, .slice r.d.p r.d.n r.d.c], .int .i64 q]) ∧ R l = (q, r.rc) ∧ r.fits ∧ I64 q ∧ St w' F' (qs ++ [l]) ∧ Kept F w w' ∧ ∀ x ∈ F', x ∈ F ∨ w.heap.size ≤ x := by
  have hmf : ∀ (fn : Fn) (first cap : Array Value) (w : World), (Instr.makeFunc fn first cap).run Try.prog w = .ok (.func fn first cap) w := fun _ _ _ _ => rfl
  obtain ⟨w1, hw1⟩ : ∃ w1, w1 = (w.alloc (.cells #[.int .i64 0, .int .i64 0, .int .i64 0, .int .i64 0, .int .i64 0, .int .i64 0, .slice none 0 0, .slice none 0 0, .int .i64 0, .slice none 0 0, .slice none 0 0] 42)).alloc (.cells #[.int .i64 0] 49) := ⟨_, rfl⟩
  have K1 : Kept [] w w1 := by rw [hw1]; exact ((Kept.refl [] w).alloc _).alloc _
  have BA : Blk w1 w.heap.size 42 [.int .i64 0, .int .i64 0, .int .i64 0, .int .i64 0, .int .i64 0, .int .i64 0, .slice none 0 0, .slice none 0 0, .int .i64 0, .slice none 0 0, .slice none 0 0] := by rw [hw1]; exact (Blk.new w _ _).kept ((Kept.refl [] _).alloc _) (by simp)
  have BE : Blk w1 (w.heap.size + 1) 49 [.int .i64 0] := by rw [hw1]; have q := Blk.new (w.alloc (.cells #[.int .i64 0, .int .i64 0, .int .i64 0, .int .i64 0, .int .i64 0, .int .i64 0, .slice none 0 0, .slice none 0 0, .int .i64 0, .slice none 0 0, .slice none 0 0] 42)) 49 [.int .i64 0]; rw [World.size_alloc] at q; exact q
  have z1 : w1.heap.size = w.heap.size + 2 := by rw [hw1, World.size_alloc, World.size_alloc]
  have hlt := A.lt hS
  have S1 := A.kept hS K1 (by simp)
  have hA := A.ask l S1 hq h1 h2
  have hen := A.enters
  go_enter_defers Try.func24, Try.ntmps24
  go_upto_region 2 with fail
  rw [← hw1]
  clear hw1
  go_wp2_with fail
  refine hA.mono ?_
  clear hA
  rintro e w2 ⟨q, r, F', rfl, hR, hfit, hq64, S2, k2, hF⟩
  have nA : w.heap.size ∉ F := fun hm => by have := hlt _ hm; omega
  have nE : w.heap.size + 1 ∉ F := fun hm => by have := hlt _ hm; omega
  have BA2 := BA.kept k2 nA
  have BE2 := BE.kept k2 nE
  have nA' : w.heap.size ∉ F' := fun hm => by rcases hF _ hm with q | q; exact nA q; omega
  have nE' : w.heap.size + 1 ∉ F' := fun hm => by rcases hF _ hm with q | q; exact nE q; omega
  have a0 := BA2.cell (j := 0) rfl
  have a1 := BA2.cell (j := 1) rfl
  have a2 := BA2.cell (j := 2) rfl
  have a3 := BA2.cell (j := 3) rfl
  have a4 := BA2.cell (j := 4) rfl
  have a5 := BA2.cell (j := 5) rfl
  have a6 := BA2.cell (j := 6) rfl
  have a7 := BA2.cell (j := 7) rfl
  have a8 := BA2.cell (j := 8) rfl
  have a9 := BA2.cell (j := 9) rfl
  have a10 := BA2.cell (j := 10) rfl
  have f0 := BA2.free 0
  have f1 := BA2.free 1
  have f2 := BA2.free 2
  have f3 := BA2.free 3
  have f4 := BA2.free 4
  have f5 := BA2.free 5
  have f6 := BA2.free 6
  have f7 := BA2.free 7
  have f8 := BA2.free 8
  have f9 := BA2.free 9
  have f10 := BA2.free 10
  have ce := BE2.cell (j := 0) rfl
  have fe := BE2.free 0
  obtain ⟨BA3, k3⟩ := BA2.fill11 (.int .i64 r.kind) (.int .i64 r.birth) (.int .i64 r.prev) (.int .i64 r.id) (.int .i64 r.page) (.int .i64 r.frm) (.slice r.b.p r.b.n r.b.c) (.slice r.a.p r.a.n r.a.c) (.int .i64 r.next) (.slice r.r.p r.r.n r.r.c) (.slice r.d.p r.d.n r.d.c)
  obtain ⟨w3, hw3⟩ : ∃ wF, wF = (((((((((((w2.setCell ⟨w.heap.size, 0, none⟩ (.int .i64 r.kind)).setCell ⟨w.heap.size, 1, none⟩ (.int .i64 r.birth)).setCell ⟨w.heap.size, 2, none⟩ (.int .i64 r.prev)).setCell ⟨w.heap.size, 3, none⟩ (.int .i64 r.id)).setCell ⟨w.heap.size, 4, none⟩ (.int .i64 r.page)).setCell ⟨w.heap.size, 5, none⟩ (.int .i64 r.frm)).setCell ⟨w.heap.size, 6, none⟩ (.slice r.b.p r.b.n r.b.c)).setCell ⟨w.heap.size, 7, none⟩ (.slice r.a.p r.a.n r.a.c)).setCell ⟨w.heap.size, 8, none⟩ (.int .i64 r.next)).setCell ⟨w.heap.size, 9, none⟩ (.slice r.r.p r.r.n r.r.c)).setCell ⟨w.heap.size, 10, none⟩ (.slice r.d.p r.d.n r.d.c)) := ⟨_, rfl⟩
  rw [← hw3] at BA3 k3
  have BE3 := BE2.kept k3 (by simp)
  have BE40 := BE3.set 0 (.int .i64 q)
  obtain ⟨w4, hw4⟩ : ∃ wx, wx = w3.setCell ⟨w.heap.size + 1, 0, none⟩ (.int .i64 q) := ⟨_, rfl⟩
  rw [← hw4] at BE40
  obtain ⟨BE4, k4⟩ := BE40
  have BE4' : Blk w4 (w.heap.size + 1) 49 [.int .i64 q] := BE4
  have BA4 := BA3.kept k4 (by simp)
  have S4 := A.kept (A.kept S2 k3 (fun x hx => by simp at hx; subst hx; exact ⟨hc, nA'⟩)) k4 (fun x hx => by simp at hx; subst hx; exact ⟨by omega, nE'⟩)
  have K4 : Kept F w w4 := (((K1.mono (T := F) (by simp)).trans k2 (fun x hx => .inl hx)).trans k3 (fun x hx => .inr (by simp at hx; omega))).trans k4 (fun x hx => .inr (by simp at hx; omega))
  have FIN := @hideH _ (And.intro hR (And.intro hfit (And.intro hq64 (And.intro S4 (And.intro K4 (show ∀ x ∈ F', x ∈ F ∨ w.heap.size ≤ x from fun x hx => by rcases hF x hx with q | q; exact .inl q; exact .inr (by omega)))))))
  clear hR hfit hq64 S4 K4 hF S2 S1 hS nA nE nA' nE' k2 k3 k4 BA BE BA2 BE2 BA3 BE3 BE4 K1 hlt hen A
  skip
  skip
  go_wp2
  rw [← hw3, ← hw4]
  clear hw3 hw4 a0 a1 a2 a3 a4 a5 a6 a7 a8 a9 a10 f0 f1 f2 f3 f4 f5 f6 f7 f8 f9 f10 ce fe
  have q0 := BA4.cell (j := 0) rfl
  have q1 := BA4.cell (j := 1) rfl
  have q2 := BA4.cell (j := 2) rfl
  have q3 := BA4.cell (j := 3) rfl
  have q4 := BA4.cell (j := 4) rfl
  have q5 := BA4.cell (j := 5) rfl
  have q6 := BA4.cell (j := 6) rfl
  have q7 := BA4.cell (j := 7) rfl
  have q8 := BA4.cell (j := 8) rfl
  have q9 := BA4.cell (j := 9) rfl
  have q10 := BA4.cell (j := 10) rfl
  have qe := BE4'.cell (j := 0) rfl
  refine leaves_cons (f := 27) (args := #[.pointer (some ⟨w.heap.size, 0, none⟩), .pointer (some ⟨w.heap.size + 1, 0, none⟩)]) (by simp) (by simp [go_sem]) ?_
  refine (ask_idle _ _ _).mono ?_
  rintro e u' w8 ⟨rfl, rfl, rfl⟩
  exact ⟨.tuple #[_, .int .i64 q], by (simp [results, Try.results24, go_sem, q0, q1, q2, q3, q4, q5, q6, q7, q8, q9, q10, qe]; try rfl), _, _, _, rfl, FIN.out⟩
end Go.Proofs.Ytinlhojojeabcaa

/-
  OWN WORK (by mkcq2.py). chain: birthOf, isOwn, goTo.
-/
namespace Go.Proofs.Ytinlhojojeabcaa
open Go.RowKit
set_option linter.unusedVariables false
set_option linter.unusedSimpArgs false

set_option maxRecDepth 20000 in
set_option maxHeartbeats 3200000 in
theorem qBirth (r : Lv) (l : Int) (w : World) : Calls Try.prog 25 #[.agg #[.int .i64 r.kind, .int .i64 r.birth, .int .i64 r.prev, .int .i64 r.id, .int .i64 r.page, .int .i64 r.frm, .slice r.b.p r.b.n r.b.c, .slice r.a.p r.a.n r.a.c, .int .i64 r.next, .slice r.r.p r.r.n r.r.c, .slice r.d.p r.d.n r.d.c], .int .i64 l] w fun e w' => e = .returned (.int .i64 (birthOf r.rc l)) ∧ Kept [] w w' := by
  obtain ⟨w1, hw1⟩ : ∃ wx, wx = w.alloc (.cells #[.int .i64 r.kind, .int .i64 r.birth, .int .i64 r.prev, .int .i64 r.id, .int .i64 r.page, .int .i64 r.frm, .slice r.b.p r.b.n r.b.c, .slice r.a.p r.a.n r.a.c, .int .i64 r.next, .slice r.r.p r.r.n r.r.c, .slice r.d.p r.d.n r.d.c] 42) := ⟨_, rfl⟩
  have k1 : Kept [] w w1 := by rw [hw1]; exact (Kept.refl [] w).alloc _
  have B1 : Blk w1 w.heap.size 42 [.int .i64 r.kind, .int .i64 r.birth, .int .i64 r.prev, .int .i64 r.id, .int .i64 r.page, .int .i64 r.frm, .slice r.b.p r.b.n r.b.c, .slice r.a.p r.a.n r.a.c, .int .i64 r.next, .slice r.r.p r.r.n r.r.c, .slice r.d.p r.d.n r.d.c] := by rw [hw1]; exact Blk.new w _ _
  have x0 := B1.cell (j := 0) rfl
  have x1 := B1.cell (j := 1) rfl
  by_cases hk : r.kind = 1
  · have HE := @hideH _ (show birthOf r.rc l = l from if_pos hk)
    have hk' : (r.kind == 1) = true := by simpa using hk
    clear hk
    go_enter Try.func25, Try.ntmps25
    go_upto_region 1 with fail
    rw [← hw1]
    clear hw1
    go_wp2
    go_ret
    exact ⟨by rw [HE.out]; rfl, k1⟩
  · have HE := @hideH _ (show birthOf r.rc l = r.birth from if_neg hk)
    have hk' : (r.kind == 1) = false := by simpa using hk
    clear hk
    go_enter Try.func25, Try.ntmps25
    go_upto_region 1 with fail
    rw [← hw1]
    clear hw1
    go_wp2
    go_ret
    exact ⟨by rw [HE.out]; rfl, k1⟩
set_option maxRecDepth 20000 in
set_option maxHeartbeats 3200000 in
theorem qGoNo {gf : Nat} {lb : Array Value} (g : Nat) (k l B p : Int) (w : World) (hB : Blk w g 60 [.func (.func gf) #[] lb, .int .i64 k, .int .i64 l, .int .i64 B]) (h : p < B ∨ l ≤ p) : Calls Try.prog 23 #[.pointer (some ⟨g, 0, none⟩), .int .i64 p] w fun e w' => e = .returned (.bool false) ∧ w' = w := by
  have x2 := hB.cell (j := 2) rfl
  have x3 := hB.cell (j := 3) rfl
  have hlt := hB.lt
  clear hB
  by_cases c1 : p < B
  · clear h
    go_enter Try.func23, Try.ntmps23
    go_wp2
    go_ret
    exact ⟨rfl, rfl⟩
  · have c2 : l ≤ p := h.resolve_left c1
    clear h
    go_enter Try.func23, Try.ntmps23
    go_wp2
    go_ret
    exact ⟨rfl, rfl⟩
set_option maxRecDepth 20000 in
set_option maxHeartbeats 3200000 in
theorem qGoTo {gf : Nat} {lb : Array Value} (g : Nat) (k l B p : Int) (w : World) (hB : Blk w g 60 [.func (.func gf) #[] lb, .int .i64 k, .int .i64 l, .int .i64 B]) (h1 : ¬ p < B) (h2 : ¬ l ≤ p) : Calls Try.prog 23 #[.pointer (some ⟨g, 0, none⟩), .int .i64 p] w fun e w' => e = .returned (.bool true) ∧ Blk w' g 60 [.func (.func gf) #[] lb, .int .i64 k, .int .i64 p, .int .i64 B] ∧ Kept [g] w w' := by
  have x2 := hB.cell (j := 2) rfl
  have x3 := hB.cell (j := 3) rfl
  have f2 := hB.free 2
  have hlt := hB.lt
  have b0 := hB.set 2 (.int .i64 p)
  obtain ⟨w1, hw1⟩ : ∃ wx, wx = w.setCell ⟨g, 2, none⟩ (.int .i64 p) := ⟨_, rfl⟩
  rw [← hw1] at b0
  have HB := @hideH _ (And.intro (show Blk w1 g 60 [.func (.func gf) #[] lb, .int .i64 k, .int .i64 p, .int .i64 B] from b0.1) b0.2)
  clear b0 hB
  go_enter Try.func23, Try.ntmps23
  go_wp2
  rw [← hw1]
  go_ret
  exact ⟨rfl, HB.out.1, HB.out.2⟩
theorem bl_of {p : Prop} [Decidable p] (b : Bool) (h : b = true ↔ p) : Value.bool b = Value.bool (decide p) := by
  congr 1
  cases b with
  | true => exact (decide_eq_true (h.1 rfl)).symm
  | false => exact (decide_eq_false fun c => nomatch h.2 c).symm
set_option maxRecDepth 20000 in
set_option maxHeartbeats 6400000 in
theorem qIsOwn {gf : Nat} {lb : Array Value} (g : Nat) (k l B : Int) (r : Lv) (w : World) (hB : Blk w g 60 [.func (.func gf) #[] lb, .int .i64 k, .int .i64 l, .int .i64 B]) : Calls Try.prog 26 #[.pointer (some ⟨g, 0, none⟩), .agg #[.int .i64 r.kind, .int .i64 r.birth, .int .i64 r.prev, .int .i64 r.id, .int .i64 r.page, .int .i64 r.frm, .slice r.b.p r.b.n r.b.c, .slice r.a.p r.a.n r.a.c, .int .i64 r.next, .slice r.r.p r.r.n r.r.c, .slice r.d.p r.d.n r.d.c]] w fun e w' => e = .returned (.bool (decide (hangs r.rc l B))) ∧ Kept [] w w' := by
  obtain ⟨w1, hw1⟩ : ∃ wx, wx = w.alloc (.cells #[.int .i64 r.kind, .int .i64 r.birth, .int .i64 r.prev, .int .i64 r.id, .int .i64 r.page, .int .i64 r.frm, .slice r.b.p r.b.n r.b.c, .slice r.a.p r.a.n r.a.c, .int .i64 r.next, .slice r.r.p r.r.n r.r.c, .slice r.d.p r.d.n r.d.c] 42) := ⟨_, rfl⟩
  have k1 : Kept [] w w1 := by rw [hw1]; exact (Kept.refl [] w).alloc _
  have B1 : Blk w1 w.heap.size 42 [.int .i64 r.kind, .int .i64 r.birth, .int .i64 r.prev, .int .i64 r.id, .int .i64 r.page, .int .i64 r.frm, .slice r.b.p r.b.n r.b.c, .slice r.a.p r.a.n r.a.c, .int .i64 r.next, .slice r.r.p r.r.n r.r.c, .slice r.d.p r.d.n r.d.c] := by rw [hw1]; exact Blk.new w _ _
  have hB1 := hB.kept k1 (by simp)
  have x0 := B1.cell (j := 0) rfl
  have x1 := B1.cell (j := 1) rfl
  have y2 := hB1.cell (j := 2) rfl
  have y3 := hB1.cell (j := 3) rfl
  have hlt := hB1.lt
  have hlt0 := hB.lt
  have HK := @hideH _ k1
  clear hB hB1 B1 k1
  obtain ⟨z, hz⟩ : ∃ z, z = decide (hangs r.rc l B) := ⟨_, rfl⟩
  rw [← hz]
  have HZ := @hideH _ hz
  clear hz
  obtain ⟨kd, hkd⟩ : ∃ kd, kd = r.kind := ⟨_, rfl⟩
  obtain ⟨bi, hbi⟩ : ∃ bi, bi = r.birth := ⟨_, rfl⟩
  rw [← hkd] at x0
  rw [← hbi] at x1
  have HD := @hideH _ (show hangs r.rc l B ↔ ((1 ≤ kd ∧ kd ≤ 6) ∧ (kd = 1 → l = B) ∧ (kd ≠ 1 → bi = B ∧ 1 ≤ B ∧ B < l)) by rw [hkd, hbi]; exact Iff.rfl)
  clear hkd hbi
  by_cases c1 : kd = 1
  · subst c1
    by_cases cb : l = B
    · subst cb
      have HT := @hideH _ (show z = true from HZ.out.trans (decide_eq_true (HD.out.2 ⟨⟨by omega, by omega⟩, fun _ => rfl, fun c => absurd rfl c⟩)))
      go_enter Try.func26, Try.ntmps26
      go_upto_region 1 with fail
      rw [← hw1]
      clear hw1
      go_upto_region 3 with fail
      go_quiet (fail)
      go_wp2
      go_ret
      exact ⟨by rw [HT.out]; simp, HK.out.drewN' _⟩
    · have cb' : (l == B) = false := by simpa using cb
      have HT := @hideH _ (show z = false from HZ.out.trans (decide_eq_false fun c => cb ((HD.out.1 c).2.1 rfl)))
      clear cb
      go_enter Try.func26, Try.ntmps26
      go_upto_region 1 with fail
      rw [← hw1]
      clear hw1
      go_upto_region 3 with fail
      go_quiet (fail)
      go_wp2
      go_ret
      exact ⟨by rw [HT.out]; rfl, HK.out.drewN' _⟩
  · have c1' : (kd == 1) = false := by simpa using c1
    by_cases ck : kd = 2 ∨ kd = 3 ∨ kd = 4 ∨ kd = 5 ∨ kd = 6
    case neg =>
      have HT := @hideH _ (show z = false from HZ.out.trans (decide_eq_false fun c => by have := (HD.out.1 c).1; omega))
      have e2 : (kd == 2) = false := by simp; omega
      have e3 : (kd == 3) = false := by simp; omega
      have e4 : (kd == 4) = false := by simp; omega
      have e5 : (kd == 5) = false := by simp; omega
      have e6 : (kd == 6) = false := by simp; omega
      clear ck c1
      go_enter Try.func26, Try.ntmps26
      go_upto_region 1 with fail
      rw [← hw1]
      clear hw1
      go_wp2
      go_ret
      exact ⟨by rw [HT.out]; rfl, HK.out⟩
    case pos =>
      have HCK := @hideH _ (show (1 ≤ kd ∧ kd ≤ 6) ∧ kd ≠ 1 by omega)
      by_cases cb : bi = B
      case neg =>
        have HT := @hideH _ (show z = false from HZ.out.trans (decide_eq_false fun c => cb ((HD.out.1 c).2.2 HCK.out.2).1))
        have cb' : (bi == B) = false := by simpa using cb
        clear cb
        rcases ck with rfl | rfl | rfl | rfl | rfl
        · clear c1 c1'
          go_enter Try.func26, Try.ntmps26
          go_upto_region 1 with fail
          rw [← hw1]
          clear hw1
          go_upto_region 9 with fail
          go_quiet (fail)
          go_wp2
          go_ret
          exact ⟨by rw [HT.out]; first | rfl | simp, HK.out.drewN' _⟩
        · clear c1 c1'
          go_enter Try.func26, Try.ntmps26
          go_upto_region 1 with fail
          rw [← hw1]
          clear hw1
          go_upto_region 9 with fail
          go_quiet (fail)
          go_wp2
          go_ret
          exact ⟨by rw [HT.out]; first | rfl | simp, HK.out.drewN' _⟩
        · clear c1 c1'
          go_enter Try.func26, Try.ntmps26
          go_upto_region 1 with fail
          rw [← hw1]
          clear hw1
          go_upto_region 9 with fail
          go_quiet (fail)
          go_wp2
          go_ret
          exact ⟨by rw [HT.out]; first | rfl | simp, HK.out.drewN' _⟩
        · clear c1 c1'
          go_enter Try.func26, Try.ntmps26
          go_upto_region 1 with fail
          rw [← hw1]
          clear hw1
          go_upto_region 9 with fail
          go_quiet (fail)
          go_wp2
          go_ret
          exact ⟨by rw [HT.out]; first | rfl | simp, HK.out.drewN' _⟩
        · clear c1 c1'
          go_enter Try.func26, Try.ntmps26
          go_upto_region 1 with fail
          rw [← hw1]
          clear hw1
          go_upto_region 9 with fail
          go_quiet (fail)
          go_wp2
          go_ret
          exact ⟨by rw [HT.out]; first | rfl | simp, HK.out.drewN' _⟩
      case pos =>
        by_cases cB : 1 ≤ B
        case neg =>
          have HT := @hideH _ (show z = false from HZ.out.trans (decide_eq_false fun c => cB ((HD.out.1 c).2.2 HCK.out.2).2.1))
          have cB' : decide (1 ≤ B) = false := decide_eq_false cB
          clear cB
          subst cb
          rcases ck with rfl | rfl | rfl | rfl | rfl
          · clear c1 c1'
            go_enter Try.func26, Try.ntmps26
            go_upto_region 1 with fail
            rw [← hw1]
            clear hw1
            go_upto_region 9 with fail
            go_quiet (fail)
            go_wp2
            go_ret
            exact ⟨by rw [HT.out]; first | rfl | simp, HK.out.drewN' _⟩
          · clear c1 c1'
            go_enter Try.func26, Try.ntmps26
            go_upto_region 1 with fail
            rw [← hw1]
            clear hw1
            go_upto_region 9 with fail
            go_quiet (fail)
            go_wp2
            go_ret
            exact ⟨by rw [HT.out]; first | rfl | simp, HK.out.drewN' _⟩
          · clear c1 c1'
            go_enter Try.func26, Try.ntmps26
            go_upto_region 1 with fail
            rw [← hw1]
            clear hw1
            go_upto_region 9 with fail
            go_quiet (fail)
            go_wp2
            go_ret
            exact ⟨by rw [HT.out]; first | rfl | simp, HK.out.drewN' _⟩
          · clear c1 c1'
            go_enter Try.func26, Try.ntmps26
            go_upto_region 1 with fail
            rw [← hw1]
            clear hw1
            go_upto_region 9 with fail
            go_quiet (fail)
            go_wp2
            go_ret
            exact ⟨by rw [HT.out]; first | rfl | simp, HK.out.drewN' _⟩
          · clear c1 c1'
            go_enter Try.func26, Try.ntmps26
            go_upto_region 1 with fail
            rw [← hw1]
            clear hw1
            go_upto_region 9 with fail
            go_quiet (fail)
            go_wp2
            go_ret
            exact ⟨by rw [HT.out]; first | rfl | simp, HK.out.drewN' _⟩
        case pos =>
          have cB' : decide (1 ≤ B) = true := decide_eq_true cB
          by_cases cl : B < l
          case neg =>
            have HT := @hideH _ (show z = false from HZ.out.trans (decide_eq_false fun c => cl ((HD.out.1 c).2.2 HCK.out.2).2.2))
            have cl' : decide (B < l) = false := decide_eq_false cl
            clear cB cl
            subst cb
            rcases ck with rfl | rfl | rfl | rfl | rfl
            · clear c1 c1'
              go_enter Try.func26, Try.ntmps26
              go_upto_region 1 with fail
              rw [← hw1]
              clear hw1
              go_upto_region 9 with fail
              go_quiet (fail)
              go_wp2
              go_ret
              exact ⟨by rw [HT.out]; first | rfl | simp, HK.out.drewN' _⟩
            · clear c1 c1'
              go_enter Try.func26, Try.ntmps26
              go_upto_region 1 with fail
              rw [← hw1]
              clear hw1
              go_upto_region 9 with fail
              go_quiet (fail)
              go_wp2
              go_ret
              exact ⟨by rw [HT.out]; first | rfl | simp, HK.out.drewN' _⟩
            · clear c1 c1'
              go_enter Try.func26, Try.ntmps26
              go_upto_region 1 with fail
              rw [← hw1]
              clear hw1
              go_upto_region 9 with fail
              go_quiet (fail)
              go_wp2
              go_ret
              exact ⟨by rw [HT.out]; first | rfl | simp, HK.out.drewN' _⟩
            · clear c1 c1'
              go_enter Try.func26, Try.ntmps26
              go_upto_region 1 with fail
              rw [← hw1]
              clear hw1
              go_upto_region 9 with fail
              go_quiet (fail)
              go_wp2
              go_ret
              exact ⟨by rw [HT.out]; first | rfl | simp, HK.out.drewN' _⟩
            · clear c1 c1'
              go_enter Try.func26, Try.ntmps26
              go_upto_region 1 with fail
              rw [← hw1]
              clear hw1
              go_upto_region 9 with fail
              go_quiet (fail)
              go_wp2
              go_ret
              exact ⟨by rw [HT.out]; first | rfl | simp, HK.out.drewN' _⟩
          case pos =>
            have HT := @hideH _ (show z = true from HZ.out.trans (decide_eq_true (HD.out.2 ⟨HCK.out.1, fun c => absurd c HCK.out.2, fun _ => ⟨cb, cB, cl⟩⟩)))
            have cl' : decide (B < l) = true := decide_eq_true cl
            clear cB cl
            subst cb
            rcases ck with rfl | rfl | rfl | rfl | rfl
            · clear c1 c1'
              go_enter Try.func26, Try.ntmps26
              go_upto_region 1 with fail
              rw [← hw1]
              clear hw1
              go_upto_region 9 with fail
              go_quiet (fail)
              go_wp2
              go_ret
              exact ⟨by rw [HT.out]; first | rfl | simp, HK.out.drewN' _⟩
            · clear c1 c1'
              go_enter Try.func26, Try.ntmps26
              go_upto_region 1 with fail
              rw [← hw1]
              clear hw1
              go_upto_region 9 with fail
              go_quiet (fail)
              go_wp2
              go_ret
              exact ⟨by rw [HT.out]; first | rfl | simp, HK.out.drewN' _⟩
            · clear c1 c1'
              go_enter Try.func26, Try.ntmps26
              go_upto_region 1 with fail
              rw [← hw1]
              clear hw1
              go_upto_region 9 with fail
              go_quiet (fail)
              go_wp2
              go_ret
              exact ⟨by rw [HT.out]; first | rfl | simp, HK.out.drewN' _⟩
            · clear c1 c1'
              go_enter Try.func26, Try.ntmps26
              go_upto_region 1 with fail
              rw [← hw1]
              clear hw1
              go_upto_region 9 with fail
              go_quiet (fail)
              go_wp2
              go_ret
              exact ⟨by rw [HT.out]; first | rfl | simp, HK.out.drewN' _⟩
            · clear c1 c1'
              go_enter Try.func26, Try.ntmps26
              go_upto_region 1 with fail
              rw [← hw1]
              clear hw1
              go_upto_region 9 with fail
              go_quiet (fail)
              go_wp2
              go_ret
              exact ⟨by rw [HT.out]; first | rfl | simp, HK.out.drewN' _⟩
end Go.Proofs.Ytinlhojojeabcaa

/-
  OWN WORK. As Late: the last operation may wait for a read by others between them.
-/
namespace Go.Proofs.Ytinlhojojeabcaa
open Go.RowKit
set_option linter.unusedVariables false

section
variable {P : Program} {ops : Array Oper} {Q : Exit → Act → World → Prop} {md : Region.Mode} {S : World → Prop} {z : Nat}
/-- each of C waits for number i, or for another of C -/
def guards (md : Region.Mode) (ops : Array Oper) (C : List Nat) (i : Nat) : Bool := C.all fun j => match ops[j]? with
  | some o => o.after.any fun e => Region.binds md e && (e.on == i || C.contains e.on)
  | none => false
theorem guards_ready {C : List Nat} {i j : Nat} {listed : Array Bool} (h : guards md ops C i = true) (hi : listed.getD i false = false) (hC : ∀ k ∈ C, listed.getD k false = false) (hj : j ∈ Region.ready md ops listed) : j ∉ C := fun hm => by
  obtain ⟨-, o, ho, hall⟩ := mem_ready.1 hj
  have q := List.all_eq_true.1 h j hm
  rw [ho] at q
  obtain ⟨k, hk, he⟩ := Array.any_eq_true.1 q
  simp at he
  have := hall (o.after[k]) (Array.getElem_mem hk) he.1
  rcases he.2 with e | e
  · rw [e, hi] at this; cases this
  · rw [hC _ e] at this; cases this
theorem wpAnyZ_firstC {i : Nat} {oi : Oper} {v : Value} {C : List Nat} (hi : ops[i]? = some oi) (hsel : ∀ (j : Nat) (o : Oper) cs b, ops[j]? = some o → o.op ≠ .select cs b)
    (hQ : ∀ c a w, Q (.panic c) (a.put oi.dst v) w → Q (.panic c) a w) (hg : guards md ops C i = true) (hz : z ∈ C) :
    ∀ (n : Nat) (listed : Array Bool) (a : Act) (w : World),
      (∀ k ∈ C, listed.getD k false = false) →
      (∀ j oj, ops[j]? = some oj → j ≠ i → listed.getD j true = false → (∀ e ∈ oj.after, Region.binds md e = true → e.on ≠ i) → oi.apart ops oj = true) →
      i ∈ Region.ready md ops listed → YieldsIf P ops S oi v a → S w →
      wpAnyZ P md ops Q S z n (listed.setIfInBounds i true) (a.put oi.dst v) w → wpAnyZ P md ops Q S z (n + 1) listed a w := by
  intro n
  induction n with
  | zero =>
    intro listed a w _ _ hr hy hS H
    refine ⟨fun h => (by rw [h] at hr; cases hr), fun j hj => ?_⟩
    by_cases e : j = i
    · subst e; exact hy.wpOp hi hS ⟨fun _ => hS, H⟩
    · have := ready_mono hj e
      rw [H.1] at this
      cases this
  | succ n ih =>
    intro listed a w hC hfree hr hy hS H
    have hun := (mem_ready.1 hr).1
    have hunf : listed.getD i false = false := by
      rcases Nat.lt_or_ge i listed.size with c | c
      · simp [c] at hun ⊢; exact hun
      · simp [c]
    refine ⟨fun h => (by rw [h] at hr; cases hr), fun j hj => ?_⟩
    by_cases e : j = i
    · subst e; exact hy.wpOp hi hS ⟨fun _ => hS, H⟩
    · have hjC := guards_ready hg hunf hC hj
      have hjz : j ≠ z := fun c => hjC (c ▸ hz)
      obtain ⟨hju, oj, hoj, hall⟩ := mem_ready.1 hj
      have hno : ∀ e ∈ oj.after, Region.binds md e = true → e.on ≠ i := fun e he hb c => by
        have := hall e he hb
        rw [c, hunf] at this
        cases this
      have h2 := wpOp_putIf hoj (hfree j oj hoj e hju hno) (fun cs b => hsel i oi cs b hi) (fun cs b => hsel j oj cs b hoj) hQ hy (H.2 j (ready_mono hj e))
      have hfree2 : ∀ k ok, ops[k]? = some ok → k ≠ i → (listed.setIfInBounds j true).getD k true = false → (∀ e ∈ ok.after, Region.binds md e = true → e.on ≠ i) → oi.apart ops ok = true := fun k ok hk hki hkj hnk => by
        by_cases c : j = k
        · subst c; exact hfree j ok hk hki hju hnk
        · exact hfree k ok hk hki (by rwa [getD_set_ne true c] at hkj) hnk
      have hC2 : ∀ k ∈ C, (listed.setIfInBounds j true).getD k false = false := fun k hk => by
        have hne : j ≠ k := fun c => hjC (by rw [c]; exact hk)
        rw [getD_set_ne false hne]
        exact hC k hk
      refine wpOp_mono (fun a' w' h3 => ⟨h3.2.1, ih (listed.setIfInBounds j true) a' w' hC2 hfree2 (ready_mono hr (Ne.symm e)) h3.1 (h3.2.1 hjz) ?_⟩) h2
      rw [Array.setIfInBounds_comm _ _ e]
      exact h3.2.2
/-- take number i first -/
theorem wpAnyZ_takeC (i : Nat) (C : List Nat) {oi : Oper} {v : Value} {n : Nat} {listed : Array Bool} {a : Act} {w : World} (hi : ops[i]? = some oi)
    (hs : Region.noSelect ops = true) (hg : guards md ops C i = true) (hz : C.contains z = true) (hl : C.all (fun k => !listed.getD k false) = true) (hf : Region.free md ops listed i = true) (hr : (Region.ready md ops listed).contains i = true)
    (hQ : ∀ c a w, Q (.panic c) (a.put oi.dst v) w → Q (.panic c) a w) (hw : Region.wanted oi (yielded ops a.tmps) = true) (hy : ∀ w, S w → (execOp a.eval oi).run P w = .ok (.value v) w) (hS : S w)
    (h : wpAnyZ P md ops Q S z n (listed.setIfInBounds i true) (a.put oi.dst v) w) : wpAnyZ P md ops Q S z (n + 1) listed a w :=
  wpAnyZ_firstC hi (Region.noSelect_spec hs) hQ hg (by simpa using hz) n listed a w (fun k hk => by simpa using List.all_eq_true.1 hl k hk) (Region.free_spec hi hf) (by simpa using hr) (.inl ⟨hw, hy⟩) hS h
end
end Go.Proofs.Ytinlhojojeabcaa

/-
  OWN WORK. As Late: two operations that may come up; reads taken behind the last one.
-/
namespace Go.Proofs.Ytinlhojojeabcaa
open Go.RowKit
set_option linter.unusedVariables false

section
variable {P : Program} {ops : Array Oper} {Q : Exit → Act → World → Prop} {md : Region.Mode} {S : World → Prop} {z : Nat}
theorem wpAnyZ_firstD {i : Nat} {oi : Oper} {v : Value} (hi : ops[i]? = some oi) (hsel : ∀ (j : Nat) (o : Oper) cs b, ops[j]? = some o → o.op ≠ .select cs b)
    (hQ : ∀ c a w, Q (.panic c) (a.put oi.dst v) w → Q (.panic c) a w) :
    ∀ (n : Nat) (listed : Array Bool) (a : Act) (w : World),
      listed.getD z true = true →
      (∀ j oj, ops[j]? = some oj → j ≠ i → listed.getD j true = false → (∀ e ∈ oj.after, Region.binds md e = true → e.on ≠ i) → oi.apart ops oj = true) →
      i ∈ Region.ready md ops listed → YieldsIf P ops S oi v a → S w →
      wpAnyZ P md ops Q S z n (listed.setIfInBounds i true) (a.put oi.dst v) w → wpAnyZ P md ops Q S z (n + 1) listed a w := by
  intro n
  induction n with
  | zero =>
    intro listed a w _ _ hr hy hS H
    refine ⟨fun h => (by rw [h] at hr; cases hr), fun j hj => ?_⟩
    by_cases e : j = i
    · subst e; exact hy.wpOp hi hS ⟨fun _ => hS, H⟩
    · have := ready_mono hj e
      rw [H.1] at this
      cases this
  | succ n ih =>
    intro listed a w hz hfree hr hy hS H
    have hun := (mem_ready.1 hr).1
    have hunf : listed.getD i false = false := by
      rcases Nat.lt_or_ge i listed.size with c | c
      · simp [c] at hun ⊢; exact hun
      · simp [c]
    refine ⟨fun h => (by rw [h] at hr; cases hr), fun j hj => ?_⟩
    by_cases e : j = i
    · subst e; exact hy.wpOp hi hS ⟨fun _ => hS, H⟩
    · obtain ⟨hju, oj, hoj, hall⟩ := mem_ready.1 hj
      have hjz : j ≠ z := fun c => by rw [c, hz] at hju; cases hju
      have hno : ∀ e ∈ oj.after, Region.binds md e = true → e.on ≠ i := fun e he hb c => by
        have := hall e he hb
        rw [c, hunf] at this
        cases this
      have h2 := wpOp_putIf hoj (hfree j oj hoj e hju hno) (fun cs b => hsel i oi cs b hi) (fun cs b => hsel j oj cs b hoj) hQ hy (H.2 j (ready_mono hj e))
      have hfree2 : ∀ k ok, ops[k]? = some ok → k ≠ i → (listed.setIfInBounds j true).getD k true = false → (∀ e ∈ ok.after, Region.binds md e = true → e.on ≠ i) → oi.apart ops ok = true := fun k ok hk hki hkj hnk => by
        by_cases c : j = k
        · subst c; exact hfree j ok hk hki hju hnk
        · exact hfree k ok hk hki (by rwa [getD_set_ne true c] at hkj) hnk
      refine wpOp_mono (fun a' w' h3 => ⟨h3.2.1, ih (listed.setIfInBounds j true) a' w' (by rw [getD_set_ne true hjz]; exact hz) hfree2 (ready_mono hr (Ne.symm e)) h3.1 (h3.2.1 hjz) ?_⟩) h2
      rw [Array.setIfInBounds_comm _ _ e]
      exact h3.2.2
/-- take number i first, where z is done -/
theorem wpAnyZ_takeD (i : Nat) {oi : Oper} {v : Value} {n : Nat} {listed : Array Bool} {a : Act} {w : World} (hi : ops[i]? = some oi)
    (hs : Region.noSelect ops = true) (hz : listed.getD z true = true) (hf : Region.free md ops listed i = true) (hr : (Region.ready md ops listed).contains i = true)
    (hQ : ∀ c a w, Q (.panic c) (a.put oi.dst v) w → Q (.panic c) a w) (hw : Region.wanted oi (yielded ops a.tmps) = true) (hy : ∀ w, S w → (execOp a.eval oi).run P w = .ok (.value v) w) (hS : S w)
    (h : wpAnyZ P md ops Q S z n (listed.setIfInBounds i true) (a.put oi.dst v) w) : wpAnyZ P md ops Q S z (n + 1) listed a w :=
  wpAnyZ_firstD hi (Region.noSelect_spec hs) hQ n listed a w hz (Region.free_spec hi hf) (by simpa using hr) (.inl ⟨hw, hy⟩) hS h
/-- only numbers i and j may come up -/
theorem wpAnyZ_two (i j : Nat) {oi oj : Oper} {n : Nat} {listed : Array Bool} {a : Act} {w : World} (hi : ops[i]? = some oi) (hj : ops[j]? = some oj) (hr : Region.ready md ops listed = [i, j])
    (h1 : ∀ K : Act → World → Prop, (∀ a' w', (i ≠ z → S w') → wpAnyZ P md ops Q S z n (listed.setIfInBounds i true) a' w' → K a' w') → if Region.wanted oi (yielded ops a.tmps) = true then Oper.wp P oi a w K Q else K (a.put oi.dst undef) w)
    (h2 : ∀ K : Act → World → Prop, (∀ a' w', (j ≠ z → S w') → wpAnyZ P md ops Q S z n (listed.setIfInBounds j true) a' w' → K a' w') → if Region.wanted oj (yielded ops a.tmps) = true then Oper.wp P oj a w K Q else K (a.put oj.dst undef) w) : wpAnyZ P md ops Q S z (n + 1) listed a w := by
  refine ⟨fun c => absurd (hr.symm.trans c) (by simp), fun k hk => ?_⟩
  rw [hr] at hk
  simp at hk
  rcases hk with rfl | rfl
  · exact wpOp_step hi fun K hK => h1 K fun a' w' q1 q2 => hK a' w' ⟨q1, q2⟩
  · exact wpOp_step hj fun K hK => h2 K fun a' w' q1 q2 => hK a' w' ⟨q1, q2⟩
end
end Go.Proofs.Ytinlhojojeabcaa

