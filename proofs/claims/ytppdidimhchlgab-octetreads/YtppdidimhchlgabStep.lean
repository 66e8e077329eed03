/-
  OWN WORK. One step of both readers (Pair.step).
-/
import Derived.Test.YtppdidimhchlgabRows
import Derived.Test.YtppdidimhchlgabCodes
namespace Go.Proofs.Ytppdidimhchlgab
open Go.RowKit
set_option linter.unusedVariables false

/-- both readers hold the same -/
structure Two (w : World) (g g' : Nat) (R : List UInt8) : Prop where
  p : Rd 38 w g R
  r : RR 40 w g' R
theorem Two.kept {w w' : World} {g g' : Nat} {R : List UInt8} (h : Two w g g' R) (k : Kept [] w w') : Two w' g g' R := ⟨h.p.keptNB k (by simp), h.r.keptNB k (by simp)⟩
/-- another pair's step touches neither -/
theorem Two.other {w w' : World} {g g' x y : Nat} {R R' : List UInt8} (h : Two w g g' R) (k : Kept [x, y] w w') (h2 : Two w x y R') (h1 : x ≠ g) (h3 : x ≠ g') (h4 : y ≠ g) (h5 : y ≠ g') : Two w' g g' R := by
  refine ⟨h.p.keptNB k ?_, h.r.keptNB k ?_⟩
  · intro z hz
    simp at hz
    rcases hz with rfl | rfl
    · exact ⟨h1, .inl h2.p.box.noByte⟩
    · exact ⟨h4, .inl h2.r.noByte⟩
  · intro z hz
    simp at hz
    rcases hz with rfl | rfl
    · exact ⟨h3, .inl h2.p.box.noByte⟩
    · exact ⟨h5, .inl h2.r.noByte⟩

theorem cell_box2 (w : World) (o1 : Obj) (B : Array Value) (t : TypeId) (j : Nat) (v : Value) (h : B.toList[j]? = some v) : ((w.alloc o1).alloc (.cells B t)).cell? ⟨w.heap.size + 1, j, none⟩ = some v := by
  have := World.news_of_block (heap_alloc_new (w.alloc o1) (.cells B t)) j v h
  rw [add_none rfl] at this
  simpa using this
theorem cell_box1 (w : World) (A : Array Value) (t : TypeId) (o2 : Obj) (j : Nat) (v : Value) (h : A.toList[j]? = some v) : ((w.alloc (.cells A t)).alloc o2).cell? ⟨w.heap.size, j, none⟩ = some v := by
  have h1 := World.news_of_block (heap_alloc_new w (.cells A t)) j v h
  rw [add_none rfl, Nat.zero_add] at h1
  exact ((Kept.refl [] (w.alloc (.cells A t))).alloc o2).cell h1 (by simp)
set_option maxHeartbeats 1600000 in
theorem step0_any (g g' : Nat) (R : List UInt8) (sec : Bool) (n : Int) (w : World) (h : Two w g g' R) (hne : g ≠ g') (hl : R.length ≤ 140737488355328) :
    Calls Try.prog 7 #[.agg #[.pointer (some ⟨g, 0, none⟩), .pointer (some ⟨g', 0, none⟩)], .agg #[.bool sec, .int .i64 0, .int .i64 n]] w fun e w' => e = .returned (.bool true) ∧ ∃ R', Two w' g g' R' ∧ R'.length ≤ R.length ∧ Kept [g, g'] w w' := by
  have hgl := h.p.lt
  have hgl' := h.r.lt
  have kb : Kept [] w ((w.alloc (.cells #[.pointer (some ⟨g, 0, none⟩), .pointer (some ⟨g', 0, none⟩)] 29)).alloc (.cells #[.bool sec, .int .i64 0, .int .i64 n] 32)) := ((Kept.refl [] w).alloc _).alloc _
  have h2 := h.kept kb
  have c1 := cell_box1 w #[.pointer (some ⟨g, 0, none⟩), .pointer (some ⟨g', 0, none⟩)] 29 (.cells #[.bool sec, .int .i64 0, .int .i64 n] 32) 1 _ rfl
  have c2 := cell_box2 w (.cells #[.pointer (some ⟨g, 0, none⟩), .pointer (some ⟨g', 0, none⟩)] 29) #[.bool sec, .int .i64 0, .int .i64 n] 32 2 _ rfl
  have HNE : Hid (g ≠ g') := hne
  have C1 : Hid (_ = _) := c1
  have C2 : Hid (_ = _) := c2
  clear hne c1 c2
  go_enter Try.func7, Try.ntmps7
  go_wp2_with fail
  refine (number_tot g R n _ h2.p).mono ?_
  rintro e wa ⟨rfl, hpa, ka⟩
  have d1 := ka.cell C1.out (by simp; omega)
  have d2 := ka.cell C2.out (by simp; omega)
  have hra := h2.r.keptNB ka (by intro x hx; simp at hx; subst hx; exact ⟨HNE.out, .inl h2.p.box.noByte⟩)
  have kA : Kept [g, g'] w wa := (kb.mono (by simp)).trans ka (by simp)
  clear ka
  go_wp2_with fail
  refine (refNumber_tot g' R n _ hra).mono ?_
  rintro e wb ⟨rfl, hrb, kb2⟩
  have hpb := hpa.keptNB kb2 (by intro x hx; simp at hx; subst hx; exact ⟨fun e => HNE.out e.symm, .inl hra.noByte⟩)
  have kB : Kept [g, g'] w wb := kA.trans kb2 (by simp)
  clear kb2 kA hra hpa d1 d2 h2 kb C1 C2
  go_wp2
  go_ret
  exact ⟨rfl, _, ⟨hpb, hrb⟩, restN_le n R, kB⟩
set_option maxHeartbeats 1600000 in
theorem step1_any (g g' : Nat) (R : List UInt8) (sec : Bool) (n : Int) (w : World) (h : Two w g g' R) (hne : g ≠ g') (hl : R.length ≤ 140737488355328) :
    Calls Try.prog 7 #[.agg #[.pointer (some ⟨g, 0, none⟩), .pointer (some ⟨g', 0, none⟩)], .agg #[.bool sec, .int .i64 1, .int .i64 n]] w fun e w' => e = .returned (.bool true) ∧ ∃ R', Two w' g g' R' ∧ R'.length ≤ R.length ∧ Kept [g, g'] w w' := by
  have hgl := h.p.lt
  have hgl' := h.r.lt
  have kb : Kept [] w ((w.alloc (.cells #[.pointer (some ⟨g, 0, none⟩), .pointer (some ⟨g', 0, none⟩)] 29)).alloc (.cells #[.bool sec, .int .i64 1, .int .i64 n] 32)) := ((Kept.refl [] w).alloc _).alloc _
  have h2 := h.kept kb
  have c1 := cell_box1 w #[.pointer (some ⟨g, 0, none⟩), .pointer (some ⟨g', 0, none⟩)] 29 (.cells #[.bool sec, .int .i64 1, .int .i64 n] 32) 1 _ rfl
  have c2 := cell_box2 w (.cells #[.pointer (some ⟨g, 0, none⟩), .pointer (some ⟨g', 0, none⟩)] 29) #[.bool sec, .int .i64 1, .int .i64 n] 32 2 _ rfl
  have HNE : Hid (g ≠ g') := hne
  have C1 : Hid (_ = _) := c1
  have C2 : Hid (_ = _) := c2
  clear hne c1 c2
  go_enter Try.func7, Try.ntmps7
  go_wp2_with fail
  refine (int_tot g R _ h2.p).mono ?_
  rintro e wa ⟨rfl, hpa, ka⟩
  have d1 := ka.cell C1.out (by simp; omega)
  have d2 := ka.cell C2.out (by simp; omega)
  have hra := h2.r.keptNB ka (by intro x hx; simp at hx; subst hx; exact ⟨HNE.out, .inl h2.p.box.noByte⟩)
  have kA : Kept [g, g'] w wa := (kb.mono (by simp)).trans ka (by simp)
  clear ka
  go_wp2_with fail
  refine (refInt_tot g' R _ hra).mono ?_
  rintro e wb ⟨rfl, hrb, kb2⟩
  have hpb := hpa.keptNB kb2 (by intro x hx; simp at hx; subst hx; exact ⟨fun e => HNE.out e.symm, .inl hra.noByte⟩)
  have kB : Kept [g, g'] w wb := kA.trans kb2 (by simp)
  clear kb2 kA hra hpa d1 d2 h2 kb C1 C2
  go_wp2
  go_ret
  exact ⟨rfl, _, ⟨hpb, hrb⟩, restI_le R, kB⟩
set_option maxHeartbeats 1600000 in
theorem step2_any (g g' : Nat) (R : List UInt8) (sec : Bool) (n : Int) (w : World) (h : Two w g g' R) (hne : g ≠ g') (hl : R.length ≤ 140737488355328) :
    Calls Try.prog 7 #[.agg #[.pointer (some ⟨g, 0, none⟩), .pointer (some ⟨g', 0, none⟩)], .agg #[.bool sec, .int .i64 2, .int .i64 n]] w fun e w' => e = .returned (.bool true) ∧ ∃ R', Two w' g g' R' ∧ R'.length ≤ R.length ∧ Kept [g, g'] w w' := by
  have hgl := h.p.lt
  have hgl' := h.r.lt
  have kb : Kept [] w ((w.alloc (.cells #[.pointer (some ⟨g, 0, none⟩), .pointer (some ⟨g', 0, none⟩)] 29)).alloc (.cells #[.bool sec, .int .i64 2, .int .i64 n] 32)) := ((Kept.refl [] w).alloc _).alloc _
  have h2 := h.kept kb
  have c1 := cell_box1 w #[.pointer (some ⟨g, 0, none⟩), .pointer (some ⟨g', 0, none⟩)] 29 (.cells #[.bool sec, .int .i64 2, .int .i64 n] 32) 1 _ rfl
  have c2 := cell_box2 w (.cells #[.pointer (some ⟨g, 0, none⟩), .pointer (some ⟨g', 0, none⟩)] 29) #[.bool sec, .int .i64 2, .int .i64 n] 32 2 _ rfl
  have HNE : Hid (g ≠ g') := hne
  have C1 : Hid (_ = _) := c1
  have C2 : Hid (_ = _) := c2
  clear hne c1 c2
  go_enter Try.func7, Try.ntmps7
  go_wp2_with fail
  refine (row_tot g R n _ h2.p hl).mono ?_
  rintro e wa ⟨va, rfl, ba, hpa, ka⟩
  have d1 := ka.cell C1.out (by simp; omega)
  have d2 := ka.cell C2.out (by simp; omega)
  have hra := h2.r.keptNB ka (by intro x hx; simp at hx; subst hx; exact ⟨HNE.out, .inl h2.p.box.noByte⟩)
  have kA : Kept [g, g'] w wa := (kb.mono (by simp)).trans ka (by simp)
  clear ka
  go_wp2_with fail
  refine (refRow_tot g' R n _ hra hl).mono ?_
  rintro e wb ⟨vb, rfl, bb, hrb, kb2⟩
  have ba' := ba.keptNB kb2 (by intro x hx; simp at hx; subst hx; exact .inl hra.noByte)
  have hpb := hpa.keptNB kb2 (by intro x hx; simp at hx; subst hx; exact ⟨fun e => HNE.out e.symm, .inl hra.noByte⟩)
  have kB : Kept [g, g'] w wb := kA.trans kb2 (by simp)
  clear kb2 kA hra hpa d1 d2 h2 kb C1 C2 ba
  go_wp2_with fail
  refine (same_any _ _ _ _ _ ba' bb).mono ?_
  rintro e wc ⟨rfl, hwc⟩
  rw [← hwc] at hpb hrb kB
  clear hwc ba' bb
  rw [show (valR n R == valR n R) = true from by simp]
  go_wp2
  go_ret
  exact ⟨rfl, _, ⟨hpb, hrb⟩, restR_le n R, kB⟩
set_option maxHeartbeats 1600000 in
theorem step3_any (g g' : Nat) (R : List UInt8) (sec : Bool) (n : Int) (w : World) (h : Two w g g' R) (hne : g ≠ g') (hl : R.length ≤ 140737488355328) :
    Calls Try.prog 7 #[.agg #[.pointer (some ⟨g, 0, none⟩), .pointer (some ⟨g', 0, none⟩)], .agg #[.bool sec, .int .i64 3, .int .i64 n]] w fun e w' => e = .returned (.bool true) ∧ ∃ R', Two w' g g' R' ∧ R'.length ≤ R.length ∧ Kept [g, g'] w w' := by
  have hgl := h.p.lt
  have hgl' := h.r.lt
  have kb : Kept [] w ((w.alloc (.cells #[.pointer (some ⟨g, 0, none⟩), .pointer (some ⟨g', 0, none⟩)] 29)).alloc (.cells #[.bool sec, .int .i64 3, .int .i64 n] 32)) := ((Kept.refl [] w).alloc _).alloc _
  have h2 := h.kept kb
  have c1 := cell_box1 w #[.pointer (some ⟨g, 0, none⟩), .pointer (some ⟨g', 0, none⟩)] 29 (.cells #[.bool sec, .int .i64 3, .int .i64 n] 32) 1 _ rfl
  have c2 := cell_box2 w (.cells #[.pointer (some ⟨g, 0, none⟩), .pointer (some ⟨g', 0, none⟩)] 29) #[.bool sec, .int .i64 3, .int .i64 n] 32 2 _ rfl
  have HNE : Hid (g ≠ g') := hne
  have C1 : Hid (_ = _) := c1
  have C2 : Hid (_ = _) := c2
  clear hne c1 c2
  go_enter Try.func7, Try.ntmps7
  go_wp2
  go_quiet ((first | (go_at_call 8; exact Calls.quiet_of_same (left_any g R _ (h2.p.keptNB ((Kept.refl [] _).drewN _) (by simp)))) | (go_at_call 9; exact Calls.quiet_of (refLeft_any g' R _ (h2.r.keptNB ((Kept.refl [] _).drewN _) (by simp))))))
  go_wp2
  all_goals go_ret
  all_goals exact ⟨rfl, R, h2.kept ((Kept.refl [] _).drewN nq), Nat.le_refl _, (kb.drewN nq).mono (by simp)⟩
set_option maxHeartbeats 1600000 in
theorem step4_any (g g' : Nat) (R : List UInt8) (sec : Bool) (n : Int) (w : World) (h : Two w g g' R) (hne : g ≠ g') (hl : R.length ≤ 140737488355328) :
    Calls Try.prog 7 #[.agg #[.pointer (some ⟨g, 0, none⟩), .pointer (some ⟨g', 0, none⟩)], .agg #[.bool sec, .int .i64 4, .int .i64 n]] w fun e w' => e = .returned (.bool true) ∧ ∃ R', Two w' g g' R' ∧ R'.length ≤ R.length ∧ Kept [g, g'] w w' := by
  have hgl := h.p.lt
  have hgl' := h.r.lt
  have kb : Kept [] w ((w.alloc (.cells #[.pointer (some ⟨g, 0, none⟩), .pointer (some ⟨g', 0, none⟩)] 29)).alloc (.cells #[.bool sec, .int .i64 4, .int .i64 n] 32)) := ((Kept.refl [] w).alloc _).alloc _
  have h2 := h.kept kb
  have c1 := cell_box1 w #[.pointer (some ⟨g, 0, none⟩), .pointer (some ⟨g', 0, none⟩)] 29 (.cells #[.bool sec, .int .i64 4, .int .i64 n] 32) 1 _ rfl
  have c2 := cell_box2 w (.cells #[.pointer (some ⟨g, 0, none⟩), .pointer (some ⟨g', 0, none⟩)] 29) #[.bool sec, .int .i64 4, .int .i64 n] 32 2 _ rfl
  have HNE : Hid (g ≠ g') := hne
  have C1 : Hid (_ = _) := c1
  have C2 : Hid (_ = _) := c2
  clear hne c1 c2
  go_enter Try.func7, Try.ntmps7
  go_wp2
  go_quiet ((first | (go_at_call 21; exact Calls.quiet_of_same (end_tot g R _ (h2.p.keptNB ((Kept.refl [] _).drewN _) (by simp)))) | (go_at_call 22; exact Calls.quiet_of (refEnd_tot g' R _ (h2.r.keptNB ((Kept.refl [] _).drewN _) (by simp))))))
  go_wp2
  all_goals go_ret
  all_goals exact ⟨rfl, R, h2.kept ((Kept.refl [] _).drewN nq), Nat.le_refl _, (kb.drewN nq).mono (by simp)⟩
set_option maxHeartbeats 1600000 in
theorem stepX_any (g g' : Nat) (R : List UInt8) (sec : Bool) (k n : Int) (w : World) (h : Two w g g' R) (h0 : k ≠ 0) (h1 : k ≠ 1) (h2 : k ≠ 2) (h3 : k ≠ 3) (h4 : k ≠ 4) :
    Calls Try.prog 7 #[.agg #[.pointer (some ⟨g, 0, none⟩), .pointer (some ⟨g', 0, none⟩)], .agg #[.bool sec, .int .i64 k, .int .i64 n]] w fun e w' => e = .returned (.bool true) ∧ ∃ R', Two w' g g' R' ∧ R'.length ≤ R.length ∧ Kept [g, g'] w w' := by
  have kb : Kept [] w ((w.alloc (.cells #[.pointer (some ⟨g, 0, none⟩), .pointer (some ⟨g', 0, none⟩)] 29)).alloc (.cells #[.bool sec, .int .i64 k, .int .i64 n] 32)) := ((Kept.refl [] w).alloc _).alloc _
  have e0 : (k == 0) = false := by simpa using h0
  have e1 : (k == 1) = false := by simpa using h1
  have e2 : (k == 2) = false := by simpa using h2
  have e3 : (k == 3) = false := by simpa using h3
  have e4 : (k == 4) = false := by simpa using h4
  clear h0 h1 h2 h3 h4
  go_enter Try.func7, Try.ntmps7
  go_wp2
  go_ret
  exact ⟨rfl, R, h.kept kb, Nat.le_refl _, kb.mono (by simp)⟩
theorem step_any (g g' : Nat) (R : List UInt8) (sec : Bool) (k n : Int) (w : World) (h : Two w g g' R) (hne : g ≠ g') (hl : R.length ≤ 140737488355328) :
    Calls Try.prog 7 #[.agg #[.pointer (some ⟨g, 0, none⟩), .pointer (some ⟨g', 0, none⟩)], .agg #[.bool sec, .int .i64 k, .int .i64 n]] w fun e w' => e = .returned (.bool true) ∧ ∃ R', Two w' g g' R' ∧ R'.length ≤ R.length ∧ Kept [g, g'] w w' := by
  by_cases h0 : k = 0
  · subst h0; exact step0_any g g' R sec n w h hne hl
  by_cases h1 : k = 1
  · subst h1; exact step1_any g g' R sec n w h hne hl
  by_cases h2 : k = 2
  · subst h2; exact step2_any g g' R sec n w h hne hl
  by_cases h3 : k = 3
  · subst h3; exact step3_any g g' R sec n w h hne hl
  by_cases h4 : k = 4
  · subst h4; exact step4_any g g' R sec n w h hne hl
  exact stepX_any g g' R sec k n w h h0 h1 h2 h3 h4
end Go.Proofs.Ytppdidimhchlgab
