import Derived.Test.YtebcmcmboomgfaaRows
import Derived.Lib.BitFns
import Derived.Lib.Walk
import Derived.Lib.Small
import Derived.Test.YtebcmcmboomgfaaC2
/-
  OWN WORK (by mkrec4.py). The document's records (tidemarkref09): Right, of one kind.
-/
namespace Go.Proofs.Ytebcmcmboomgfaa
open Go.RowKit
set_option linter.unusedVariables false
set_option linter.unusedSimpArgs false

set_option maxRecDepth 20000 in
set_option maxHeartbeats 12800000 in
theorem rRight_7 (V : RV) (birth prev id page frm : Int) (before after : List UInt8) (next : Int) (rows : List RowR) (dirty : List RecR) (w : World) (h : SeeR w V (⟨7, birth, prev, id, page, frm, before, after, next, rows, dirty⟩ : Rcd)) : Calls Try.prog 39 #[(⟨7, birth, prev, id, page, frm, before, after, next, rows, dirty⟩ : Rcd).agg V] w fun e w' => e = .returned (.bool (bl (⟨7, birth, prev, id, page, frm, before, after, next, rows, dirty⟩ : Rcd).Right)) ∧ Kept [] w w' := by
  haveI HNE : ∀ w2, Nonempty (Calm w2) := calmNe
  obtain ⟨pb, cb, pa, ca, pr, cr, pd, cd, rfl⟩ := h.shapes
  have RI : (⟨7, birth, prev, id, page, frm, before, after, next, rows, dirty⟩ : Rcd).Right ↔ (birth = 0 ∧ prev = 0) ∧ id = 0 ∧ listsOk (⟨7, birth, prev, id, page, frm, before, after, next, rows, dirty⟩ : Rcd) ∧ next = 0 ∧ (page = 0 ∧ frm = 0 ∧ after = []) ∧ before = [] := by unfold Rcd.Right; simp
  obtain ⟨PL, hPL⟩ : ∃ PL : Prop, PL = listsOk (⟨7, birth, prev, id, page, frm, before, after, next, rows, dirty⟩ : Rcd) := ⟨_, rfl⟩
  obtain ⟨PR, hPR⟩ : ∃ PR : Prop, PR = rangedOk (⟨7, birth, prev, id, page, frm, before, after, next, rows, dirty⟩ : Rcd) := ⟨_, rfl⟩
  obtain ⟨PP, hPP⟩ : ∃ PP : Prop, PP = partsOk (⟨7, birth, prev, id, page, frm, before, after, next, rows, dirty⟩ : Rcd) := ⟨_, rfl⟩
  have hb := fun w => rIsLsn birth w
  have hp := fun w => rIsLsn prev w
  have hn := fun w => rIsNext next w
  have hu := fun (wz : World) (kz : Kept [] w wz) => rUnranged _ (⟨7, birth, prev, id, page, frm, before, after, next, rows, dirty⟩ : Rcd) wz (h.kept kz)
  have hr := fun (wz : World) (kz : Kept [] w wz) => rRanged _ (⟨7, birth, prev, id, page, frm, before, after, next, rows, dirty⟩ : Rcd) wz (h.kept kz)
  have hl := fun (wz : World) (kz : Kept [] w wz) => rLists _ (⟨7, birth, prev, id, page, frm, before, after, next, rows, dirty⟩ : Rcd) wz (h.kept kz)
  rw [← hPL] at RI
  simp only [← hPL] at hl
  have HPL := @hideH _ hPL
  have HPR := @hideH _ hPR
  have HPP := @hideH _ hPP
  have HRI := @hideH _ RI
  clear hPL hPR hPP RI
  have hBS := @hideH _ h.before
  have hAS := @hideH _ h.after
  have hmx := @hideH _ (show after.length ≤ maxLen from (by obtain ⟨_, _, e, h1, h2, _⟩ := h.after; cases e; exact Nat.le_trans h1 h2))
  clear h
  unfold Rcd.agg at hu hr hl ⊢
  dsimp only at hu hr hl hBS hAS ⊢
  obtain ⟨Q, hQ⟩ : ∃ Q, Q = bl (⟨7, birth, prev, id, page, frm, before, after, next, rows, dirty⟩ : Rcd).Right := ⟨_, rfl⟩
  rw [← hQ]
  have HQ := @hideH _ hQ
  clear hQ
  obtain ⟨nb, hnb⟩ : ∃ nb, nb = before.length := ⟨_, rfl⟩
  obtain ⟨na, hna⟩ : ∃ na, na = after.length := ⟨_, rfl⟩
  obtain ⟨nr, hnr⟩ : ∃ nr, nr = rows.length := ⟨_, rfl⟩
  obtain ⟨nd, hnd⟩ : ∃ nd, nd = dirty.length := ⟨_, rfl⟩
  simp only [← hnb, ← hna, ← hnr, ← hnd] at hu hr hl ⊢
  have HNB := @hideH _ hnb
  have HNA := @hideH _ hna
  have HNR := @hideH _ hnr
  have HND := @hideH _ hnd
  clear hnb hna hnr hnd
  clear hb
  clear hp
  clear hn
  clear hr
  by_cases h0 : birth = 0
  · subst h0
    by_cases h1 : prev = 0
    · subst h1
      by_cases h2 : id = 0
      · subst h2
        by_cases h3 : PL
        · simp only [bl_t h3] at hl
          have k3 := @hideH _ h3
          clear h3
          by_cases h4 : next = 0
          · subst h4
            by_cases h5 : (page = 0 ∧ frm = 0 ∧ after = [])
            · simp only [bl_t h5] at hu
              have k5 := @hideH _ h5
              clear h5
              by_cases h6 : nb = 0
              · subst h6
                have eQ := @hideH _ (show Q = true by rw [HQ.out]; exact bl_t (HRI.out.2 ⟨⟨rfl, rfl⟩, rfl, k3.out, rfl, k5.out, (List.eq_nil_of_length_eq_zero HNB.out.symm)⟩))
                obtain ⟨w1, hw1⟩ : ∃ w1, w1 = w.alloc (.cells #[.int .i64 7, .int .i64 0, .int .i64 0, .int .i64 0, .int .i64 page, .int .i64 frm, .slice pb 0 cb, .slice pa na ca, .int .i64 0, .slice pr nr cr, .slice pd nd cd] 26) := ⟨_, rfl⟩
                have K1 : Kept [] w w1 := by rw [hw1]; exact (Kept.refl [] w).alloc _
                have bR : Blk w1 w.heap.size 26 [.int .i64 7, .int .i64 0, .int .i64 0, .int .i64 0, .int .i64 page, .int .i64 frm, .slice pb 0 cb, .slice pa na ca, .int .i64 0, .slice pr nr cr, .slice pd nd cd] := by rw [hw1]; exact Blk.new w _ _
                have c0 := bR.cell (j := 0) rfl
                have c1 := bR.cell (j := 1) rfl
                have c2 := bR.cell (j := 2) rfl
                have c3 := bR.cell (j := 3) rfl
                have c4 := bR.cell (j := 4) rfl
                have c5 := bR.cell (j := 5) rfl
                have c6 := bR.cell (j := 6) rfl
                have c7 := bR.cell (j := 7) rfl
                have c8 := bR.cell (j := 8) rfl
                have c9 := bR.cell (j := 9) rfl
                have c10 := bR.cell (j := 10) rfl
                clear bR
                go_enter Try.func39, Try.ntmps39
                go_upto_region 1 with fail
                rw [← hw1]
                clear hw1
                go_wp2_with fail
                refine (hl _ K1).mono ?_
                rintro e w2 ⟨rfl, kn⟩
                have K2 := K1.then kn
                replace c0 := kn.cell c0 (by simp)
                replace c1 := kn.cell c1 (by simp)
                replace c2 := kn.cell c2 (by simp)
                replace c3 := kn.cell c3 (by simp)
                replace c4 := kn.cell c4 (by simp)
                replace c5 := kn.cell c5 (by simp)
                replace c6 := kn.cell c6 (by simp)
                replace c7 := kn.cell c7 (by simp)
                replace c8 := kn.cell c8 (by simp)
                replace c9 := kn.cell c9 (by simp)
                replace c10 := kn.cell c10 (by simp)
                clear kn
                go_wp2_with fail
                refine (hu _ K2).mono ?_
                rintro e w3 ⟨rfl, kn⟩
                have K3 := K2.then kn
                replace c0 := kn.cell c0 (by simp)
                replace c1 := kn.cell c1 (by simp)
                replace c2 := kn.cell c2 (by simp)
                replace c3 := kn.cell c3 (by simp)
                replace c4 := kn.cell c4 (by simp)
                replace c5 := kn.cell c5 (by simp)
                replace c6 := kn.cell c6 (by simp)
                replace c7 := kn.cell c7 (by simp)
                replace c8 := kn.cell c8 (by simp)
                replace c9 := kn.cell c9 (by simp)
                replace c10 := kn.cell c10 (by simp)
                clear kn
                have RK := @hideH _ K3
                go_wp2
                go_ret
                exact ⟨by rw [eQ.out]; rfl, RK.out⟩
              · have eQ := @hideH _ (show Q = false by rw [HQ.out]; exact bl_f (fun hR => by have q := HRI.out.1 hR; exact h6 (by rw [HNB.out, q.2.2.2.2.2]; rfl)))
                have g_nb : 0 < nb := by omega
                have e_nb : ((nb : Int) == 0) = false := by simp [h6]
                obtain ⟨w1, hw1⟩ : ∃ w1, w1 = w.alloc (.cells #[.int .i64 7, .int .i64 0, .int .i64 0, .int .i64 0, .int .i64 page, .int .i64 frm, .slice pb nb cb, .slice pa na ca, .int .i64 0, .slice pr nr cr, .slice pd nd cd] 26) := ⟨_, rfl⟩
                have K1 : Kept [] w w1 := by rw [hw1]; exact (Kept.refl [] w).alloc _
                have bR : Blk w1 w.heap.size 26 [.int .i64 7, .int .i64 0, .int .i64 0, .int .i64 0, .int .i64 page, .int .i64 frm, .slice pb nb cb, .slice pa na ca, .int .i64 0, .slice pr nr cr, .slice pd nd cd] := by rw [hw1]; exact Blk.new w _ _
                have c0 := bR.cell (j := 0) rfl
                have c1 := bR.cell (j := 1) rfl
                have c2 := bR.cell (j := 2) rfl
                have c3 := bR.cell (j := 3) rfl
                have c4 := bR.cell (j := 4) rfl
                have c5 := bR.cell (j := 5) rfl
                have c6 := bR.cell (j := 6) rfl
                have c7 := bR.cell (j := 7) rfl
                have c8 := bR.cell (j := 8) rfl
                have c9 := bR.cell (j := 9) rfl
                have c10 := bR.cell (j := 10) rfl
                clear bR
                go_enter Try.func39, Try.ntmps39
                go_upto_region 1 with fail
                rw [← hw1]
                clear hw1
                go_wp2_with fail
                refine (hl _ K1).mono ?_
                rintro e w2 ⟨rfl, kn⟩
                have K2 := K1.then kn
                replace c0 := kn.cell c0 (by simp)
                replace c1 := kn.cell c1 (by simp)
                replace c2 := kn.cell c2 (by simp)
                replace c3 := kn.cell c3 (by simp)
                replace c4 := kn.cell c4 (by simp)
                replace c5 := kn.cell c5 (by simp)
                replace c6 := kn.cell c6 (by simp)
                replace c7 := kn.cell c7 (by simp)
                replace c8 := kn.cell c8 (by simp)
                replace c9 := kn.cell c9 (by simp)
                replace c10 := kn.cell c10 (by simp)
                clear kn
                go_wp2_with fail
                refine (hu _ K2).mono ?_
                rintro e w3 ⟨rfl, kn⟩
                have K3 := K2.then kn
                replace c0 := kn.cell c0 (by simp)
                replace c1 := kn.cell c1 (by simp)
                replace c2 := kn.cell c2 (by simp)
                replace c3 := kn.cell c3 (by simp)
                replace c4 := kn.cell c4 (by simp)
                replace c5 := kn.cell c5 (by simp)
                replace c6 := kn.cell c6 (by simp)
                replace c7 := kn.cell c7 (by simp)
                replace c8 := kn.cell c8 (by simp)
                replace c9 := kn.cell c9 (by simp)
                replace c10 := kn.cell c10 (by simp)
                clear kn
                have RK := @hideH _ K3
                go_wp2
                go_ret
                exact ⟨by rw [eQ.out]; rfl, RK.out⟩
            · have eQ := @hideH _ (show Q = false by rw [HQ.out]; exact bl_f (fun hR => by have q := HRI.out.1 hR; exact h5 (q.2.2.2.2.1)))
              simp only [bl_f h5] at hu
              clear h5
              obtain ⟨w1, hw1⟩ : ∃ w1, w1 = w.alloc (.cells #[.int .i64 7, .int .i64 0, .int .i64 0, .int .i64 0, .int .i64 page, .int .i64 frm, .slice pb nb cb, .slice pa na ca, .int .i64 0, .slice pr nr cr, .slice pd nd cd] 26) := ⟨_, rfl⟩
              have K1 : Kept [] w w1 := by rw [hw1]; exact (Kept.refl [] w).alloc _
              have bR : Blk w1 w.heap.size 26 [.int .i64 7, .int .i64 0, .int .i64 0, .int .i64 0, .int .i64 page, .int .i64 frm, .slice pb nb cb, .slice pa na ca, .int .i64 0, .slice pr nr cr, .slice pd nd cd] := by rw [hw1]; exact Blk.new w _ _
              have c0 := bR.cell (j := 0) rfl
              have c1 := bR.cell (j := 1) rfl
              have c2 := bR.cell (j := 2) rfl
              have c3 := bR.cell (j := 3) rfl
              have c4 := bR.cell (j := 4) rfl
              have c5 := bR.cell (j := 5) rfl
              have c6 := bR.cell (j := 6) rfl
              have c7 := bR.cell (j := 7) rfl
              have c8 := bR.cell (j := 8) rfl
              have c9 := bR.cell (j := 9) rfl
              have c10 := bR.cell (j := 10) rfl
              clear bR
              go_enter Try.func39, Try.ntmps39
              go_upto_region 1 with fail
              rw [← hw1]
              clear hw1
              go_wp2_with fail
              refine (hl _ K1).mono ?_
              rintro e w2 ⟨rfl, kn⟩
              have K2 := K1.then kn
              replace c0 := kn.cell c0 (by simp)
              replace c1 := kn.cell c1 (by simp)
              replace c2 := kn.cell c2 (by simp)
              replace c3 := kn.cell c3 (by simp)
              replace c4 := kn.cell c4 (by simp)
              replace c5 := kn.cell c5 (by simp)
              replace c6 := kn.cell c6 (by simp)
              replace c7 := kn.cell c7 (by simp)
              replace c8 := kn.cell c8 (by simp)
              replace c9 := kn.cell c9 (by simp)
              replace c10 := kn.cell c10 (by simp)
              clear kn
              go_wp2_with fail
              refine (hu _ K2).mono ?_
              rintro e w3 ⟨rfl, kn⟩
              have K3 := K2.then kn
              replace c0 := kn.cell c0 (by simp)
              replace c1 := kn.cell c1 (by simp)
              replace c2 := kn.cell c2 (by simp)
              replace c3 := kn.cell c3 (by simp)
              replace c4 := kn.cell c4 (by simp)
              replace c5 := kn.cell c5 (by simp)
              replace c6 := kn.cell c6 (by simp)
              replace c7 := kn.cell c7 (by simp)
              replace c8 := kn.cell c8 (by simp)
              replace c9 := kn.cell c9 (by simp)
              replace c10 := kn.cell c10 (by simp)
              clear kn
              have RK := @hideH _ K3
              go_wp2
              go_ret
              exact ⟨by rw [eQ.out]; rfl, RK.out⟩
          · have eQ := @hideH _ (show Q = false by rw [HQ.out]; exact bl_f (fun hR => by have q := HRI.out.1 hR; exact h4 (q.2.2.2.1)))
            have e_next : (next != 0) = true := by simp [h4]
            have g_next : (next == 0) = false := by simp [h4]
            obtain ⟨w1, hw1⟩ : ∃ w1, w1 = w.alloc (.cells #[.int .i64 7, .int .i64 0, .int .i64 0, .int .i64 0, .int .i64 page, .int .i64 frm, .slice pb nb cb, .slice pa na ca, .int .i64 next, .slice pr nr cr, .slice pd nd cd] 26) := ⟨_, rfl⟩
            have K1 : Kept [] w w1 := by rw [hw1]; exact (Kept.refl [] w).alloc _
            have bR : Blk w1 w.heap.size 26 [.int .i64 7, .int .i64 0, .int .i64 0, .int .i64 0, .int .i64 page, .int .i64 frm, .slice pb nb cb, .slice pa na ca, .int .i64 next, .slice pr nr cr, .slice pd nd cd] := by rw [hw1]; exact Blk.new w _ _
            have c0 := bR.cell (j := 0) rfl
            have c1 := bR.cell (j := 1) rfl
            have c2 := bR.cell (j := 2) rfl
            have c3 := bR.cell (j := 3) rfl
            have c4 := bR.cell (j := 4) rfl
            have c5 := bR.cell (j := 5) rfl
            have c6 := bR.cell (j := 6) rfl
            have c7 := bR.cell (j := 7) rfl
            have c8 := bR.cell (j := 8) rfl
            have c9 := bR.cell (j := 9) rfl
            have c10 := bR.cell (j := 10) rfl
            clear bR
            go_enter Try.func39, Try.ntmps39
            go_upto_region 1 with fail
            rw [← hw1]
            clear hw1
            go_wp2_with fail
            refine (hl _ K1).mono ?_
            rintro e w2 ⟨rfl, kn⟩
            have K2 := K1.then kn
            replace c0 := kn.cell c0 (by simp)
            replace c1 := kn.cell c1 (by simp)
            replace c2 := kn.cell c2 (by simp)
            replace c3 := kn.cell c3 (by simp)
            replace c4 := kn.cell c4 (by simp)
            replace c5 := kn.cell c5 (by simp)
            replace c6 := kn.cell c6 (by simp)
            replace c7 := kn.cell c7 (by simp)
            replace c8 := kn.cell c8 (by simp)
            replace c9 := kn.cell c9 (by simp)
            replace c10 := kn.cell c10 (by simp)
            clear kn
            have RK := @hideH _ K2
            go_wp2
            go_ret
            exact ⟨by rw [eQ.out]; rfl, RK.out⟩
        · have eQ := @hideH _ (show Q = false by rw [HQ.out]; exact bl_f (fun hR => by have q := HRI.out.1 hR; exact h3 (q.2.2.1)))
          simp only [bl_f h3] at hl
          clear h3
          obtain ⟨w1, hw1⟩ : ∃ w1, w1 = w.alloc (.cells #[.int .i64 7, .int .i64 0, .int .i64 0, .int .i64 0, .int .i64 page, .int .i64 frm, .slice pb nb cb, .slice pa na ca, .int .i64 next, .slice pr nr cr, .slice pd nd cd] 26) := ⟨_, rfl⟩
          have K1 : Kept [] w w1 := by rw [hw1]; exact (Kept.refl [] w).alloc _
          have bR : Blk w1 w.heap.size 26 [.int .i64 7, .int .i64 0, .int .i64 0, .int .i64 0, .int .i64 page, .int .i64 frm, .slice pb nb cb, .slice pa na ca, .int .i64 next, .slice pr nr cr, .slice pd nd cd] := by rw [hw1]; exact Blk.new w _ _
          have c0 := bR.cell (j := 0) rfl
          have c1 := bR.cell (j := 1) rfl
          have c2 := bR.cell (j := 2) rfl
          have c3 := bR.cell (j := 3) rfl
          have c4 := bR.cell (j := 4) rfl
          have c5 := bR.cell (j := 5) rfl
          have c6 := bR.cell (j := 6) rfl
          have c7 := bR.cell (j := 7) rfl
          have c8 := bR.cell (j := 8) rfl
          have c9 := bR.cell (j := 9) rfl
          have c10 := bR.cell (j := 10) rfl
          clear bR
          go_enter Try.func39, Try.ntmps39
          go_upto_region 1 with fail
          rw [← hw1]
          clear hw1
          go_wp2_with fail
          refine (hl _ K1).mono ?_
          rintro e w2 ⟨rfl, kn⟩
          have K2 := K1.then kn
          replace c0 := kn.cell c0 (by simp)
          replace c1 := kn.cell c1 (by simp)
          replace c2 := kn.cell c2 (by simp)
          replace c3 := kn.cell c3 (by simp)
          replace c4 := kn.cell c4 (by simp)
          replace c5 := kn.cell c5 (by simp)
          replace c6 := kn.cell c6 (by simp)
          replace c7 := kn.cell c7 (by simp)
          replace c8 := kn.cell c8 (by simp)
          replace c9 := kn.cell c9 (by simp)
          replace c10 := kn.cell c10 (by simp)
          clear kn
          have RK := @hideH _ K2
          go_wp2
          go_ret
          exact ⟨by rw [eQ.out]; rfl, RK.out⟩
      · have eQ := @hideH _ (show Q = false by rw [HQ.out]; exact bl_f (fun hR => by have q := HRI.out.1 hR; exact h2 (q.2.1)))
        have e_id : (id != 0) = true := by simp [h2]
        have g_id : (id == 0) = false := by simp [h2]
        obtain ⟨w1, hw1⟩ : ∃ w1, w1 = w.alloc (.cells #[.int .i64 7, .int .i64 0, .int .i64 0, .int .i64 id, .int .i64 page, .int .i64 frm, .slice pb nb cb, .slice pa na ca, .int .i64 next, .slice pr nr cr, .slice pd nd cd] 26) := ⟨_, rfl⟩
        have K1 : Kept [] w w1 := by rw [hw1]; exact (Kept.refl [] w).alloc _
        have bR : Blk w1 w.heap.size 26 [.int .i64 7, .int .i64 0, .int .i64 0, .int .i64 id, .int .i64 page, .int .i64 frm, .slice pb nb cb, .slice pa na ca, .int .i64 next, .slice pr nr cr, .slice pd nd cd] := by rw [hw1]; exact Blk.new w _ _
        have c0 := bR.cell (j := 0) rfl
        have c1 := bR.cell (j := 1) rfl
        have c2 := bR.cell (j := 2) rfl
        have c3 := bR.cell (j := 3) rfl
        have c4 := bR.cell (j := 4) rfl
        have c5 := bR.cell (j := 5) rfl
        have c6 := bR.cell (j := 6) rfl
        have c7 := bR.cell (j := 7) rfl
        have c8 := bR.cell (j := 8) rfl
        have c9 := bR.cell (j := 9) rfl
        have c10 := bR.cell (j := 10) rfl
        clear bR
        go_enter Try.func39, Try.ntmps39
        go_upto_region 1 with fail
        rw [← hw1]
        clear hw1
        have RK := @hideH _ K1
        go_wp2
        go_ret
        exact ⟨by rw [eQ.out]; rfl, RK.out⟩
    · have eQ := @hideH _ (show Q = false by rw [HQ.out]; exact bl_f (fun hR => by have q := HRI.out.1 hR; exact h1 (q.1.2)))
      have e_prev : (prev != 0) = true := by simp [h1]
      have g_prev : (prev == 0) = false := by simp [h1]
      obtain ⟨w1, hw1⟩ : ∃ w1, w1 = w.alloc (.cells #[.int .i64 7, .int .i64 0, .int .i64 prev, .int .i64 id, .int .i64 page, .int .i64 frm, .slice pb nb cb, .slice pa na ca, .int .i64 next, .slice pr nr cr, .slice pd nd cd] 26) := ⟨_, rfl⟩
      have K1 : Kept [] w w1 := by rw [hw1]; exact (Kept.refl [] w).alloc _
      have bR : Blk w1 w.heap.size 26 [.int .i64 7, .int .i64 0, .int .i64 prev, .int .i64 id, .int .i64 page, .int .i64 frm, .slice pb nb cb, .slice pa na ca, .int .i64 next, .slice pr nr cr, .slice pd nd cd] := by rw [hw1]; exact Blk.new w _ _
      have c0 := bR.cell (j := 0) rfl
      have c1 := bR.cell (j := 1) rfl
      have c2 := bR.cell (j := 2) rfl
      have c3 := bR.cell (j := 3) rfl
      have c4 := bR.cell (j := 4) rfl
      have c5 := bR.cell (j := 5) rfl
      have c6 := bR.cell (j := 6) rfl
      have c7 := bR.cell (j := 7) rfl
      have c8 := bR.cell (j := 8) rfl
      have c9 := bR.cell (j := 9) rfl
      have c10 := bR.cell (j := 10) rfl
      clear bR
      go_enter Try.func39, Try.ntmps39
      go_upto_region 1 with fail
      rw [← hw1]
      clear hw1
      have RK := @hideH _ K1
      go_wp2
      go_ret
      exact ⟨by rw [eQ.out]; rfl, RK.out⟩
  · have eQ := @hideH _ (show Q = false by rw [HQ.out]; exact bl_f (fun hR => by have q := HRI.out.1 hR; exact h0 (q.1.1)))
    have e_birth : (birth != 0) = true := by simp [h0]
    have g_birth : (birth == 0) = false := by simp [h0]
    obtain ⟨w1, hw1⟩ : ∃ w1, w1 = w.alloc (.cells #[.int .i64 7, .int .i64 birth, .int .i64 prev, .int .i64 id, .int .i64 page, .int .i64 frm, .slice pb nb cb, .slice pa na ca, .int .i64 next, .slice pr nr cr, .slice pd nd cd] 26) := ⟨_, rfl⟩
    have K1 : Kept [] w w1 := by rw [hw1]; exact (Kept.refl [] w).alloc _
    have bR : Blk w1 w.heap.size 26 [.int .i64 7, .int .i64 birth, .int .i64 prev, .int .i64 id, .int .i64 page, .int .i64 frm, .slice pb nb cb, .slice pa na ca, .int .i64 next, .slice pr nr cr, .slice pd nd cd] := by rw [hw1]; exact Blk.new w _ _
    have c0 := bR.cell (j := 0) rfl
    have c1 := bR.cell (j := 1) rfl
    have c2 := bR.cell (j := 2) rfl
    have c3 := bR.cell (j := 3) rfl
    have c4 := bR.cell (j := 4) rfl
    have c5 := bR.cell (j := 5) rfl
    have c6 := bR.cell (j := 6) rfl
    have c7 := bR.cell (j := 7) rfl
    have c8 := bR.cell (j := 8) rfl
    have c9 := bR.cell (j := 9) rfl
    have c10 := bR.cell (j := 10) rfl
    clear bR
    go_enter Try.func39, Try.ntmps39
    go_upto_region 1 with fail
    rw [← hw1]
    clear hw1
    have RK := @hideH _ K1
    go_wp2
    go_ret
    exact ⟨by rw [eQ.out]; rfl, RK.out⟩
end Go.Proofs.Ytebcmcmboomgfaa

/-
  OWN WORK. The document's records (tidemarkref09): Right.
-/
namespace Go.Proofs.Ytebcmcmboomgfaa
open Go.RowKit
set_option linter.unusedVariables false
set_option linter.unusedSimpArgs false

set_option maxRecDepth 20000 in
set_option maxHeartbeats 1600000 in
theorem rRight_out (V : RV) (r : Rcd) (w : World) (h : SeeR w V r) (hk : ¬ (1 ≤ r.kind ∧ r.kind ≤ 7)) : Calls Try.prog 39 #[r.agg V] w fun e w' => e = .returned (.bool (bl r.Right)) ∧ Kept [] w w' := by
  have eQ := @hideH _ (show bl r.Right = false from bl_f (fun q => hk q.1))
  obtain ⟨Q, hQ⟩ : ∃ Q, Q = bl r.Right := ⟨_, rfl⟩
  rw [← hQ] at eQ ⊢
  clear hQ
  obtain ⟨pb, cb, pa, ca, pr, cr, pd, cd, rfl⟩ := h.shapes
  obtain ⟨kind, birth, prev, id, page, frm, before, after, next, rows, dirty⟩ := r
  clear h
  unfold Rcd.agg
  dsimp only at hk ⊢
  by_cases h1 : kind < 1
  · clear hk
    go_enter Try.func39, Try.ntmps39
    go_wp2
    go_ret
    exact ⟨by rw [eQ.out]; rfl, (Kept.refl [] w).alloc _⟩
  · have h7 : 7 < kind := by omega
    clear hk
    go_enter Try.func39, Try.ntmps39
    go_wp2
    go_ret
    exact ⟨by rw [eQ.out]; rfl, (Kept.refl [] w).alloc _⟩
theorem rRight (V : RV) (r : Rcd) (w : World) (h : SeeR w V r) : Calls Try.prog 39 #[r.agg V] w fun e w' => e = .returned (.bool (bl r.Right)) ∧ Kept [] w w' := by
  by_cases hk : 1 ≤ r.kind ∧ r.kind ≤ 7
  · obtain ⟨kind, birth, prev, id, page, frm, before, after, next, rows, dirty⟩ := r
    dsimp only at hk
    have hc : kind = 1 ∨ kind = 2 ∨ kind = 3 ∨ kind = 4 ∨ kind = 5 ∨ kind = 6 ∨ kind = 7 := by omega
    rcases hc with rfl | rfl | rfl | rfl | rfl | rfl | rfl
    · exact rRight_1 V _ _ _ _ _ _ _ _ _ _ w h
    · exact rRight_2 V _ _ _ _ _ _ _ _ _ _ w h
    · exact rRight_3 V _ _ _ _ _ _ _ _ _ _ w h
    · exact rRight_4 V _ _ _ _ _ _ _ _ _ _ w h
    · exact rRight_5 V _ _ _ _ _ _ _ _ _ _ w h
    · exact rRight_6 V _ _ _ _ _ _ _ _ _ _ w h
    · exact rRight_7 V _ _ _ _ _ _ _ _ _ _ w h
  · exact rRight_out V r w h hk
end Go.Proofs.Ytebcmcmboomgfaa

/-
  OWN WORK. The document's records (tidemarkref09): put and append, one behind the other.
-/
namespace Go.Proofs.Ytebcmcmboomgfaa
open Go.RowKit
set_option linter.unusedVariables false

theorem own_baseK {w : World} {b b' e n : Nat} {v : Value} {xs : List Value} (h : w.ownsRow b e 1 v n xs) (hb : b' ≤ b) : w.ownsRow b' e 1 v n xs := by
  rcases h with ⟨h1, h2 | ⟨g, cap, cur, h2, h3, h4⟩⟩
  · exact ⟨h1, .inl h2⟩
  · exact ⟨h1, .inr ⟨g, cap, cur, h2, Nat.le_trans hb h3, h4⟩⟩
/-- u: a row of bytes of one's own, made since w0 -/
def Acc (w0 w : World) (u : Value) (b : List UInt8) : Prop := w.ownsRow w0.heap.size 5 1 u b.length (u8s b) ∧ Kept [] w0 w
theorem Acc.nil {w0 w : World} (k : Kept [] w0 w) : Acc w0 w (.slice none 0 0) [] := ⟨by simpa [u8s] using World.ownsRow_nil w w0.heap.size 5 1, k⟩
theorem Acc.then {w0 w w' : World} {u : Value} {b : List UInt8} (h : Acc w0 w u b) (k : Kept [] w w') : Acc w0 w' u b := ⟨own_of_kept h.1 k (by simp), h.2.then k⟩
theorem Acc.put {w0 w : World} {u : Value} {b : List UInt8} (h : Acc w0 w u b) (z : Int) (n : Nat) (hz : 0 ≤ z) (hz2 : z ≤ 1152921504606846976) (hn : n ≤ 8) (hcap : b.length ≤ 100000) :
    Calls Try.prog 40 #[u, .int .i64 z, .int .i64 (n : Int)] w fun e w' => ∃ u' acc, e = .returned u' ∧ Hid (acc = b ++ putN n z.toNat ∧ acc.length = b.length + n) ∧ Acc w0 w' u' acc := by
  have hp := rPut u b z.toNat n w0.heap.size w h.1 (by unfold topLsn; omega) hn (by omega) h.2.size
  rw [Int.toNat_of_nonneg hz] at hp
  refine hp.mono ?_
  rintro e w' ⟨u', rfl, o, k, -⟩
  refine ⟨u', b ++ putN n z.toNat, rfl, ⟨rfl, by rw [List.length_append, putN_length]⟩, ?_, h.2.trans k (fun x hx => .inr (own_ge h.1 x (by simpa using hx)))⟩
  rw [List.length_append, putN_length]
  exact o
end Go.Proofs.Ytebcmcmboomgfaa

/-
  OWN WORK (by mkrec5.py). The document's records (tidemarkref09): Bytes, of a right record of one kind.
-/
namespace Go.Proofs.Ytebcmcmboomgfaa
open Go.RowKit
set_option linter.unusedVariables false
set_option linter.unusedSimpArgs false

set_option maxRecDepth 20000 in
set_option maxHeartbeats 12800000 in
theorem rBytes_1 (V : RV) (birth prev id page frm : Int) (before after : List UInt8) (next : Int) (rows : List RowR) (dirty : List RecR) (w : World) (h : SeeR w V (⟨1, birth, prev, id, page, frm, before, after, next, rows, dirty⟩ : Rcd)) (hR : (⟨1, birth, prev, id, page, frm, before, after, next, rows, dirty⟩ : Rcd).Right) : Calls Try.prog 25 #[(⟨1, birth, prev, id, page, frm, before, after, next, rows, dirty⟩ : Rcd).agg V] w fun e w' => ∃ u acc, e = .returned (.tuple #[u, .int .i64 0]) ∧ acc = bytesR (⟨1, birth, prev, id, page, frm, before, after, next, rows, dirty⟩ : Rcd) ∧ Acc w w' u acc := by
  obtain ⟨pb, cb, pa, ca, pr, cr, pd, cd, rfl⟩ := h.shapes
  have hr := fun (wz : World) (kz : Kept [] w wz) => rRight _ (⟨1, birth, prev, id, page, frm, before, after, next, rows, dirty⟩ : Rcd) wz (h.kept kz)
  simp only [bl_t hR] at hr
  have HSE := @hideH _ h
  have HRR := @hideH _ hR
  obtain ⟨⟨-, -⟩, q2, q3, q4, q5, q6, q7⟩ := hR
  simp [lsnOk, nextOk, rangedOk, partsOk, listsOk] at q2 q3 q4 q5 q6 q7
  have HB1 := @hideH _ (show (0 ≤ birth ∧ birth ≤ 1152921504606846976) ∧ 0 ≤ prev ∧ prev ≤ 1152921504606846976 by omega)
  have HB2 := @hideH _ (show 0 ≤ id ∧ id ≤ 1152921504606846976 by omega)
  clear h q2 q3 q4 q5 q6 q7
  unfold Rcd.agg at hr ⊢
  dsimp only at hr ⊢
  obtain ⟨RB, hRB⟩ : ∃ RB, RB = bytesR (⟨1, birth, prev, id, page, frm, before, after, next, rows, dirty⟩ : Rcd) := ⟨_, rfl⟩
  rw [← hRB]
  have HRB := @hideH _ hRB
  clear hRB
  obtain ⟨nb, hnb⟩ : ∃ nb, nb = before.length := ⟨_, rfl⟩
  obtain ⟨na, hna⟩ : ∃ na, na = after.length := ⟨_, rfl⟩
  obtain ⟨nr, hnr⟩ : ∃ nr, nr = rows.length := ⟨_, rfl⟩
  obtain ⟨nd, hnd⟩ : ∃ nd, nd = dirty.length := ⟨_, rfl⟩
  simp only [← hnb, ← hna, ← hnr, ← hnd] at hr ⊢
  have HNB := @hideH _ hnb
  have HNA := @hideH _ hna
  have HNR := @hideH _ hnr
  have HND := @hideH _ hnd
  clear hnb hna hnr hnd
  obtain ⟨w1, hw1⟩ : ∃ w1, w1 = w.alloc (.cells #[.int .i64 1, .int .i64 birth, .int .i64 prev, .int .i64 id, .int .i64 page, .int .i64 frm, .slice pb nb cb, .slice pa na ca, .int .i64 next, .slice pr nr cr, .slice pd nd cd] 26) := ⟨_, rfl⟩
  have k1 : Kept [] w w1 := by rw [hw1]; exact (Kept.refl [] w).alloc _
  have bR : Blk w1 w.heap.size 26 [.int .i64 1, .int .i64 birth, .int .i64 prev, .int .i64 id, .int .i64 page, .int .i64 frm, .slice pb nb cb, .slice pa na ca, .int .i64 next, .slice pr nr cr, .slice pd nd cd] := by rw [hw1]; exact Blk.new w _ _
  have K1 := @hideH _ k1
  have HBR := @hideH _ bR
  have c0 := bR.cell (j := 0) rfl
  have c1 := bR.cell (j := 1) rfl
  have c2 := bR.cell (j := 2) rfl
  have c3 := bR.cell (j := 3) rfl
  have c4 := bR.cell (j := 4) rfl
  have c5 := bR.cell (j := 5) rfl
  have c6 := bR.cell (j := 6) rfl
  have c7 := bR.cell (j := 7) rfl
  have c8 := bR.cell (j := 8) rfl
  have c9 := bR.cell (j := 9) rfl
  have c10 := bR.cell (j := 10) rfl
  clear bR k1
  go_enter Try.func25, Try.ntmps25
  go_upto_region 1 with fail
  rw [← hw1]
  clear hw1
  go_wp2_with fail
  refine (hr _ K1.out).mono ?_
  clear hr
  rintro e w2 ⟨rfl, k2⟩
  have A2 := @hideH _ (Acc.nil k2)
  replace c0 := k2.cell c0 (by simp)
  replace c1 := k2.cell c1 (by simp)
  replace c2 := k2.cell c2 (by simp)
  replace c3 := k2.cell c3 (by simp)
  replace c4 := k2.cell c4 (by simp)
  replace c5 := k2.cell c5 (by simp)
  replace c6 := k2.cell c6 (by simp)
  replace c7 := k2.cell c7 (by simp)
  replace c8 := k2.cell c8 (by simp)
  replace c9 := k2.cell c9 (by simp)
  replace c10 := k2.cell c10 (by simp)
  clear k2
  have L2 := @hideH _ (show ([] : List UInt8).length ≤ 0 from Nat.le_refl _)
  have hq := A2.out.put 1 1 (by omega) (by omega) (by omega) (Nat.le_trans L2.out (by decide))
  go_wp2_with fail
  refine hq.mono ?_
  clear hq
  rintro e w3 ⟨u3, a3, rfl, E3, R3⟩
  obtain ⟨p3, d3, rfl⟩ := own_shape2 R3.1
  have A3 := @hideH _ R3
  have L3 := @hideH _ (show a3.length ≤ 1 by rw [E3.out.2]; exact Nat.add_le_add_right L2.out 1)
  have kz := R3.2
  have n0 := (HBR.out.kept kz (by simp)).cell (j := 0) rfl
  have n1 := (HBR.out.kept kz (by simp)).cell (j := 1) rfl
  have n2 := (HBR.out.kept kz (by simp)).cell (j := 2) rfl
  have n3 := (HBR.out.kept kz (by simp)).cell (j := 3) rfl
  have n4 := (HBR.out.kept kz (by simp)).cell (j := 4) rfl
  have n5 := (HBR.out.kept kz (by simp)).cell (j := 5) rfl
  have n6 := (HBR.out.kept kz (by simp)).cell (j := 6) rfl
  have n7 := (HBR.out.kept kz (by simp)).cell (j := 7) rfl
  have n8 := (HBR.out.kept kz (by simp)).cell (j := 8) rfl
  have n9 := (HBR.out.kept kz (by simp)).cell (j := 9) rfl
  have n10 := (HBR.out.kept kz (by simp)).cell (j := 10) rfl
  clear kz R3 A2 c0 c1 c2 c3 c4 c5 c6 c7 c8 c9 c10
  have c0 := n0
  have c1 := n1
  have c2 := n2
  have c3 := n3
  have c4 := n4
  have c5 := n5
  have c6 := n6
  have c7 := n7
  have c8 := n8
  have c9 := n9
  have c10 := n10
  clear n0 n1 n2 n3 n4 n5 n6 n7 n8 n9 n10
  have hq := A3.out.put birth 8 HB1.out.1.1 HB1.out.1.2 (by omega) (Nat.le_trans L3.out (by decide))
  go_wp2_with fail
  refine hq.mono ?_
  clear hq
  rintro e w4 ⟨u4, a4, rfl, E4, R4⟩
  obtain ⟨p4, d4, rfl⟩ := own_shape2 R4.1
  have A4 := @hideH _ R4
  have L4 := @hideH _ (show a4.length ≤ 9 by rw [E4.out.2]; exact Nat.add_le_add_right L3.out 8)
  have kz := R4.2
  have n0 := (HBR.out.kept kz (by simp)).cell (j := 0) rfl
  have n1 := (HBR.out.kept kz (by simp)).cell (j := 1) rfl
  have n2 := (HBR.out.kept kz (by simp)).cell (j := 2) rfl
  have n3 := (HBR.out.kept kz (by simp)).cell (j := 3) rfl
  have n4 := (HBR.out.kept kz (by simp)).cell (j := 4) rfl
  have n5 := (HBR.out.kept kz (by simp)).cell (j := 5) rfl
  have n6 := (HBR.out.kept kz (by simp)).cell (j := 6) rfl
  have n7 := (HBR.out.kept kz (by simp)).cell (j := 7) rfl
  have n8 := (HBR.out.kept kz (by simp)).cell (j := 8) rfl
  have n9 := (HBR.out.kept kz (by simp)).cell (j := 9) rfl
  have n10 := (HBR.out.kept kz (by simp)).cell (j := 10) rfl
  clear kz R4 A3 c0 c1 c2 c3 c4 c5 c6 c7 c8 c9 c10
  have c0 := n0
  have c1 := n1
  have c2 := n2
  have c3 := n3
  have c4 := n4
  have c5 := n5
  have c6 := n6
  have c7 := n7
  have c8 := n8
  have c9 := n9
  have c10 := n10
  clear n0 n1 n2 n3 n4 n5 n6 n7 n8 n9 n10
  have hq := A4.out.put prev 8 HB1.out.2.1 HB1.out.2.2 (by omega) (Nat.le_trans L4.out (by decide))
  go_wp2_with fail
  refine hq.mono ?_
  clear hq
  rintro e w5 ⟨u5, a5, rfl, E5, R5⟩
  obtain ⟨p5, d5, rfl⟩ := own_shape2 R5.1
  have A5 := @hideH _ R5
  have L5 := @hideH _ (show a5.length ≤ 17 by rw [E5.out.2]; exact Nat.add_le_add_right L4.out 8)
  have kz := R5.2
  have n0 := (HBR.out.kept kz (by simp)).cell (j := 0) rfl
  have n1 := (HBR.out.kept kz (by simp)).cell (j := 1) rfl
  have n2 := (HBR.out.kept kz (by simp)).cell (j := 2) rfl
  have n3 := (HBR.out.kept kz (by simp)).cell (j := 3) rfl
  have n4 := (HBR.out.kept kz (by simp)).cell (j := 4) rfl
  have n5 := (HBR.out.kept kz (by simp)).cell (j := 5) rfl
  have n6 := (HBR.out.kept kz (by simp)).cell (j := 6) rfl
  have n7 := (HBR.out.kept kz (by simp)).cell (j := 7) rfl
  have n8 := (HBR.out.kept kz (by simp)).cell (j := 8) rfl
  have n9 := (HBR.out.kept kz (by simp)).cell (j := 9) rfl
  have n10 := (HBR.out.kept kz (by simp)).cell (j := 10) rfl
  clear kz R5 A4 c0 c1 c2 c3 c4 c5 c6 c7 c8 c9 c10
  have c0 := n0
  have c1 := n1
  have c2 := n2
  have c3 := n3
  have c4 := n4
  have c5 := n5
  have c6 := n6
  have c7 := n7
  have c8 := n8
  have c9 := n9
  have c10 := n10
  clear n0 n1 n2 n3 n4 n5 n6 n7 n8 n9 n10
  have hq := A5.out.put id 1 HB2.out.1 HB2.out.2 (by omega) (Nat.le_trans L5.out (by decide))
  go_wp2_with fail
  refine hq.mono ?_
  clear hq
  rintro e w6 ⟨u6, a6, rfl, E6, R6⟩
  obtain ⟨p6, d6, rfl⟩ := own_shape2 R6.1
  have A6 := @hideH _ R6
  have L6 := @hideH _ (show a6.length ≤ 18 by rw [E6.out.2]; exact Nat.add_le_add_right L5.out 1)
  have kz := R6.2
  have n0 := (HBR.out.kept kz (by simp)).cell (j := 0) rfl
  have n1 := (HBR.out.kept kz (by simp)).cell (j := 1) rfl
  have n2 := (HBR.out.kept kz (by simp)).cell (j := 2) rfl
  have n3 := (HBR.out.kept kz (by simp)).cell (j := 3) rfl
  have n4 := (HBR.out.kept kz (by simp)).cell (j := 4) rfl
  have n5 := (HBR.out.kept kz (by simp)).cell (j := 5) rfl
  have n6 := (HBR.out.kept kz (by simp)).cell (j := 6) rfl
  have n7 := (HBR.out.kept kz (by simp)).cell (j := 7) rfl
  have n8 := (HBR.out.kept kz (by simp)).cell (j := 8) rfl
  have n9 := (HBR.out.kept kz (by simp)).cell (j := 9) rfl
  have n10 := (HBR.out.kept kz (by simp)).cell (j := 10) rfl
  clear kz R6 A5 c0 c1 c2 c3 c4 c5 c6 c7 c8 c9 c10
  have c0 := n0
  have c1 := n1
  have c2 := n2
  have c3 := n3
  have c4 := n4
  have c5 := n5
  have c6 := n6
  have c7 := n7
  have c8 := n8
  have c9 := n9
  have c10 := n10
  clear n0 n1 n2 n3 n4 n5 n6 n7 n8 n9 n10
  have FIN := @hideH _ (show a6 = RB ∧ Acc w w6 (.slice p6 a6.length d6) a6 from ⟨by rw [HRB.out, E6.out.1, E5.out.1, E4.out.1, E3.out.1]; simp [bytesR, tailB], own_baseK A6.out.1 K1.out.size, K1.out.then A6.out.2⟩)
  skip
  go_wp2
  go_ret2
  exact ⟨_, _, rfl, FIN.out⟩
end Go.Proofs.Ytebcmcmboomgfaa

/-
  OWN WORK (by mkrec5.py). The document's records (tidemarkref09): Bytes, of a right record of one kind.
-/
namespace Go.Proofs.Ytebcmcmboomgfaa
open Go.RowKit
set_option linter.unusedVariables false
set_option linter.unusedSimpArgs false

set_option maxRecDepth 20000 in
set_option maxHeartbeats 12800000 in
theorem rBytes_2 (V : RV) (birth prev id page frm : Int) (before after : List UInt8) (next : Int) (rows : List RowR) (dirty : List RecR) (w : World) (h : SeeR w V (⟨2, birth, prev, id, page, frm, before, after, next, rows, dirty⟩ : Rcd)) (hR : (⟨2, birth, prev, id, page, frm, before, after, next, rows, dirty⟩ : Rcd).Right) : Calls Try.prog 25 #[(⟨2, birth, prev, id, page, frm, before, after, next, rows, dirty⟩ : Rcd).agg V] w fun e w' => ∃ u acc, e = .returned (.tuple #[u, .int .i64 0]) ∧ acc = bytesR (⟨2, birth, prev, id, page, frm, before, after, next, rows, dirty⟩ : Rcd) ∧ Acc w w' u acc := by
  obtain ⟨pb, cb, pa, ca, pr, cr, pd, cd, rfl⟩ := h.shapes
  have hr := fun (wz : World) (kz : Kept [] w wz) => rRight _ (⟨2, birth, prev, id, page, frm, before, after, next, rows, dirty⟩ : Rcd) wz (h.kept kz)
  simp only [bl_t hR] at hr
  have HSE := @hideH _ h
  have HRR := @hideH _ hR
  obtain ⟨⟨-, -⟩, q2, q3, q4, q5, q6, q7⟩ := hR
  simp [lsnOk, nextOk, rangedOk, partsOk, listsOk] at q2 q3 q4 q5 q6 q7
  have HB1 := @hideH _ (show (0 ≤ birth ∧ birth ≤ 1152921504606846976) ∧ 0 ≤ prev ∧ prev ≤ 1152921504606846976 by omega)
  have HB2 := @hideH _ (show (0 ≤ page ∧ page ≤ 1152921504606846976) ∧ (0 ≤ frm ∧ frm ≤ 1152921504606846976) ∧ after.length ≤ 128 by omega)
  have HB4 := @hideH _ q7.1
  have HBL := @hideH _ (show before.length ≤ 128 ∧ after.length ≤ 128 from ⟨by rw [q7.1]; exact HB2.out.2.2, HB2.out.2.2⟩)
  clear h q2 q3 q4 q5 q6 q7
  unfold Rcd.agg at hr ⊢
  dsimp only at hr ⊢
  obtain ⟨RB, hRB⟩ : ∃ RB, RB = bytesR (⟨2, birth, prev, id, page, frm, before, after, next, rows, dirty⟩ : Rcd) := ⟨_, rfl⟩
  rw [← hRB]
  have HRB := @hideH _ hRB
  clear hRB
  obtain ⟨nb, hnb⟩ : ∃ nb, nb = before.length := ⟨_, rfl⟩
  obtain ⟨na, hna⟩ : ∃ na, na = after.length := ⟨_, rfl⟩
  obtain ⟨nr, hnr⟩ : ∃ nr, nr = rows.length := ⟨_, rfl⟩
  obtain ⟨nd, hnd⟩ : ∃ nd, nd = dirty.length := ⟨_, rfl⟩
  simp only [← hnb, ← hna, ← hnr, ← hnd] at hr ⊢
  have HNB := @hideH _ hnb
  have HNA := @hideH _ hna
  have HNR := @hideH _ hnr
  have HND := @hideH _ hnd
  clear hnb hna hnr hnd
  obtain ⟨w1, hw1⟩ : ∃ w1, w1 = w.alloc (.cells #[.int .i64 2, .int .i64 birth, .int .i64 prev, .int .i64 id, .int .i64 page, .int .i64 frm, .slice pb nb cb, .slice pa na ca, .int .i64 next, .slice pr nr cr, .slice pd nd cd] 26) := ⟨_, rfl⟩
  have k1 : Kept [] w w1 := by rw [hw1]; exact (Kept.refl [] w).alloc _
  have bR : Blk w1 w.heap.size 26 [.int .i64 2, .int .i64 birth, .int .i64 prev, .int .i64 id, .int .i64 page, .int .i64 frm, .slice pb nb cb, .slice pa na ca, .int .i64 next, .slice pr nr cr, .slice pd nd cd] := by rw [hw1]; exact Blk.new w _ _
  have K1 := @hideH _ k1
  have HBR := @hideH _ bR
  have c0 := bR.cell (j := 0) rfl
  have c1 := bR.cell (j := 1) rfl
  have c2 := bR.cell (j := 2) rfl
  have c3 := bR.cell (j := 3) rfl
  have c4 := bR.cell (j := 4) rfl
  have c5 := bR.cell (j := 5) rfl
  have c6 := bR.cell (j := 6) rfl
  have c7 := bR.cell (j := 7) rfl
  have c8 := bR.cell (j := 8) rfl
  have c9 := bR.cell (j := 9) rfl
  have c10 := bR.cell (j := 10) rfl
  clear bR k1
  go_enter Try.func25, Try.ntmps25
  go_upto_region 1 with fail
  rw [← hw1]
  clear hw1
  go_wp2_with fail
  refine (hr _ K1.out).mono ?_
  clear hr
  rintro e w2 ⟨rfl, k2⟩
  have A2 := @hideH _ (Acc.nil k2)
  replace c0 := k2.cell c0 (by simp)
  replace c1 := k2.cell c1 (by simp)
  replace c2 := k2.cell c2 (by simp)
  replace c3 := k2.cell c3 (by simp)
  replace c4 := k2.cell c4 (by simp)
  replace c5 := k2.cell c5 (by simp)
  replace c6 := k2.cell c6 (by simp)
  replace c7 := k2.cell c7 (by simp)
  replace c8 := k2.cell c8 (by simp)
  replace c9 := k2.cell c9 (by simp)
  replace c10 := k2.cell c10 (by simp)
  clear k2
  have L2 := @hideH _ (show ([] : List UInt8).length ≤ 0 from Nat.le_refl _)
  have hq := A2.out.put 2 1 (by omega) (by omega) (by omega) (Nat.le_trans L2.out (by decide))
  go_wp2_with fail
  refine hq.mono ?_
  clear hq
  rintro e w3 ⟨u3, a3, rfl, E3, R3⟩
  obtain ⟨p3, d3, rfl⟩ := own_shape2 R3.1
  have A3 := @hideH _ R3
  have L3 := @hideH _ (show a3.length ≤ 1 by rw [E3.out.2]; exact Nat.add_le_add_right L2.out 1)
  have kz := R3.2
  have n0 := (HBR.out.kept kz (by simp)).cell (j := 0) rfl
  have n1 := (HBR.out.kept kz (by simp)).cell (j := 1) rfl
  have n2 := (HBR.out.kept kz (by simp)).cell (j := 2) rfl
  have n3 := (HBR.out.kept kz (by simp)).cell (j := 3) rfl
  have n4 := (HBR.out.kept kz (by simp)).cell (j := 4) rfl
  have n5 := (HBR.out.kept kz (by simp)).cell (j := 5) rfl
  have n6 := (HBR.out.kept kz (by simp)).cell (j := 6) rfl
  have n7 := (HBR.out.kept kz (by simp)).cell (j := 7) rfl
  have n8 := (HBR.out.kept kz (by simp)).cell (j := 8) rfl
  have n9 := (HBR.out.kept kz (by simp)).cell (j := 9) rfl
  have n10 := (HBR.out.kept kz (by simp)).cell (j := 10) rfl
  clear kz R3 A2 c0 c1 c2 c3 c4 c5 c6 c7 c8 c9 c10
  have c0 := n0
  have c1 := n1
  have c2 := n2
  have c3 := n3
  have c4 := n4
  have c5 := n5
  have c6 := n6
  have c7 := n7
  have c8 := n8
  have c9 := n9
  have c10 := n10
  clear n0 n1 n2 n3 n4 n5 n6 n7 n8 n9 n10
  have hq := A3.out.put birth 8 HB1.out.1.1 HB1.out.1.2 (by omega) (Nat.le_trans L3.out (by decide))
  go_wp2_with fail
  refine hq.mono ?_
  clear hq
  rintro e w4 ⟨u4, a4, rfl, E4, R4⟩
  obtain ⟨p4, d4, rfl⟩ := own_shape2 R4.1
  have A4 := @hideH _ R4
  have L4 := @hideH _ (show a4.length ≤ 9 by rw [E4.out.2]; exact Nat.add_le_add_right L3.out 8)
  have kz := R4.2
  have n0 := (HBR.out.kept kz (by simp)).cell (j := 0) rfl
  have n1 := (HBR.out.kept kz (by simp)).cell (j := 1) rfl
  have n2 := (HBR.out.kept kz (by simp)).cell (j := 2) rfl
  have n3 := (HBR.out.kept kz (by simp)).cell (j := 3) rfl
  have n4 := (HBR.out.kept kz (by simp)).cell (j := 4) rfl
  have n5 := (HBR.out.kept kz (by simp)).cell (j := 5) rfl
  have n6 := (HBR.out.kept kz (by simp)).cell (j := 6) rfl
  have n7 := (HBR.out.kept kz (by simp)).cell (j := 7) rfl
  have n8 := (HBR.out.kept kz (by simp)).cell (j := 8) rfl
  have n9 := (HBR.out.kept kz (by simp)).cell (j := 9) rfl
  have n10 := (HBR.out.kept kz (by simp)).cell (j := 10) rfl
  clear kz R4 A3 c0 c1 c2 c3 c4 c5 c6 c7 c8 c9 c10
  have c0 := n0
  have c1 := n1
  have c2 := n2
  have c3 := n3
  have c4 := n4
  have c5 := n5
  have c6 := n6
  have c7 := n7
  have c8 := n8
  have c9 := n9
  have c10 := n10
  clear n0 n1 n2 n3 n4 n5 n6 n7 n8 n9 n10
  have hq := A4.out.put prev 8 HB1.out.2.1 HB1.out.2.2 (by omega) (Nat.le_trans L4.out (by decide))
  go_wp2_with fail
  refine hq.mono ?_
  clear hq
  rintro e w5 ⟨u5, a5, rfl, E5, R5⟩
  obtain ⟨p5, d5, rfl⟩ := own_shape2 R5.1
  have A5 := @hideH _ R5
  have L5 := @hideH _ (show a5.length ≤ 17 by rw [E5.out.2]; exact Nat.add_le_add_right L4.out 8)
  have kz := R5.2
  have n0 := (HBR.out.kept kz (by simp)).cell (j := 0) rfl
  have n1 := (HBR.out.kept kz (by simp)).cell (j := 1) rfl
  have n2 := (HBR.out.kept kz (by simp)).cell (j := 2) rfl
  have n3 := (HBR.out.kept kz (by simp)).cell (j := 3) rfl
  have n4 := (HBR.out.kept kz (by simp)).cell (j := 4) rfl
  have n5 := (HBR.out.kept kz (by simp)).cell (j := 5) rfl
  have n6 := (HBR.out.kept kz (by simp)).cell (j := 6) rfl
  have n7 := (HBR.out.kept kz (by simp)).cell (j := 7) rfl
  have n8 := (HBR.out.kept kz (by simp)).cell (j := 8) rfl
  have n9 := (HBR.out.kept kz (by simp)).cell (j := 9) rfl
  have n10 := (HBR.out.kept kz (by simp)).cell (j := 10) rfl
  clear kz R5 A4 c0 c1 c2 c3 c4 c5 c6 c7 c8 c9 c10
  have c0 := n0
  have c1 := n1
  have c2 := n2
  have c3 := n3
  have c4 := n4
  have c5 := n5
  have c6 := n6
  have c7 := n7
  have c8 := n8
  have c9 := n9
  have c10 := n10
  clear n0 n1 n2 n3 n4 n5 n6 n7 n8 n9 n10
  have hq := A5.out.put page 1 HB2.out.1.1 HB2.out.1.2 (by omega) (Nat.le_trans L5.out (by decide))
  go_wp2_with fail
  refine hq.mono ?_
  clear hq
  rintro e w6 ⟨u6, a6, rfl, E6, R6⟩
  obtain ⟨p6, d6, rfl⟩ := own_shape2 R6.1
  have A6 := @hideH _ R6
  have L6 := @hideH _ (show a6.length ≤ 18 by rw [E6.out.2]; exact Nat.add_le_add_right L5.out 1)
  have kz := R6.2
  have n0 := (HBR.out.kept kz (by simp)).cell (j := 0) rfl
  have n1 := (HBR.out.kept kz (by simp)).cell (j := 1) rfl
  have n2 := (HBR.out.kept kz (by simp)).cell (j := 2) rfl
  have n3 := (HBR.out.kept kz (by simp)).cell (j := 3) rfl
  have n4 := (HBR.out.kept kz (by simp)).cell (j := 4) rfl
  have n5 := (HBR.out.kept kz (by simp)).cell (j := 5) rfl
  have n6 := (HBR.out.kept kz (by simp)).cell (j := 6) rfl
  have n7 := (HBR.out.kept kz (by simp)).cell (j := 7) rfl
  have n8 := (HBR.out.kept kz (by simp)).cell (j := 8) rfl
  have n9 := (HBR.out.kept kz (by simp)).cell (j := 9) rfl
  have n10 := (HBR.out.kept kz (by simp)).cell (j := 10) rfl
  clear kz R6 A5 c0 c1 c2 c3 c4 c5 c6 c7 c8 c9 c10
  have c0 := n0
  have c1 := n1
  have c2 := n2
  have c3 := n3
  have c4 := n4
  have c5 := n5
  have c6 := n6
  have c7 := n7
  have c8 := n8
  have c9 := n9
  have c10 := n10
  clear n0 n1 n2 n3 n4 n5 n6 n7 n8 n9 n10
  have hq := A6.out.put frm 2 HB2.out.2.1.1 HB2.out.2.1.2 (by omega) (Nat.le_trans L6.out (by decide))
  go_wp2_with fail
  refine hq.mono ?_
  clear hq
  rintro e w7 ⟨u7, a7, rfl, E7, R7⟩
  obtain ⟨p7, d7, rfl⟩ := own_shape2 R7.1
  have A7 := @hideH _ R7
  have L7 := @hideH _ (show a7.length ≤ 20 by rw [E7.out.2]; exact Nat.add_le_add_right L6.out 2)
  have kz := R7.2
  have n0 := (HBR.out.kept kz (by simp)).cell (j := 0) rfl
  have n1 := (HBR.out.kept kz (by simp)).cell (j := 1) rfl
  have n2 := (HBR.out.kept kz (by simp)).cell (j := 2) rfl
  have n3 := (HBR.out.kept kz (by simp)).cell (j := 3) rfl
  have n4 := (HBR.out.kept kz (by simp)).cell (j := 4) rfl
  have n5 := (HBR.out.kept kz (by simp)).cell (j := 5) rfl
  have n6 := (HBR.out.kept kz (by simp)).cell (j := 6) rfl
  have n7 := (HBR.out.kept kz (by simp)).cell (j := 7) rfl
  have n8 := (HBR.out.kept kz (by simp)).cell (j := 8) rfl
  have n9 := (HBR.out.kept kz (by simp)).cell (j := 9) rfl
  have n10 := (HBR.out.kept kz (by simp)).cell (j := 10) rfl
  clear kz R7 A6 c0 c1 c2 c3 c4 c5 c6 c7 c8 c9 c10
  have c0 := n0
  have c1 := n1
  have c2 := n2
  have c3 := n3
  have c4 := n4
  have c5 := n5
  have c6 := n6
  have c7 := n7
  have c8 := n8
  have c9 := n9
  have c10 := n10
  clear n0 n1 n2 n3 n4 n5 n6 n7 n8 n9 n10
  have hq := A7.out.put (na : Int) 2 (by omega) (by have := HB2.out; have ly := HNA.out; omega) (by omega) (Nat.le_trans L7.out (by decide))
  go_wp2_with fail
  refine hq.mono ?_
  clear hq
  rintro e w8 ⟨u8, a8, rfl, E8, R8⟩
  obtain ⟨p8, d8, rfl⟩ := own_shape2 R8.1
  have A8 := @hideH _ R8
  have L8 := @hideH _ (show a8.length ≤ 22 by rw [E8.out.2]; exact Nat.add_le_add_right L7.out 2)
  have kz := R8.2
  have n0 := (HBR.out.kept kz (by simp)).cell (j := 0) rfl
  have n1 := (HBR.out.kept kz (by simp)).cell (j := 1) rfl
  have n2 := (HBR.out.kept kz (by simp)).cell (j := 2) rfl
  have n3 := (HBR.out.kept kz (by simp)).cell (j := 3) rfl
  have n4 := (HBR.out.kept kz (by simp)).cell (j := 4) rfl
  have n5 := (HBR.out.kept kz (by simp)).cell (j := 5) rfl
  have n6 := (HBR.out.kept kz (by simp)).cell (j := 6) rfl
  have n7 := (HBR.out.kept kz (by simp)).cell (j := 7) rfl
  have n8 := (HBR.out.kept kz (by simp)).cell (j := 8) rfl
  have n9 := (HBR.out.kept kz (by simp)).cell (j := 9) rfl
  have n10 := (HBR.out.kept kz (by simp)).cell (j := 10) rfl
  clear kz R8 A7 c0 c1 c2 c3 c4 c5 c6 c7 c8 c9 c10
  have c0 := n0
  have c1 := n1
  have c2 := n2
  have c3 := n3
  have c4 := n4
  have c5 := n5
  have c6 := n6
  have c7 := n7
  have c8 := n8
  have c9 := n9
  have c10 := n10
  clear n0 n1 n2 n3 n4 n5 n6 n7 n8 n9 n10
  have hsrc := HSE.out.before.kept (K1.out.then A8.out.2)
  dsimp only at hsrc
  rw [← HNB.out] at hsrc
  go_upto_region 16 with (at_builtin; refine wpList_append_bs rfl (.tmp 46) (.tmp 48) 22 rfl w1.heap.size 5 Try.underlying22 (by kernel_rfl) _ _ _ (by rfl) A8.out.1 _ before (by rfl) hsrc (Nat.le_trans (Nat.add_le_add L8.out HBL.out.1) (by decide)) A8.out.2.size ?_; intro v9 w9 o9 g9 at9; have kk9 : Kept [] w1 w9 := A8.out.2.grown g9 (fun x hx => .inr (own_ge A8.out.1 x hx)); obtain ⟨a9, ha9⟩ : ∃ a, a = a8 ++ before := ⟨_, rfl⟩; have R9 : Acc w1 w9 v9 a9 := ⟨(by rw [ha9, List.length_append, show u8s (a8 ++ before) = u8s a8 ++ u8s before from (by simp [u8s])]; exact o9), kk9⟩; have E9 : Hid (a9 = a8 ++ before ∧ a9.length = a8.length + before.length) := ⟨ha9, (by rw [ha9, List.length_append])⟩; obtain ⟨p9, d9, rfl⟩ := own_shape2 R9.1; clear o9 g9 at9 ha9)
  clear hsrc
  have A9 := @hideH _ R9
  have L9 := @hideH _ (show a9.length ≤ 150 by rw [E9.out.2]; exact Nat.add_le_add L8.out HBL.out.1)
  have kz := R9.2
  have n0 := (HBR.out.kept kz (by simp)).cell (j := 0) rfl
  have n1 := (HBR.out.kept kz (by simp)).cell (j := 1) rfl
  have n2 := (HBR.out.kept kz (by simp)).cell (j := 2) rfl
  have n3 := (HBR.out.kept kz (by simp)).cell (j := 3) rfl
  have n4 := (HBR.out.kept kz (by simp)).cell (j := 4) rfl
  have n5 := (HBR.out.kept kz (by simp)).cell (j := 5) rfl
  have n6 := (HBR.out.kept kz (by simp)).cell (j := 6) rfl
  have n7 := (HBR.out.kept kz (by simp)).cell (j := 7) rfl
  have n8 := (HBR.out.kept kz (by simp)).cell (j := 8) rfl
  have n9 := (HBR.out.kept kz (by simp)).cell (j := 9) rfl
  have n10 := (HBR.out.kept kz (by simp)).cell (j := 10) rfl
  clear kz R9 kk9 A8 c0 c1 c2 c3 c4 c5 c6 c7 c8 c9 c10
  have c0 := n0
  have c1 := n1
  have c2 := n2
  have c3 := n3
  have c4 := n4
  have c5 := n5
  have c6 := n6
  have c7 := n7
  have c8 := n8
  have c9 := n9
  have c10 := n10
  clear n0 n1 n2 n3 n4 n5 n6 n7 n8 n9 n10
  have hsrc := HSE.out.after.kept (K1.out.then A9.out.2)
  dsimp only at hsrc
  rw [← HNA.out] at hsrc
  go_upto_region 17 with (at_builtin; refine wpList_append_bs rfl (.tmp 50) (.tmp 52) 22 rfl w1.heap.size 5 Try.underlying22 (by kernel_rfl) _ _ _ (by rfl) A9.out.1 _ after (by rfl) hsrc (Nat.le_trans (Nat.add_le_add L9.out HBL.out.2) (by decide)) A9.out.2.size ?_; intro v10 w10 o10 g10 at10; have kk10 : Kept [] w1 w10 := A9.out.2.grown g10 (fun x hx => .inr (own_ge A9.out.1 x hx)); obtain ⟨a10, ha10⟩ : ∃ a, a = a9 ++ after := ⟨_, rfl⟩; have R10 : Acc w1 w10 v10 a10 := ⟨(by rw [ha10, List.length_append, show u8s (a9 ++ after) = u8s a9 ++ u8s after from (by simp [u8s])]; exact o10), kk10⟩; have E10 : Hid (a10 = a9 ++ after ∧ a10.length = a9.length + after.length) := ⟨ha10, (by rw [ha10, List.length_append])⟩; obtain ⟨p10, d10, rfl⟩ := own_shape2 R10.1; clear o10 g10 at10 ha10)
  clear hsrc
  have A10 := @hideH _ R10
  have L10 := @hideH _ (show a10.length ≤ 278 by rw [E10.out.2]; exact Nat.add_le_add L9.out HBL.out.2)
  have kz := R10.2
  have n0 := (HBR.out.kept kz (by simp)).cell (j := 0) rfl
  have n1 := (HBR.out.kept kz (by simp)).cell (j := 1) rfl
  have n2 := (HBR.out.kept kz (by simp)).cell (j := 2) rfl
  have n3 := (HBR.out.kept kz (by simp)).cell (j := 3) rfl
  have n4 := (HBR.out.kept kz (by simp)).cell (j := 4) rfl
  have n5 := (HBR.out.kept kz (by simp)).cell (j := 5) rfl
  have n6 := (HBR.out.kept kz (by simp)).cell (j := 6) rfl
  have n7 := (HBR.out.kept kz (by simp)).cell (j := 7) rfl
  have n8 := (HBR.out.kept kz (by simp)).cell (j := 8) rfl
  have n9 := (HBR.out.kept kz (by simp)).cell (j := 9) rfl
  have n10 := (HBR.out.kept kz (by simp)).cell (j := 10) rfl
  clear kz R10 kk10 A9 c0 c1 c2 c3 c4 c5 c6 c7 c8 c9 c10
  have c0 := n0
  have c1 := n1
  have c2 := n2
  have c3 := n3
  have c4 := n4
  have c5 := n5
  have c6 := n6
  have c7 := n7
  have c8 := n8
  have c9 := n9
  have c10 := n10
  clear n0 n1 n2 n3 n4 n5 n6 n7 n8 n9 n10
  have FIN := @hideH _ (show a10 = RB ∧ Acc w w10 (.slice p10 a10.length d10) a10 from ⟨by rw [HRB.out, E10.out.1, E9.out.1, E8.out.1, E7.out.1, E6.out.1, E5.out.1, E4.out.1, E3.out.1]; simp [bytesR, tailB, HNA.out], own_baseK A10.out.1 K1.out.size, K1.out.then A10.out.2⟩)
  skip
  go_wp2
  go_ret2
  exact ⟨_, _, rfl, FIN.out⟩
end Go.Proofs.Ytebcmcmboomgfaa

/-
  OWN WORK (by mkrec5.py). The document's records (tidemarkref09): Bytes, of a right record of one kind.
-/
namespace Go.Proofs.Ytebcmcmboomgfaa
open Go.RowKit
set_option linter.unusedVariables false
set_option linter.unusedSimpArgs false

set_option maxRecDepth 20000 in
set_option maxHeartbeats 12800000 in
theorem rBytes_3 (V : RV) (birth prev id page frm : Int) (before after : List UInt8) (next : Int) (rows : List RowR) (dirty : List RecR) (w : World) (h : SeeR w V (⟨3, birth, prev, id, page, frm, before, after, next, rows, dirty⟩ : Rcd)) (hR : (⟨3, birth, prev, id, page, frm, before, after, next, rows, dirty⟩ : Rcd).Right) : Calls Try.prog 25 #[(⟨3, birth, prev, id, page, frm, before, after, next, rows, dirty⟩ : Rcd).agg V] w fun e w' => ∃ u acc, e = .returned (.tuple #[u, .int .i64 0]) ∧ acc = bytesR (⟨3, birth, prev, id, page, frm, before, after, next, rows, dirty⟩ : Rcd) ∧ Acc w w' u acc := by
  obtain ⟨pb, cb, pa, ca, pr, cr, pd, cd, rfl⟩ := h.shapes
  have hr := fun (wz : World) (kz : Kept [] w wz) => rRight _ (⟨3, birth, prev, id, page, frm, before, after, next, rows, dirty⟩ : Rcd) wz (h.kept kz)
  simp only [bl_t hR] at hr
  have HSE := @hideH _ h
  have HRR := @hideH _ hR
  obtain ⟨⟨-, -⟩, q2, q3, q4, q5, q6, q7⟩ := hR
  simp [lsnOk, nextOk, rangedOk, partsOk, listsOk] at q2 q3 q4 q5 q6 q7
  have HB1 := @hideH _ (show (0 ≤ birth ∧ birth ≤ 1152921504606846976) ∧ 0 ≤ prev ∧ prev ≤ 1152921504606846976 by omega)
  have HB2 := @hideH _ (show (0 ≤ page ∧ page ≤ 1152921504606846976) ∧ (0 ≤ frm ∧ frm ≤ 1152921504606846976) ∧ after.length ≤ 128 by omega)
  have HB3 := @hideH _ (show 0 ≤ next ∧ next ≤ 1152921504606846976 by omega)
  have HB4 := @hideH _ (show before = [] from q7)
  have HBL := @hideH _ (show before.length ≤ 128 ∧ after.length ≤ 128 from ⟨by rw [show before = [] from q7]; exact Nat.zero_le _, HB2.out.2.2⟩)
  clear h q2 q3 q4 q5 q6 q7
  unfold Rcd.agg at hr ⊢
  dsimp only at hr ⊢
  obtain ⟨RB, hRB⟩ : ∃ RB, RB = bytesR (⟨3, birth, prev, id, page, frm, before, after, next, rows, dirty⟩ : Rcd) := ⟨_, rfl⟩
  rw [← hRB]
  have HRB := @hideH _ hRB
  clear hRB
  obtain ⟨nb, hnb⟩ : ∃ nb, nb = before.length := ⟨_, rfl⟩
  obtain ⟨na, hna⟩ : ∃ na, na = after.length := ⟨_, rfl⟩
  obtain ⟨nr, hnr⟩ : ∃ nr, nr = rows.length := ⟨_, rfl⟩
  obtain ⟨nd, hnd⟩ : ∃ nd, nd = dirty.length := ⟨_, rfl⟩
  simp only [← hnb, ← hna, ← hnr, ← hnd] at hr ⊢
  have HNB := @hideH _ hnb
  have HNA := @hideH _ hna
  have HNR := @hideH _ hnr
  have HND := @hideH _ hnd
  clear hnb hna hnr hnd
  obtain ⟨w1, hw1⟩ : ∃ w1, w1 = w.alloc (.cells #[.int .i64 3, .int .i64 birth, .int .i64 prev, .int .i64 id, .int .i64 page, .int .i64 frm, .slice pb nb cb, .slice pa na ca, .int .i64 next, .slice pr nr cr, .slice pd nd cd] 26) := ⟨_, rfl⟩
  have k1 : Kept [] w w1 := by rw [hw1]; exact (Kept.refl [] w).alloc _
  have bR : Blk w1 w.heap.size 26 [.int .i64 3, .int .i64 birth, .int .i64 prev, .int .i64 id, .int .i64 page, .int .i64 frm, .slice pb nb cb, .slice pa na ca, .int .i64 next, .slice pr nr cr, .slice pd nd cd] := by rw [hw1]; exact Blk.new w _ _
  have K1 := @hideH _ k1
  have HBR := @hideH _ bR
  have c0 := bR.cell (j := 0) rfl
  have c1 := bR.cell (j := 1) rfl
  have c2 := bR.cell (j := 2) rfl
  have c3 := bR.cell (j := 3) rfl
  have c4 := bR.cell (j := 4) rfl
  have c5 := bR.cell (j := 5) rfl
  have c6 := bR.cell (j := 6) rfl
  have c7 := bR.cell (j := 7) rfl
  have c8 := bR.cell (j := 8) rfl
  have c9 := bR.cell (j := 9) rfl
  have c10 := bR.cell (j := 10) rfl
  clear bR k1
  go_enter Try.func25, Try.ntmps25
  go_upto_region 1 with fail
  rw [← hw1]
  clear hw1
  go_wp2_with fail
  refine (hr _ K1.out).mono ?_
  clear hr
  rintro e w2 ⟨rfl, k2⟩
  have A2 := @hideH _ (Acc.nil k2)
  replace c0 := k2.cell c0 (by simp)
  replace c1 := k2.cell c1 (by simp)
  replace c2 := k2.cell c2 (by simp)
  replace c3 := k2.cell c3 (by simp)
  replace c4 := k2.cell c4 (by simp)
  replace c5 := k2.cell c5 (by simp)
  replace c6 := k2.cell c6 (by simp)
  replace c7 := k2.cell c7 (by simp)
  replace c8 := k2.cell c8 (by simp)
  replace c9 := k2.cell c9 (by simp)
  replace c10 := k2.cell c10 (by simp)
  clear k2
  have L2 := @hideH _ (show ([] : List UInt8).length ≤ 0 from Nat.le_refl _)
  have hq := A2.out.put 3 1 (by omega) (by omega) (by omega) (Nat.le_trans L2.out (by decide))
  go_wp2_with fail
  refine hq.mono ?_
  clear hq
  rintro e w3 ⟨u3, a3, rfl, E3, R3⟩
  obtain ⟨p3, d3, rfl⟩ := own_shape2 R3.1
  have A3 := @hideH _ R3
  have L3 := @hideH _ (show a3.length ≤ 1 by rw [E3.out.2]; exact Nat.add_le_add_right L2.out 1)
  have kz := R3.2
  have n0 := (HBR.out.kept kz (by simp)).cell (j := 0) rfl
  have n1 := (HBR.out.kept kz (by simp)).cell (j := 1) rfl
  have n2 := (HBR.out.kept kz (by simp)).cell (j := 2) rfl
  have n3 := (HBR.out.kept kz (by simp)).cell (j := 3) rfl
  have n4 := (HBR.out.kept kz (by simp)).cell (j := 4) rfl
  have n5 := (HBR.out.kept kz (by simp)).cell (j := 5) rfl
  have n6 := (HBR.out.kept kz (by simp)).cell (j := 6) rfl
  have n7 := (HBR.out.kept kz (by simp)).cell (j := 7) rfl
  have n8 := (HBR.out.kept kz (by simp)).cell (j := 8) rfl
  have n9 := (HBR.out.kept kz (by simp)).cell (j := 9) rfl
  have n10 := (HBR.out.kept kz (by simp)).cell (j := 10) rfl
  clear kz R3 A2 c0 c1 c2 c3 c4 c5 c6 c7 c8 c9 c10
  have c0 := n0
  have c1 := n1
  have c2 := n2
  have c3 := n3
  have c4 := n4
  have c5 := n5
  have c6 := n6
  have c7 := n7
  have c8 := n8
  have c9 := n9
  have c10 := n10
  clear n0 n1 n2 n3 n4 n5 n6 n7 n8 n9 n10
  have hq := A3.out.put birth 8 HB1.out.1.1 HB1.out.1.2 (by omega) (Nat.le_trans L3.out (by decide))
  go_wp2_with fail
  refine hq.mono ?_
  clear hq
  rintro e w4 ⟨u4, a4, rfl, E4, R4⟩
  obtain ⟨p4, d4, rfl⟩ := own_shape2 R4.1
  have A4 := @hideH _ R4
  have L4 := @hideH _ (show a4.length ≤ 9 by rw [E4.out.2]; exact Nat.add_le_add_right L3.out 8)
  have kz := R4.2
  have n0 := (HBR.out.kept kz (by simp)).cell (j := 0) rfl
  have n1 := (HBR.out.kept kz (by simp)).cell (j := 1) rfl
  have n2 := (HBR.out.kept kz (by simp)).cell (j := 2) rfl
  have n3 := (HBR.out.kept kz (by simp)).cell (j := 3) rfl
  have n4 := (HBR.out.kept kz (by simp)).cell (j := 4) rfl
  have n5 := (HBR.out.kept kz (by simp)).cell (j := 5) rfl
  have n6 := (HBR.out.kept kz (by simp)).cell (j := 6) rfl
  have n7 := (HBR.out.kept kz (by simp)).cell (j := 7) rfl
  have n8 := (HBR.out.kept kz (by simp)).cell (j := 8) rfl
  have n9 := (HBR.out.kept kz (by simp)).cell (j := 9) rfl
  have n10 := (HBR.out.kept kz (by simp)).cell (j := 10) rfl
  clear kz R4 A3 c0 c1 c2 c3 c4 c5 c6 c7 c8 c9 c10
  have c0 := n0
  have c1 := n1
  have c2 := n2
  have c3 := n3
  have c4 := n4
  have c5 := n5
  have c6 := n6
  have c7 := n7
  have c8 := n8
  have c9 := n9
  have c10 := n10
  clear n0 n1 n2 n3 n4 n5 n6 n7 n8 n9 n10
  have hq := A4.out.put prev 8 HB1.out.2.1 HB1.out.2.2 (by omega) (Nat.le_trans L4.out (by decide))
  go_wp2_with fail
  refine hq.mono ?_
  clear hq
  rintro e w5 ⟨u5, a5, rfl, E5, R5⟩
  obtain ⟨p5, d5, rfl⟩ := own_shape2 R5.1
  have A5 := @hideH _ R5
  have L5 := @hideH _ (show a5.length ≤ 17 by rw [E5.out.2]; exact Nat.add_le_add_right L4.out 8)
  have kz := R5.2
  have n0 := (HBR.out.kept kz (by simp)).cell (j := 0) rfl
  have n1 := (HBR.out.kept kz (by simp)).cell (j := 1) rfl
  have n2 := (HBR.out.kept kz (by simp)).cell (j := 2) rfl
  have n3 := (HBR.out.kept kz (by simp)).cell (j := 3) rfl
  have n4 := (HBR.out.kept kz (by simp)).cell (j := 4) rfl
  have n5 := (HBR.out.kept kz (by simp)).cell (j := 5) rfl
  have n6 := (HBR.out.kept kz (by simp)).cell (j := 6) rfl
  have n7 := (HBR.out.kept kz (by simp)).cell (j := 7) rfl
  have n8 := (HBR.out.kept kz (by simp)).cell (j := 8) rfl
  have n9 := (HBR.out.kept kz (by simp)).cell (j := 9) rfl
  have n10 := (HBR.out.kept kz (by simp)).cell (j := 10) rfl
  clear kz R5 A4 c0 c1 c2 c3 c4 c5 c6 c7 c8 c9 c10
  have c0 := n0
  have c1 := n1
  have c2 := n2
  have c3 := n3
  have c4 := n4
  have c5 := n5
  have c6 := n6
  have c7 := n7
  have c8 := n8
  have c9 := n9
  have c10 := n10
  clear n0 n1 n2 n3 n4 n5 n6 n7 n8 n9 n10
  have hq := A5.out.put page 1 HB2.out.1.1 HB2.out.1.2 (by omega) (Nat.le_trans L5.out (by decide))
  go_wp2_with fail
  refine hq.mono ?_
  clear hq
  rintro e w6 ⟨u6, a6, rfl, E6, R6⟩
  obtain ⟨p6, d6, rfl⟩ := own_shape2 R6.1
  have A6 := @hideH _ R6
  have L6 := @hideH _ (show a6.length ≤ 18 by rw [E6.out.2]; exact Nat.add_le_add_right L5.out 1)
  have kz := R6.2
  have n0 := (HBR.out.kept kz (by simp)).cell (j := 0) rfl
  have n1 := (HBR.out.kept kz (by simp)).cell (j := 1) rfl
  have n2 := (HBR.out.kept kz (by simp)).cell (j := 2) rfl
  have n3 := (HBR.out.kept kz (by simp)).cell (j := 3) rfl
  have n4 := (HBR.out.kept kz (by simp)).cell (j := 4) rfl
  have n5 := (HBR.out.kept kz (by simp)).cell (j := 5) rfl
  have n6 := (HBR.out.kept kz (by simp)).cell (j := 6) rfl
  have n7 := (HBR.out.kept kz (by simp)).cell (j := 7) rfl
  have n8 := (HBR.out.kept kz (by simp)).cell (j := 8) rfl
  have n9 := (HBR.out.kept kz (by simp)).cell (j := 9) rfl
  have n10 := (HBR.out.kept kz (by simp)).cell (j := 10) rfl
  clear kz R6 A5 c0 c1 c2 c3 c4 c5 c6 c7 c8 c9 c10
  have c0 := n0
  have c1 := n1
  have c2 := n2
  have c3 := n3
  have c4 := n4
  have c5 := n5
  have c6 := n6
  have c7 := n7
  have c8 := n8
  have c9 := n9
  have c10 := n10
  clear n0 n1 n2 n3 n4 n5 n6 n7 n8 n9 n10
  have hq := A6.out.put frm 2 HB2.out.2.1.1 HB2.out.2.1.2 (by omega) (Nat.le_trans L6.out (by decide))
  go_wp2_with fail
  refine hq.mono ?_
  clear hq
  rintro e w7 ⟨u7, a7, rfl, E7, R7⟩
  obtain ⟨p7, d7, rfl⟩ := own_shape2 R7.1
  have A7 := @hideH _ R7
  have L7 := @hideH _ (show a7.length ≤ 20 by rw [E7.out.2]; exact Nat.add_le_add_right L6.out 2)
  have kz := R7.2
  have n0 := (HBR.out.kept kz (by simp)).cell (j := 0) rfl
  have n1 := (HBR.out.kept kz (by simp)).cell (j := 1) rfl
  have n2 := (HBR.out.kept kz (by simp)).cell (j := 2) rfl
  have n3 := (HBR.out.kept kz (by simp)).cell (j := 3) rfl
  have n4 := (HBR.out.kept kz (by simp)).cell (j := 4) rfl
  have n5 := (HBR.out.kept kz (by simp)).cell (j := 5) rfl
  have n6 := (HBR.out.kept kz (by simp)).cell (j := 6) rfl
  have n7 := (HBR.out.kept kz (by simp)).cell (j := 7) rfl
  have n8 := (HBR.out.kept kz (by simp)).cell (j := 8) rfl
  have n9 := (HBR.out.kept kz (by simp)).cell (j := 9) rfl
  have n10 := (HBR.out.kept kz (by simp)).cell (j := 10) rfl
  clear kz R7 A6 c0 c1 c2 c3 c4 c5 c6 c7 c8 c9 c10
  have c0 := n0
  have c1 := n1
  have c2 := n2
  have c3 := n3
  have c4 := n4
  have c5 := n5
  have c6 := n6
  have c7 := n7
  have c8 := n8
  have c9 := n9
  have c10 := n10
  clear n0 n1 n2 n3 n4 n5 n6 n7 n8 n9 n10
  have hq := A7.out.put (na : Int) 2 (by omega) (by have := HB2.out; have ly := HNA.out; omega) (by omega) (Nat.le_trans L7.out (by decide))
  go_wp2_with fail
  refine hq.mono ?_
  clear hq
  rintro e w8 ⟨u8, a8, rfl, E8, R8⟩
  obtain ⟨p8, d8, rfl⟩ := own_shape2 R8.1
  have A8 := @hideH _ R8
  have L8 := @hideH _ (show a8.length ≤ 22 by rw [E8.out.2]; exact Nat.add_le_add_right L7.out 2)
  have kz := R8.2
  have n0 := (HBR.out.kept kz (by simp)).cell (j := 0) rfl
  have n1 := (HBR.out.kept kz (by simp)).cell (j := 1) rfl
  have n2 := (HBR.out.kept kz (by simp)).cell (j := 2) rfl
  have n3 := (HBR.out.kept kz (by simp)).cell (j := 3) rfl
  have n4 := (HBR.out.kept kz (by simp)).cell (j := 4) rfl
  have n5 := (HBR.out.kept kz (by simp)).cell (j := 5) rfl
  have n6 := (HBR.out.kept kz (by simp)).cell (j := 6) rfl
  have n7 := (HBR.out.kept kz (by simp)).cell (j := 7) rfl
  have n8 := (HBR.out.kept kz (by simp)).cell (j := 8) rfl
  have n9 := (HBR.out.kept kz (by simp)).cell (j := 9) rfl
  have n10 := (HBR.out.kept kz (by simp)).cell (j := 10) rfl
  clear kz R8 A7 c0 c1 c2 c3 c4 c5 c6 c7 c8 c9 c10
  have c0 := n0
  have c1 := n1
  have c2 := n2
  have c3 := n3
  have c4 := n4
  have c5 := n5
  have c6 := n6
  have c7 := n7
  have c8 := n8
  have c9 := n9
  have c10 := n10
  clear n0 n1 n2 n3 n4 n5 n6 n7 n8 n9 n10
  have hsrc := HSE.out.before.kept (K1.out.then A8.out.2)
  dsimp only at hsrc
  rw [← HNB.out] at hsrc
  go_upto_region 16 with (at_builtin; refine wpList_append_bs rfl (.tmp 46) (.tmp 48) 22 rfl w1.heap.size 5 Try.underlying22 (by kernel_rfl) _ _ _ (by rfl) A8.out.1 _ before (by rfl) hsrc (Nat.le_trans (Nat.add_le_add L8.out HBL.out.1) (by decide)) A8.out.2.size ?_; intro v9 w9 o9 g9 at9; have kk9 : Kept [] w1 w9 := A8.out.2.grown g9 (fun x hx => .inr (own_ge A8.out.1 x hx)); obtain ⟨a9, ha9⟩ : ∃ a, a = a8 ++ before := ⟨_, rfl⟩; have R9 : Acc w1 w9 v9 a9 := ⟨(by rw [ha9, List.length_append, show u8s (a8 ++ before) = u8s a8 ++ u8s before from (by simp [u8s])]; exact o9), kk9⟩; have E9 : Hid (a9 = a8 ++ before ∧ a9.length = a8.length + before.length) := ⟨ha9, (by rw [ha9, List.length_append])⟩; obtain ⟨p9, d9, rfl⟩ := own_shape2 R9.1; clear o9 g9 at9 ha9)
  clear hsrc
  have A9 := @hideH _ R9
  have L9 := @hideH _ (show a9.length ≤ 150 by rw [E9.out.2]; exact Nat.add_le_add L8.out HBL.out.1)
  have kz := R9.2
  have n0 := (HBR.out.kept kz (by simp)).cell (j := 0) rfl
  have n1 := (HBR.out.kept kz (by simp)).cell (j := 1) rfl
  have n2 := (HBR.out.kept kz (by simp)).cell (j := 2) rfl
  have n3 := (HBR.out.kept kz (by simp)).cell (j := 3) rfl
  have n4 := (HBR.out.kept kz (by simp)).cell (j := 4) rfl
  have n5 := (HBR.out.kept kz (by simp)).cell (j := 5) rfl
  have n6 := (HBR.out.kept kz (by simp)).cell (j := 6) rfl
  have n7 := (HBR.out.kept kz (by simp)).cell (j := 7) rfl
  have n8 := (HBR.out.kept kz (by simp)).cell (j := 8) rfl
  have n9 := (HBR.out.kept kz (by simp)).cell (j := 9) rfl
  have n10 := (HBR.out.kept kz (by simp)).cell (j := 10) rfl
  clear kz R9 kk9 A8 c0 c1 c2 c3 c4 c5 c6 c7 c8 c9 c10
  have c0 := n0
  have c1 := n1
  have c2 := n2
  have c3 := n3
  have c4 := n4
  have c5 := n5
  have c6 := n6
  have c7 := n7
  have c8 := n8
  have c9 := n9
  have c10 := n10
  clear n0 n1 n2 n3 n4 n5 n6 n7 n8 n9 n10
  have hsrc := HSE.out.after.kept (K1.out.then A9.out.2)
  dsimp only at hsrc
  rw [← HNA.out] at hsrc
  go_upto_region 17 with (at_builtin; refine wpList_append_bs rfl (.tmp 50) (.tmp 52) 22 rfl w1.heap.size 5 Try.underlying22 (by kernel_rfl) _ _ _ (by rfl) A9.out.1 _ after (by rfl) hsrc (Nat.le_trans (Nat.add_le_add L9.out HBL.out.2) (by decide)) A9.out.2.size ?_; intro v10 w10 o10 g10 at10; have kk10 : Kept [] w1 w10 := A9.out.2.grown g10 (fun x hx => .inr (own_ge A9.out.1 x hx)); obtain ⟨a10, ha10⟩ : ∃ a, a = a9 ++ after := ⟨_, rfl⟩; have R10 : Acc w1 w10 v10 a10 := ⟨(by rw [ha10, List.length_append, show u8s (a9 ++ after) = u8s a9 ++ u8s after from (by simp [u8s])]; exact o10), kk10⟩; have E10 : Hid (a10 = a9 ++ after ∧ a10.length = a9.length + after.length) := ⟨ha10, (by rw [ha10, List.length_append])⟩; obtain ⟨p10, d10, rfl⟩ := own_shape2 R10.1; clear o10 g10 at10 ha10)
  clear hsrc
  have A10 := @hideH _ R10
  have L10 := @hideH _ (show a10.length ≤ 278 by rw [E10.out.2]; exact Nat.add_le_add L9.out HBL.out.2)
  have kz := R10.2
  have n0 := (HBR.out.kept kz (by simp)).cell (j := 0) rfl
  have n1 := (HBR.out.kept kz (by simp)).cell (j := 1) rfl
  have n2 := (HBR.out.kept kz (by simp)).cell (j := 2) rfl
  have n3 := (HBR.out.kept kz (by simp)).cell (j := 3) rfl
  have n4 := (HBR.out.kept kz (by simp)).cell (j := 4) rfl
  have n5 := (HBR.out.kept kz (by simp)).cell (j := 5) rfl
  have n6 := (HBR.out.kept kz (by simp)).cell (j := 6) rfl
  have n7 := (HBR.out.kept kz (by simp)).cell (j := 7) rfl
  have n8 := (HBR.out.kept kz (by simp)).cell (j := 8) rfl
  have n9 := (HBR.out.kept kz (by simp)).cell (j := 9) rfl
  have n10 := (HBR.out.kept kz (by simp)).cell (j := 10) rfl
  clear kz R10 kk10 A9 c0 c1 c2 c3 c4 c5 c6 c7 c8 c9 c10
  have c0 := n0
  have c1 := n1
  have c2 := n2
  have c3 := n3
  have c4 := n4
  have c5 := n5
  have c6 := n6
  have c7 := n7
  have c8 := n8
  have c9 := n9
  have c10 := n10
  clear n0 n1 n2 n3 n4 n5 n6 n7 n8 n9 n10
  have hq := A10.out.put next 8 HB3.out.1 HB3.out.2 (by omega) (Nat.le_trans L10.out (by decide))
  go_wp2_with fail
  refine hq.mono ?_
  clear hq
  rintro e w11 ⟨u11, a11, rfl, E11, R11⟩
  obtain ⟨p11, d11, rfl⟩ := own_shape2 R11.1
  have A11 := @hideH _ R11
  have L11 := @hideH _ (show a11.length ≤ 286 by rw [E11.out.2]; exact Nat.add_le_add_right L10.out 8)
  have kz := R11.2
  have n0 := (HBR.out.kept kz (by simp)).cell (j := 0) rfl
  have n1 := (HBR.out.kept kz (by simp)).cell (j := 1) rfl
  have n2 := (HBR.out.kept kz (by simp)).cell (j := 2) rfl
  have n3 := (HBR.out.kept kz (by simp)).cell (j := 3) rfl
  have n4 := (HBR.out.kept kz (by simp)).cell (j := 4) rfl
  have n5 := (HBR.out.kept kz (by simp)).cell (j := 5) rfl
  have n6 := (HBR.out.kept kz (by simp)).cell (j := 6) rfl
  have n7 := (HBR.out.kept kz (by simp)).cell (j := 7) rfl
  have n8 := (HBR.out.kept kz (by simp)).cell (j := 8) rfl
  have n9 := (HBR.out.kept kz (by simp)).cell (j := 9) rfl
  have n10 := (HBR.out.kept kz (by simp)).cell (j := 10) rfl
  clear kz R11 A10 c0 c1 c2 c3 c4 c5 c6 c7 c8 c9 c10
  have c0 := n0
  have c1 := n1
  have c2 := n2
  have c3 := n3
  have c4 := n4
  have c5 := n5
  have c6 := n6
  have c7 := n7
  have c8 := n8
  have c9 := n9
  have c10 := n10
  clear n0 n1 n2 n3 n4 n5 n6 n7 n8 n9 n10
  have FIN := @hideH _ (show a11 = RB ∧ Acc w w11 (.slice p11 a11.length d11) a11 from ⟨by rw [HRB.out, E11.out.1, E10.out.1, E9.out.1, E8.out.1, E7.out.1, E6.out.1, E5.out.1, E4.out.1, E3.out.1, HB4.out]; simp [bytesR, tailB, HNA.out], own_baseK A11.out.1 K1.out.size, K1.out.then A11.out.2⟩)
  skip
  go_wp2
  go_ret2
  exact ⟨_, _, rfl, FIN.out⟩
end Go.Proofs.Ytebcmcmboomgfaa

/-
  OWN WORK (by mkrec5.py). The document's records (tidemarkref09): Bytes, of a right record of one kind.
-/
namespace Go.Proofs.Ytebcmcmboomgfaa
open Go.RowKit
set_option linter.unusedVariables false
set_option linter.unusedSimpArgs false

set_option maxRecDepth 20000 in
set_option maxHeartbeats 12800000 in
theorem rBytes_4 (V : RV) (birth prev id page frm : Int) (before after : List UInt8) (next : Int) (rows : List RowR) (dirty : List RecR) (w : World) (h : SeeR w V (⟨4, birth, prev, id, page, frm, before, after, next, rows, dirty⟩ : Rcd)) (hR : (⟨4, birth, prev, id, page, frm, before, after, next, rows, dirty⟩ : Rcd).Right) : Calls Try.prog 25 #[(⟨4, birth, prev, id, page, frm, before, after, next, rows, dirty⟩ : Rcd).agg V] w fun e w' => ∃ u acc, e = .returned (.tuple #[u, .int .i64 0]) ∧ acc = bytesR (⟨4, birth, prev, id, page, frm, before, after, next, rows, dirty⟩ : Rcd) ∧ Acc w w' u acc := by
  obtain ⟨pb, cb, pa, ca, pr, cr, pd, cd, rfl⟩ := h.shapes
  have hr := fun (wz : World) (kz : Kept [] w wz) => rRight _ (⟨4, birth, prev, id, page, frm, before, after, next, rows, dirty⟩ : Rcd) wz (h.kept kz)
  simp only [bl_t hR] at hr
  have HSE := @hideH _ h
  have HRR := @hideH _ hR
  obtain ⟨⟨-, -⟩, q2, q3, q4, q5, q6, q7⟩ := hR
  simp [lsnOk, nextOk, rangedOk, partsOk, listsOk] at q2 q3 q4 q5 q6 q7
  have HB1 := @hideH _ (show (0 ≤ birth ∧ birth ≤ 1152921504606846976) ∧ 0 ≤ prev ∧ prev ≤ 1152921504606846976 by omega)
  clear h q2 q3 q4 q5 q6 q7
  unfold Rcd.agg at hr ⊢
  dsimp only at hr ⊢
  obtain ⟨RB, hRB⟩ : ∃ RB, RB = bytesR (⟨4, birth, prev, id, page, frm, before, after, next, rows, dirty⟩ : Rcd) := ⟨_, rfl⟩
  rw [← hRB]
  have HRB := @hideH _ hRB
  clear hRB
  obtain ⟨nb, hnb⟩ : ∃ nb, nb = before.length := ⟨_, rfl⟩
  obtain ⟨na, hna⟩ : ∃ na, na = after.length := ⟨_, rfl⟩
  obtain ⟨nr, hnr⟩ : ∃ nr, nr = rows.length := ⟨_, rfl⟩
  obtain ⟨nd, hnd⟩ : ∃ nd, nd = dirty.length := ⟨_, rfl⟩
  simp only [← hnb, ← hna, ← hnr, ← hnd] at hr ⊢
  have HNB := @hideH _ hnb
  have HNA := @hideH _ hna
  have HNR := @hideH _ hnr
  have HND := @hideH _ hnd
  clear hnb hna hnr hnd
  obtain ⟨w1, hw1⟩ : ∃ w1, w1 = w.alloc (.cells #[.int .i64 4, .int .i64 birth, .int .i64 prev, .int .i64 id, .int .i64 page, .int .i64 frm, .slice pb nb cb, .slice pa na ca, .int .i64 next, .slice pr nr cr, .slice pd nd cd] 26) := ⟨_, rfl⟩
  have k1 : Kept [] w w1 := by rw [hw1]; exact (Kept.refl [] w).alloc _
  have bR : Blk w1 w.heap.size 26 [.int .i64 4, .int .i64 birth, .int .i64 prev, .int .i64 id, .int .i64 page, .int .i64 frm, .slice pb nb cb, .slice pa na ca, .int .i64 next, .slice pr nr cr, .slice pd nd cd] := by rw [hw1]; exact Blk.new w _ _
  have K1 := @hideH _ k1
  have HBR := @hideH _ bR
  have c0 := bR.cell (j := 0) rfl
  have c1 := bR.cell (j := 1) rfl
  have c2 := bR.cell (j := 2) rfl
  have c3 := bR.cell (j := 3) rfl
  have c4 := bR.cell (j := 4) rfl
  have c5 := bR.cell (j := 5) rfl
  have c6 := bR.cell (j := 6) rfl
  have c7 := bR.cell (j := 7) rfl
  have c8 := bR.cell (j := 8) rfl
  have c9 := bR.cell (j := 9) rfl
  have c10 := bR.cell (j := 10) rfl
  clear bR k1
  go_enter Try.func25, Try.ntmps25
  go_upto_region 1 with fail
  rw [← hw1]
  clear hw1
  go_wp2_with fail
  refine (hr _ K1.out).mono ?_
  clear hr
  rintro e w2 ⟨rfl, k2⟩
  have A2 := @hideH _ (Acc.nil k2)
  replace c0 := k2.cell c0 (by simp)
  replace c1 := k2.cell c1 (by simp)
  replace c2 := k2.cell c2 (by simp)
  replace c3 := k2.cell c3 (by simp)
  replace c4 := k2.cell c4 (by simp)
  replace c5 := k2.cell c5 (by simp)
  replace c6 := k2.cell c6 (by simp)
  replace c7 := k2.cell c7 (by simp)
  replace c8 := k2.cell c8 (by simp)
  replace c9 := k2.cell c9 (by simp)
  replace c10 := k2.cell c10 (by simp)
  clear k2
  have L2 := @hideH _ (show ([] : List UInt8).length ≤ 0 from Nat.le_refl _)
  have hq := A2.out.put 4 1 (by omega) (by omega) (by omega) (Nat.le_trans L2.out (by decide))
  go_wp2_with fail
  refine hq.mono ?_
  clear hq
  rintro e w3 ⟨u3, a3, rfl, E3, R3⟩
  obtain ⟨p3, d3, rfl⟩ := own_shape2 R3.1
  have A3 := @hideH _ R3
  have L3 := @hideH _ (show a3.length ≤ 1 by rw [E3.out.2]; exact Nat.add_le_add_right L2.out 1)
  have kz := R3.2
  have n0 := (HBR.out.kept kz (by simp)).cell (j := 0) rfl
  have n1 := (HBR.out.kept kz (by simp)).cell (j := 1) rfl
  have n2 := (HBR.out.kept kz (by simp)).cell (j := 2) rfl
  have n3 := (HBR.out.kept kz (by simp)).cell (j := 3) rfl
  have n4 := (HBR.out.kept kz (by simp)).cell (j := 4) rfl
  have n5 := (HBR.out.kept kz (by simp)).cell (j := 5) rfl
  have n6 := (HBR.out.kept kz (by simp)).cell (j := 6) rfl
  have n7 := (HBR.out.kept kz (by simp)).cell (j := 7) rfl
  have n8 := (HBR.out.kept kz (by simp)).cell (j := 8) rfl
  have n9 := (HBR.out.kept kz (by simp)).cell (j := 9) rfl
  have n10 := (HBR.out.kept kz (by simp)).cell (j := 10) rfl
  clear kz R3 A2 c0 c1 c2 c3 c4 c5 c6 c7 c8 c9 c10
  have c0 := n0
  have c1 := n1
  have c2 := n2
  have c3 := n3
  have c4 := n4
  have c5 := n5
  have c6 := n6
  have c7 := n7
  have c8 := n8
  have c9 := n9
  have c10 := n10
  clear n0 n1 n2 n3 n4 n5 n6 n7 n8 n9 n10
  have hq := A3.out.put birth 8 HB1.out.1.1 HB1.out.1.2 (by omega) (Nat.le_trans L3.out (by decide))
  go_wp2_with fail
  refine hq.mono ?_
  clear hq
  rintro e w4 ⟨u4, a4, rfl, E4, R4⟩
  obtain ⟨p4, d4, rfl⟩ := own_shape2 R4.1
  have A4 := @hideH _ R4
  have L4 := @hideH _ (show a4.length ≤ 9 by rw [E4.out.2]; exact Nat.add_le_add_right L3.out 8)
  have kz := R4.2
  have n0 := (HBR.out.kept kz (by simp)).cell (j := 0) rfl
  have n1 := (HBR.out.kept kz (by simp)).cell (j := 1) rfl
  have n2 := (HBR.out.kept kz (by simp)).cell (j := 2) rfl
  have n3 := (HBR.out.kept kz (by simp)).cell (j := 3) rfl
  have n4 := (HBR.out.kept kz (by simp)).cell (j := 4) rfl
  have n5 := (HBR.out.kept kz (by simp)).cell (j := 5) rfl
  have n6 := (HBR.out.kept kz (by simp)).cell (j := 6) rfl
  have n7 := (HBR.out.kept kz (by simp)).cell (j := 7) rfl
  have n8 := (HBR.out.kept kz (by simp)).cell (j := 8) rfl
  have n9 := (HBR.out.kept kz (by simp)).cell (j := 9) rfl
  have n10 := (HBR.out.kept kz (by simp)).cell (j := 10) rfl
  clear kz R4 A3 c0 c1 c2 c3 c4 c5 c6 c7 c8 c9 c10
  have c0 := n0
  have c1 := n1
  have c2 := n2
  have c3 := n3
  have c4 := n4
  have c5 := n5
  have c6 := n6
  have c7 := n7
  have c8 := n8
  have c9 := n9
  have c10 := n10
  clear n0 n1 n2 n3 n4 n5 n6 n7 n8 n9 n10
  have hq := A4.out.put prev 8 HB1.out.2.1 HB1.out.2.2 (by omega) (Nat.le_trans L4.out (by decide))
  go_wp2_with fail
  refine hq.mono ?_
  clear hq
  rintro e w5 ⟨u5, a5, rfl, E5, R5⟩
  obtain ⟨p5, d5, rfl⟩ := own_shape2 R5.1
  have A5 := @hideH _ R5
  have L5 := @hideH _ (show a5.length ≤ 17 by rw [E5.out.2]; exact Nat.add_le_add_right L4.out 8)
  have kz := R5.2
  have n0 := (HBR.out.kept kz (by simp)).cell (j := 0) rfl
  have n1 := (HBR.out.kept kz (by simp)).cell (j := 1) rfl
  have n2 := (HBR.out.kept kz (by simp)).cell (j := 2) rfl
  have n3 := (HBR.out.kept kz (by simp)).cell (j := 3) rfl
  have n4 := (HBR.out.kept kz (by simp)).cell (j := 4) rfl
  have n5 := (HBR.out.kept kz (by simp)).cell (j := 5) rfl
  have n6 := (HBR.out.kept kz (by simp)).cell (j := 6) rfl
  have n7 := (HBR.out.kept kz (by simp)).cell (j := 7) rfl
  have n8 := (HBR.out.kept kz (by simp)).cell (j := 8) rfl
  have n9 := (HBR.out.kept kz (by simp)).cell (j := 9) rfl
  have n10 := (HBR.out.kept kz (by simp)).cell (j := 10) rfl
  clear kz R5 A4 c0 c1 c2 c3 c4 c5 c6 c7 c8 c9 c10
  have c0 := n0
  have c1 := n1
  have c2 := n2
  have c3 := n3
  have c4 := n4
  have c5 := n5
  have c6 := n6
  have c7 := n7
  have c8 := n8
  have c9 := n9
  have c10 := n10
  clear n0 n1 n2 n3 n4 n5 n6 n7 n8 n9 n10
  have FIN := @hideH _ (show a5 = RB ∧ Acc w w5 (.slice p5 a5.length d5) a5 from ⟨by rw [HRB.out, E5.out.1, E4.out.1, E3.out.1]; simp [bytesR, tailB], own_baseK A5.out.1 K1.out.size, K1.out.then A5.out.2⟩)
  skip
  go_wp2
  go_ret2
  exact ⟨_, _, rfl, FIN.out⟩
end Go.Proofs.Ytebcmcmboomgfaa

/-
  OWN WORK (by mkrec5.py). The document's records (tidemarkref09): Bytes, of a right record of one kind.
-/
namespace Go.Proofs.Ytebcmcmboomgfaa
open Go.RowKit
set_option linter.unusedVariables false
set_option linter.unusedSimpArgs false

set_option maxRecDepth 20000 in
set_option maxHeartbeats 12800000 in
theorem rBytes_5 (V : RV) (birth prev id page frm : Int) (before after : List UInt8) (next : Int) (rows : List RowR) (dirty : List RecR) (w : World) (h : SeeR w V (⟨5, birth, prev, id, page, frm, before, after, next, rows, dirty⟩ : Rcd)) (hR : (⟨5, birth, prev, id, page, frm, before, after, next, rows, dirty⟩ : Rcd).Right) : Calls Try.prog 25 #[(⟨5, birth, prev, id, page, frm, before, after, next, rows, dirty⟩ : Rcd).agg V] w fun e w' => ∃ u acc, e = .returned (.tuple #[u, .int .i64 0]) ∧ acc = bytesR (⟨5, birth, prev, id, page, frm, before, after, next, rows, dirty⟩ : Rcd) ∧ Acc w w' u acc := by
  obtain ⟨pb, cb, pa, ca, pr, cr, pd, cd, rfl⟩ := h.shapes
  have hr := fun (wz : World) (kz : Kept [] w wz) => rRight _ (⟨5, birth, prev, id, page, frm, before, after, next, rows, dirty⟩ : Rcd) wz (h.kept kz)
  simp only [bl_t hR] at hr
  have HSE := @hideH _ h
  have HRR := @hideH _ hR
  obtain ⟨⟨-, -⟩, q2, q3, q4, q5, q6, q7⟩ := hR
  simp [lsnOk, nextOk, rangedOk, partsOk, listsOk] at q2 q3 q4 q5 q6 q7
  have HB1 := @hideH _ (show (0 ≤ birth ∧ birth ≤ 1152921504606846976) ∧ 0 ≤ prev ∧ prev ≤ 1152921504606846976 by omega)
  clear h q2 q3 q4 q5 q6 q7
  unfold Rcd.agg at hr ⊢
  dsimp only at hr ⊢
  obtain ⟨RB, hRB⟩ : ∃ RB, RB = bytesR (⟨5, birth, prev, id, page, frm, before, after, next, rows, dirty⟩ : Rcd) := ⟨_, rfl⟩
  rw [← hRB]
  have HRB := @hideH _ hRB
  clear hRB
  obtain ⟨nb, hnb⟩ : ∃ nb, nb = before.length := ⟨_, rfl⟩
  obtain ⟨na, hna⟩ : ∃ na, na = after.length := ⟨_, rfl⟩
  obtain ⟨nr, hnr⟩ : ∃ nr, nr = rows.length := ⟨_, rfl⟩
  obtain ⟨nd, hnd⟩ : ∃ nd, nd = dirty.length := ⟨_, rfl⟩
  simp only [← hnb, ← hna, ← hnr, ← hnd] at hr ⊢
  have HNB := @hideH _ hnb
  have HNA := @hideH _ hna
  have HNR := @hideH _ hnr
  have HND := @hideH _ hnd
  clear hnb hna hnr hnd
  obtain ⟨w1, hw1⟩ : ∃ w1, w1 = w.alloc (.cells #[.int .i64 5, .int .i64 birth, .int .i64 prev, .int .i64 id, .int .i64 page, .int .i64 frm, .slice pb nb cb, .slice pa na ca, .int .i64 next, .slice pr nr cr, .slice pd nd cd] 26) := ⟨_, rfl⟩
  have k1 : Kept [] w w1 := by rw [hw1]; exact (Kept.refl [] w).alloc _
  have bR : Blk w1 w.heap.size 26 [.int .i64 5, .int .i64 birth, .int .i64 prev, .int .i64 id, .int .i64 page, .int .i64 frm, .slice pb nb cb, .slice pa na ca, .int .i64 next, .slice pr nr cr, .slice pd nd cd] := by rw [hw1]; exact Blk.new w _ _
  have K1 := @hideH _ k1
  have HBR := @hideH _ bR
  have c0 := bR.cell (j := 0) rfl
  have c1 := bR.cell (j := 1) rfl
  have c2 := bR.cell (j := 2) rfl
  have c3 := bR.cell (j := 3) rfl
  have c4 := bR.cell (j := 4) rfl
  have c5 := bR.cell (j := 5) rfl
  have c6 := bR.cell (j := 6) rfl
  have c7 := bR.cell (j := 7) rfl
  have c8 := bR.cell (j := 8) rfl
  have c9 := bR.cell (j := 9) rfl
  have c10 := bR.cell (j := 10) rfl
  clear bR k1
  go_enter Try.func25, Try.ntmps25
  go_upto_region 1 with fail
  rw [← hw1]
  clear hw1
  go_wp2_with fail
  refine (hr _ K1.out).mono ?_
  clear hr
  rintro e w2 ⟨rfl, k2⟩
  have A2 := @hideH _ (Acc.nil k2)
  replace c0 := k2.cell c0 (by simp)
  replace c1 := k2.cell c1 (by simp)
  replace c2 := k2.cell c2 (by simp)
  replace c3 := k2.cell c3 (by simp)
  replace c4 := k2.cell c4 (by simp)
  replace c5 := k2.cell c5 (by simp)
  replace c6 := k2.cell c6 (by simp)
  replace c7 := k2.cell c7 (by simp)
  replace c8 := k2.cell c8 (by simp)
  replace c9 := k2.cell c9 (by simp)
  replace c10 := k2.cell c10 (by simp)
  clear k2
  have L2 := @hideH _ (show ([] : List UInt8).length ≤ 0 from Nat.le_refl _)
  have hq := A2.out.put 5 1 (by omega) (by omega) (by omega) (Nat.le_trans L2.out (by decide))
  go_wp2_with fail
  refine hq.mono ?_
  clear hq
  rintro e w3 ⟨u3, a3, rfl, E3, R3⟩
  obtain ⟨p3, d3, rfl⟩ := own_shape2 R3.1
  have A3 := @hideH _ R3
  have L3 := @hideH _ (show a3.length ≤ 1 by rw [E3.out.2]; exact Nat.add_le_add_right L2.out 1)
  have kz := R3.2
  have n0 := (HBR.out.kept kz (by simp)).cell (j := 0) rfl
  have n1 := (HBR.out.kept kz (by simp)).cell (j := 1) rfl
  have n2 := (HBR.out.kept kz (by simp)).cell (j := 2) rfl
  have n3 := (HBR.out.kept kz (by simp)).cell (j := 3) rfl
  have n4 := (HBR.out.kept kz (by simp)).cell (j := 4) rfl
  have n5 := (HBR.out.kept kz (by simp)).cell (j := 5) rfl
  have n6 := (HBR.out.kept kz (by simp)).cell (j := 6) rfl
  have n7 := (HBR.out.kept kz (by simp)).cell (j := 7) rfl
  have n8 := (HBR.out.kept kz (by simp)).cell (j := 8) rfl
  have n9 := (HBR.out.kept kz (by simp)).cell (j := 9) rfl
  have n10 := (HBR.out.kept kz (by simp)).cell (j := 10) rfl
  clear kz R3 A2 c0 c1 c2 c3 c4 c5 c6 c7 c8 c9 c10
  have c0 := n0
  have c1 := n1
  have c2 := n2
  have c3 := n3
  have c4 := n4
  have c5 := n5
  have c6 := n6
  have c7 := n7
  have c8 := n8
  have c9 := n9
  have c10 := n10
  clear n0 n1 n2 n3 n4 n5 n6 n7 n8 n9 n10
  have hq := A3.out.put birth 8 HB1.out.1.1 HB1.out.1.2 (by omega) (Nat.le_trans L3.out (by decide))
  go_wp2_with fail
  refine hq.mono ?_
  clear hq
  rintro e w4 ⟨u4, a4, rfl, E4, R4⟩
  obtain ⟨p4, d4, rfl⟩ := own_shape2 R4.1
  have A4 := @hideH _ R4
  have L4 := @hideH _ (show a4.length ≤ 9 by rw [E4.out.2]; exact Nat.add_le_add_right L3.out 8)
  have kz := R4.2
  have n0 := (HBR.out.kept kz (by simp)).cell (j := 0) rfl
  have n1 := (HBR.out.kept kz (by simp)).cell (j := 1) rfl
  have n2 := (HBR.out.kept kz (by simp)).cell (j := 2) rfl
  have n3 := (HBR.out.kept kz (by simp)).cell (j := 3) rfl
  have n4 := (HBR.out.kept kz (by simp)).cell (j := 4) rfl
  have n5 := (HBR.out.kept kz (by simp)).cell (j := 5) rfl
  have n6 := (HBR.out.kept kz (by simp)).cell (j := 6) rfl
  have n7 := (HBR.out.kept kz (by simp)).cell (j := 7) rfl
  have n8 := (HBR.out.kept kz (by simp)).cell (j := 8) rfl
  have n9 := (HBR.out.kept kz (by simp)).cell (j := 9) rfl
  have n10 := (HBR.out.kept kz (by simp)).cell (j := 10) rfl
  clear kz R4 A3 c0 c1 c2 c3 c4 c5 c6 c7 c8 c9 c10
  have c0 := n0
  have c1 := n1
  have c2 := n2
  have c3 := n3
  have c4 := n4
  have c5 := n5
  have c6 := n6
  have c7 := n7
  have c8 := n8
  have c9 := n9
  have c10 := n10
  clear n0 n1 n2 n3 n4 n5 n6 n7 n8 n9 n10
  have hq := A4.out.put prev 8 HB1.out.2.1 HB1.out.2.2 (by omega) (Nat.le_trans L4.out (by decide))
  go_wp2_with fail
  refine hq.mono ?_
  clear hq
  rintro e w5 ⟨u5, a5, rfl, E5, R5⟩
  obtain ⟨p5, d5, rfl⟩ := own_shape2 R5.1
  have A5 := @hideH _ R5
  have L5 := @hideH _ (show a5.length ≤ 17 by rw [E5.out.2]; exact Nat.add_le_add_right L4.out 8)
  have kz := R5.2
  have n0 := (HBR.out.kept kz (by simp)).cell (j := 0) rfl
  have n1 := (HBR.out.kept kz (by simp)).cell (j := 1) rfl
  have n2 := (HBR.out.kept kz (by simp)).cell (j := 2) rfl
  have n3 := (HBR.out.kept kz (by simp)).cell (j := 3) rfl
  have n4 := (HBR.out.kept kz (by simp)).cell (j := 4) rfl
  have n5 := (HBR.out.kept kz (by simp)).cell (j := 5) rfl
  have n6 := (HBR.out.kept kz (by simp)).cell (j := 6) rfl
  have n7 := (HBR.out.kept kz (by simp)).cell (j := 7) rfl
  have n8 := (HBR.out.kept kz (by simp)).cell (j := 8) rfl
  have n9 := (HBR.out.kept kz (by simp)).cell (j := 9) rfl
  have n10 := (HBR.out.kept kz (by simp)).cell (j := 10) rfl
  clear kz R5 A4 c0 c1 c2 c3 c4 c5 c6 c7 c8 c9 c10
  have c0 := n0
  have c1 := n1
  have c2 := n2
  have c3 := n3
  have c4 := n4
  have c5 := n5
  have c6 := n6
  have c7 := n7
  have c8 := n8
  have c9 := n9
  have c10 := n10
  clear n0 n1 n2 n3 n4 n5 n6 n7 n8 n9 n10
  have FIN := @hideH _ (show a5 = RB ∧ Acc w w5 (.slice p5 a5.length d5) a5 from ⟨by rw [HRB.out, E5.out.1, E4.out.1, E3.out.1]; simp [bytesR, tailB], own_baseK A5.out.1 K1.out.size, K1.out.then A5.out.2⟩)
  skip
  go_wp2
  go_ret2
  exact ⟨_, _, rfl, FIN.out⟩
end Go.Proofs.Ytebcmcmboomgfaa

/-
  OWN WORK (by mkrec5.py). The document's records (tidemarkref09): Bytes, of a right record of one kind.
-/
namespace Go.Proofs.Ytebcmcmboomgfaa
open Go.RowKit
set_option linter.unusedVariables false
set_option linter.unusedSimpArgs false

set_option maxRecDepth 20000 in
set_option maxHeartbeats 12800000 in
theorem rBytes_6 (V : RV) (birth prev id page frm : Int) (before after : List UInt8) (next : Int) (rows : List RowR) (dirty : List RecR) (w : World) (h : SeeR w V (⟨6, birth, prev, id, page, frm, before, after, next, rows, dirty⟩ : Rcd)) (hR : (⟨6, birth, prev, id, page, frm, before, after, next, rows, dirty⟩ : Rcd).Right) : Calls Try.prog 25 #[(⟨6, birth, prev, id, page, frm, before, after, next, rows, dirty⟩ : Rcd).agg V] w fun e w' => ∃ u acc, e = .returned (.tuple #[u, .int .i64 0]) ∧ acc = bytesR (⟨6, birth, prev, id, page, frm, before, after, next, rows, dirty⟩ : Rcd) ∧ Acc w w' u acc := by
  obtain ⟨pb, cb, pa, ca, pr, cr, pd, cd, rfl⟩ := h.shapes
  have hr := fun (wz : World) (kz : Kept [] w wz) => rRight _ (⟨6, birth, prev, id, page, frm, before, after, next, rows, dirty⟩ : Rcd) wz (h.kept kz)
  simp only [bl_t hR] at hr
  have HSE := @hideH _ h
  have HRR := @hideH _ hR
  obtain ⟨⟨-, -⟩, q2, q3, q4, q5, q6, q7⟩ := hR
  simp [lsnOk, nextOk, rangedOk, partsOk, listsOk] at q2 q3 q4 q5 q6 q7
  have HB1 := @hideH _ (show (0 ≤ birth ∧ birth ≤ 1152921504606846976) ∧ 0 ≤ prev ∧ prev ≤ 1152921504606846976 by omega)
  clear h q2 q3 q4 q5 q6 q7
  unfold Rcd.agg at hr ⊢
  dsimp only at hr ⊢
  obtain ⟨RB, hRB⟩ : ∃ RB, RB = bytesR (⟨6, birth, prev, id, page, frm, before, after, next, rows, dirty⟩ : Rcd) := ⟨_, rfl⟩
  rw [← hRB]
  have HRB := @hideH _ hRB
  clear hRB
  obtain ⟨nb, hnb⟩ : ∃ nb, nb = before.length := ⟨_, rfl⟩
  obtain ⟨na, hna⟩ : ∃ na, na = after.length := ⟨_, rfl⟩
  obtain ⟨nr, hnr⟩ : ∃ nr, nr = rows.length := ⟨_, rfl⟩
  obtain ⟨nd, hnd⟩ : ∃ nd, nd = dirty.length := ⟨_, rfl⟩
  simp only [← hnb, ← hna, ← hnr, ← hnd] at hr ⊢
  have HNB := @hideH _ hnb
  have HNA := @hideH _ hna
  have HNR := @hideH _ hnr
  have HND := @hideH _ hnd
  clear hnb hna hnr hnd
  obtain ⟨w1, hw1⟩ : ∃ w1, w1 = w.alloc (.cells #[.int .i64 6, .int .i64 birth, .int .i64 prev, .int .i64 id, .int .i64 page, .int .i64 frm, .slice pb nb cb, .slice pa na ca, .int .i64 next, .slice pr nr cr, .slice pd nd cd] 26) := ⟨_, rfl⟩
  have k1 : Kept [] w w1 := by rw [hw1]; exact (Kept.refl [] w).alloc _
  have bR : Blk w1 w.heap.size 26 [.int .i64 6, .int .i64 birth, .int .i64 prev, .int .i64 id, .int .i64 page, .int .i64 frm, .slice pb nb cb, .slice pa na ca, .int .i64 next, .slice pr nr cr, .slice pd nd cd] := by rw [hw1]; exact Blk.new w _ _
  have K1 := @hideH _ k1
  have HBR := @hideH _ bR
  have c0 := bR.cell (j := 0) rfl
  have c1 := bR.cell (j := 1) rfl
  have c2 := bR.cell (j := 2) rfl
  have c3 := bR.cell (j := 3) rfl
  have c4 := bR.cell (j := 4) rfl
  have c5 := bR.cell (j := 5) rfl
  have c6 := bR.cell (j := 6) rfl
  have c7 := bR.cell (j := 7) rfl
  have c8 := bR.cell (j := 8) rfl
  have c9 := bR.cell (j := 9) rfl
  have c10 := bR.cell (j := 10) rfl
  clear bR k1
  go_enter Try.func25, Try.ntmps25
  go_upto_region 1 with fail
  rw [← hw1]
  clear hw1
  go_wp2_with fail
  refine (hr _ K1.out).mono ?_
  clear hr
  rintro e w2 ⟨rfl, k2⟩
  have A2 := @hideH _ (Acc.nil k2)
  replace c0 := k2.cell c0 (by simp)
  replace c1 := k2.cell c1 (by simp)
  replace c2 := k2.cell c2 (by simp)
  replace c3 := k2.cell c3 (by simp)
  replace c4 := k2.cell c4 (by simp)
  replace c5 := k2.cell c5 (by simp)
  replace c6 := k2.cell c6 (by simp)
  replace c7 := k2.cell c7 (by simp)
  replace c8 := k2.cell c8 (by simp)
  replace c9 := k2.cell c9 (by simp)
  replace c10 := k2.cell c10 (by simp)
  clear k2
  have L2 := @hideH _ (show ([] : List UInt8).length ≤ 0 from Nat.le_refl _)
  have hq := A2.out.put 6 1 (by omega) (by omega) (by omega) (Nat.le_trans L2.out (by decide))
  go_wp2_with fail
  refine hq.mono ?_
  clear hq
  rintro e w3 ⟨u3, a3, rfl, E3, R3⟩
  obtain ⟨p3, d3, rfl⟩ := own_shape2 R3.1
  have A3 := @hideH _ R3
  have L3 := @hideH _ (show a3.length ≤ 1 by rw [E3.out.2]; exact Nat.add_le_add_right L2.out 1)
  have kz := R3.2
  have n0 := (HBR.out.kept kz (by simp)).cell (j := 0) rfl
  have n1 := (HBR.out.kept kz (by simp)).cell (j := 1) rfl
  have n2 := (HBR.out.kept kz (by simp)).cell (j := 2) rfl
  have n3 := (HBR.out.kept kz (by simp)).cell (j := 3) rfl
  have n4 := (HBR.out.kept kz (by simp)).cell (j := 4) rfl
  have n5 := (HBR.out.kept kz (by simp)).cell (j := 5) rfl
  have n6 := (HBR.out.kept kz (by simp)).cell (j := 6) rfl
  have n7 := (HBR.out.kept kz (by simp)).cell (j := 7) rfl
  have n8 := (HBR.out.kept kz (by simp)).cell (j := 8) rfl
  have n9 := (HBR.out.kept kz (by simp)).cell (j := 9) rfl
  have n10 := (HBR.out.kept kz (by simp)).cell (j := 10) rfl
  clear kz R3 A2 c0 c1 c2 c3 c4 c5 c6 c7 c8 c9 c10
  have c0 := n0
  have c1 := n1
  have c2 := n2
  have c3 := n3
  have c4 := n4
  have c5 := n5
  have c6 := n6
  have c7 := n7
  have c8 := n8
  have c9 := n9
  have c10 := n10
  clear n0 n1 n2 n3 n4 n5 n6 n7 n8 n9 n10
  have hq := A3.out.put birth 8 HB1.out.1.1 HB1.out.1.2 (by omega) (Nat.le_trans L3.out (by decide))
  go_wp2_with fail
  refine hq.mono ?_
  clear hq
  rintro e w4 ⟨u4, a4, rfl, E4, R4⟩
  obtain ⟨p4, d4, rfl⟩ := own_shape2 R4.1
  have A4 := @hideH _ R4
  have L4 := @hideH _ (show a4.length ≤ 9 by rw [E4.out.2]; exact Nat.add_le_add_right L3.out 8)
  have kz := R4.2
  have n0 := (HBR.out.kept kz (by simp)).cell (j := 0) rfl
  have n1 := (HBR.out.kept kz (by simp)).cell (j := 1) rfl
  have n2 := (HBR.out.kept kz (by simp)).cell (j := 2) rfl
  have n3 := (HBR.out.kept kz (by simp)).cell (j := 3) rfl
  have n4 := (HBR.out.kept kz (by simp)).cell (j := 4) rfl
  have n5 := (HBR.out.kept kz (by simp)).cell (j := 5) rfl
  have n6 := (HBR.out.kept kz (by simp)).cell (j := 6) rfl
  have n7 := (HBR.out.kept kz (by simp)).cell (j := 7) rfl
  have n8 := (HBR.out.kept kz (by simp)).cell (j := 8) rfl
  have n9 := (HBR.out.kept kz (by simp)).cell (j := 9) rfl
  have n10 := (HBR.out.kept kz (by simp)).cell (j := 10) rfl
  clear kz R4 A3 c0 c1 c2 c3 c4 c5 c6 c7 c8 c9 c10
  have c0 := n0
  have c1 := n1
  have c2 := n2
  have c3 := n3
  have c4 := n4
  have c5 := n5
  have c6 := n6
  have c7 := n7
  have c8 := n8
  have c9 := n9
  have c10 := n10
  clear n0 n1 n2 n3 n4 n5 n6 n7 n8 n9 n10
  have hq := A4.out.put prev 8 HB1.out.2.1 HB1.out.2.2 (by omega) (Nat.le_trans L4.out (by decide))
  go_wp2_with fail
  refine hq.mono ?_
  clear hq
  rintro e w5 ⟨u5, a5, rfl, E5, R5⟩
  obtain ⟨p5, d5, rfl⟩ := own_shape2 R5.1
  have A5 := @hideH _ R5
  have L5 := @hideH _ (show a5.length ≤ 17 by rw [E5.out.2]; exact Nat.add_le_add_right L4.out 8)
  have kz := R5.2
  have n0 := (HBR.out.kept kz (by simp)).cell (j := 0) rfl
  have n1 := (HBR.out.kept kz (by simp)).cell (j := 1) rfl
  have n2 := (HBR.out.kept kz (by simp)).cell (j := 2) rfl
  have n3 := (HBR.out.kept kz (by simp)).cell (j := 3) rfl
  have n4 := (HBR.out.kept kz (by simp)).cell (j := 4) rfl
  have n5 := (HBR.out.kept kz (by simp)).cell (j := 5) rfl
  have n6 := (HBR.out.kept kz (by simp)).cell (j := 6) rfl
  have n7 := (HBR.out.kept kz (by simp)).cell (j := 7) rfl
  have n8 := (HBR.out.kept kz (by simp)).cell (j := 8) rfl
  have n9 := (HBR.out.kept kz (by simp)).cell (j := 9) rfl
  have n10 := (HBR.out.kept kz (by simp)).cell (j := 10) rfl
  clear kz R5 A4 c0 c1 c2 c3 c4 c5 c6 c7 c8 c9 c10
  have c0 := n0
  have c1 := n1
  have c2 := n2
  have c3 := n3
  have c4 := n4
  have c5 := n5
  have c6 := n6
  have c7 := n7
  have c8 := n8
  have c9 := n9
  have c10 := n10
  clear n0 n1 n2 n3 n4 n5 n6 n7 n8 n9 n10
  have FIN := @hideH _ (show a5 = RB ∧ Acc w w5 (.slice p5 a5.length d5) a5 from ⟨by rw [HRB.out, E5.out.1, E4.out.1, E3.out.1]; simp [bytesR, tailB], own_baseK A5.out.1 K1.out.size, K1.out.then A5.out.2⟩)
  skip
  go_wp2
  go_ret2
  exact ⟨_, _, rfl, FIN.out⟩
end Go.Proofs.Ytebcmcmboomgfaa

/-
  OWN WORK (by mkrec5.py). The document's records (tidemarkref09): Bytes, of a right record of one kind.
-/
namespace Go.Proofs.Ytebcmcmboomgfaa
open Go.RowKit
set_option linter.unusedVariables false
set_option linter.unusedSimpArgs false

theorem flatB_take {α : Type} (f : α → List UInt8) {l : List α} {k : Nat} {x : α} (h : l[k]? = some x) : flatB f (l.take (k + 1)) = flatB f (l.take k) ++ f x := by
  obtain ⟨hk, rfl⟩ := List.getElem?_eq_some_iff.1 h
  have hf : ∀ (a b : List α), flatB f (a ++ b) = flatB f a ++ flatB f b := by
    intro a b
    induction a with
    | nil => rfl
    | cons y r ih => simp [flatB, ih]
  rw [List.take_add_one, List.getElem?_eq_getElem hk, Option.toList_some, hf]
  simp [flatB]
set_option maxRecDepth 20000 in
set_option maxHeartbeats 12800000 in
theorem rBytes_7 (V : RV) (birth prev id page frm : Int) (before after : List UInt8) (next : Int) (rows : List RowR) (dirty : List RecR) (w : World) (h : SeeR w V (⟨7, birth, prev, id, page, frm, before, after, next, rows, dirty⟩ : Rcd)) (hR : (⟨7, birth, prev, id, page, frm, before, after, next, rows, dirty⟩ : Rcd).Right) : Calls Try.prog 25 #[(⟨7, birth, prev, id, page, frm, before, after, next, rows, dirty⟩ : Rcd).agg V] w fun e w' => ∃ u acc, e = .returned (.tuple #[u, .int .i64 0]) ∧ acc = bytesR (⟨7, birth, prev, id, page, frm, before, after, next, rows, dirty⟩ : Rcd) ∧ Acc w w' u acc := by
  obtain ⟨pb, cb, pa, ca, pr, cr, pd, cd, rfl⟩ := h.shapes
  have hr := fun (wz : World) (kz : Kept [] w wz) => rRight _ (⟨7, birth, prev, id, page, frm, before, after, next, rows, dirty⟩ : Rcd) wz (h.kept kz)
  simp only [bl_t hR] at hr
  have HSE := @hideH _ h
  have HRR := @hideH _ hR
  obtain ⟨⟨-, -⟩, q2, q3, q4, q5, q6, q7⟩ := hR
  simp [lsnOk, nextOk, rangedOk, partsOk, listsOk] at q2 q3 q4 q5 q6 q7
  have HB1 := @hideH _ (show (0 ≤ birth ∧ birth ≤ 1152921504606846976) ∧ 0 ≤ prev ∧ prev ≤ 1152921504606846976 by omega)
  have HB2 := @hideH _ (show rows.length ≤ 8 ∧ dirty.length ≤ 16 from q4.1)
  have HB3 := @hideH _ (show (∀ x ∈ rows, rowOk x) ∧ ∀ x ∈ dirty, recOk x from ⟨q4.2.1.1, q4.2.2.1⟩)
  clear h q2 q3 q4 q5 q6 q7
  unfold Rcd.agg at hr ⊢
  dsimp only at hr ⊢
  obtain ⟨RB, hRB⟩ : ∃ RB, RB = bytesR (⟨7, birth, prev, id, page, frm, before, after, next, rows, dirty⟩ : Rcd) := ⟨_, rfl⟩
  rw [← hRB]
  have HRB := @hideH _ hRB
  clear hRB
  obtain ⟨nb, hnb⟩ : ∃ nb, nb = before.length := ⟨_, rfl⟩
  obtain ⟨na, hna⟩ : ∃ na, na = after.length := ⟨_, rfl⟩
  obtain ⟨nr, hnr⟩ : ∃ nr, nr = rows.length := ⟨_, rfl⟩
  obtain ⟨nd, hnd⟩ : ∃ nd, nd = dirty.length := ⟨_, rfl⟩
  simp only [← hnb, ← hna, ← hnr, ← hnd] at hr ⊢
  have HNB := @hideH _ hnb
  have HNA := @hideH _ hna
  have HNR := @hideH _ hnr
  have HND := @hideH _ hnd
  clear hnb hna hnr hnd
  obtain ⟨w1, hw1⟩ : ∃ w1, w1 = w.alloc (.cells #[.int .i64 7, .int .i64 birth, .int .i64 prev, .int .i64 id, .int .i64 page, .int .i64 frm, .slice pb nb cb, .slice pa na ca, .int .i64 next, .slice pr nr cr, .slice pd nd cd] 26) := ⟨_, rfl⟩
  have k1 : Kept [] w w1 := by rw [hw1]; exact (Kept.refl [] w).alloc _
  have bR : Blk w1 w.heap.size 26 [.int .i64 7, .int .i64 birth, .int .i64 prev, .int .i64 id, .int .i64 page, .int .i64 frm, .slice pb nb cb, .slice pa na ca, .int .i64 next, .slice pr nr cr, .slice pd nd cd] := by rw [hw1]; exact Blk.new w _ _
  have K1 := @hideH _ k1
  have HBR := @hideH _ bR
  have c0 := bR.cell (j := 0) rfl
  have c1 := bR.cell (j := 1) rfl
  have c2 := bR.cell (j := 2) rfl
  have c3 := bR.cell (j := 3) rfl
  have c4 := bR.cell (j := 4) rfl
  have c5 := bR.cell (j := 5) rfl
  have c6 := bR.cell (j := 6) rfl
  have c7 := bR.cell (j := 7) rfl
  have c8 := bR.cell (j := 8) rfl
  have c9 := bR.cell (j := 9) rfl
  have c10 := bR.cell (j := 10) rfl
  clear bR k1
  go_enter Try.func25, Try.ntmps25
  go_upto_region 1 with fail
  rw [← hw1]
  clear hw1
  go_wp2_with fail
  refine (hr _ K1.out).mono ?_
  clear hr
  rintro e w2 ⟨rfl, k2⟩
  have A2 := @hideH _ (Acc.nil k2)
  replace c0 := k2.cell c0 (by simp)
  replace c1 := k2.cell c1 (by simp)
  replace c2 := k2.cell c2 (by simp)
  replace c3 := k2.cell c3 (by simp)
  replace c4 := k2.cell c4 (by simp)
  replace c5 := k2.cell c5 (by simp)
  replace c6 := k2.cell c6 (by simp)
  replace c7 := k2.cell c7 (by simp)
  replace c8 := k2.cell c8 (by simp)
  replace c9 := k2.cell c9 (by simp)
  replace c10 := k2.cell c10 (by simp)
  clear k2
  have L2 := @hideH _ (show ([] : List UInt8).length ≤ 0 from Nat.le_refl _)
  have hq := A2.out.put 7 1 (by omega) (by omega) (by omega) (Nat.le_trans L2.out (by decide))
  go_wp2_with fail
  refine hq.mono ?_
  clear hq
  rintro e w3 ⟨u3, a3, rfl, E3, R3⟩
  obtain ⟨p3, d3, rfl⟩ := own_shape2 R3.1
  have A3 := @hideH _ R3
  have L3 := @hideH _ (show a3.length ≤ 1 by rw [E3.out.2]; exact Nat.add_le_add_right L2.out 1)
  have kz := R3.2
  have n0 := (HBR.out.kept kz (by simp)).cell (j := 0) rfl
  have n1 := (HBR.out.kept kz (by simp)).cell (j := 1) rfl
  have n2 := (HBR.out.kept kz (by simp)).cell (j := 2) rfl
  have n3 := (HBR.out.kept kz (by simp)).cell (j := 3) rfl
  have n4 := (HBR.out.kept kz (by simp)).cell (j := 4) rfl
  have n5 := (HBR.out.kept kz (by simp)).cell (j := 5) rfl
  have n6 := (HBR.out.kept kz (by simp)).cell (j := 6) rfl
  have n7 := (HBR.out.kept kz (by simp)).cell (j := 7) rfl
  have n8 := (HBR.out.kept kz (by simp)).cell (j := 8) rfl
  have n9 := (HBR.out.kept kz (by simp)).cell (j := 9) rfl
  have n10 := (HBR.out.kept kz (by simp)).cell (j := 10) rfl
  clear kz R3 A2 c0 c1 c2 c3 c4 c5 c6 c7 c8 c9 c10
  have c0 := n0
  have c1 := n1
  have c2 := n2
  have c3 := n3
  have c4 := n4
  have c5 := n5
  have c6 := n6
  have c7 := n7
  have c8 := n8
  have c9 := n9
  have c10 := n10
  clear n0 n1 n2 n3 n4 n5 n6 n7 n8 n9 n10
  have hq := A3.out.put birth 8 HB1.out.1.1 HB1.out.1.2 (by omega) (Nat.le_trans L3.out (by decide))
  go_wp2_with fail
  refine hq.mono ?_
  clear hq
  rintro e w4 ⟨u4, a4, rfl, E4, R4⟩
  obtain ⟨p4, d4, rfl⟩ := own_shape2 R4.1
  have A4 := @hideH _ R4
  have L4 := @hideH _ (show a4.length ≤ 9 by rw [E4.out.2]; exact Nat.add_le_add_right L3.out 8)
  have kz := R4.2
  have n0 := (HBR.out.kept kz (by simp)).cell (j := 0) rfl
  have n1 := (HBR.out.kept kz (by simp)).cell (j := 1) rfl
  have n2 := (HBR.out.kept kz (by simp)).cell (j := 2) rfl
  have n3 := (HBR.out.kept kz (by simp)).cell (j := 3) rfl
  have n4 := (HBR.out.kept kz (by simp)).cell (j := 4) rfl
  have n5 := (HBR.out.kept kz (by simp)).cell (j := 5) rfl
  have n6 := (HBR.out.kept kz (by simp)).cell (j := 6) rfl
  have n7 := (HBR.out.kept kz (by simp)).cell (j := 7) rfl
  have n8 := (HBR.out.kept kz (by simp)).cell (j := 8) rfl
  have n9 := (HBR.out.kept kz (by simp)).cell (j := 9) rfl
  have n10 := (HBR.out.kept kz (by simp)).cell (j := 10) rfl
  clear kz R4 A3 c0 c1 c2 c3 c4 c5 c6 c7 c8 c9 c10
  have c0 := n0
  have c1 := n1
  have c2 := n2
  have c3 := n3
  have c4 := n4
  have c5 := n5
  have c6 := n6
  have c7 := n7
  have c8 := n8
  have c9 := n9
  have c10 := n10
  clear n0 n1 n2 n3 n4 n5 n6 n7 n8 n9 n10
  have hq := A4.out.put prev 8 HB1.out.2.1 HB1.out.2.2 (by omega) (Nat.le_trans L4.out (by decide))
  go_wp2_with fail
  refine hq.mono ?_
  clear hq
  rintro e w5 ⟨u5, a5, rfl, E5, R5⟩
  obtain ⟨p5, d5, rfl⟩ := own_shape2 R5.1
  have A5 := @hideH _ R5
  have L5 := @hideH _ (show a5.length ≤ 17 by rw [E5.out.2]; exact Nat.add_le_add_right L4.out 8)
  have kz := R5.2
  have n0 := (HBR.out.kept kz (by simp)).cell (j := 0) rfl
  have n1 := (HBR.out.kept kz (by simp)).cell (j := 1) rfl
  have n2 := (HBR.out.kept kz (by simp)).cell (j := 2) rfl
  have n3 := (HBR.out.kept kz (by simp)).cell (j := 3) rfl
  have n4 := (HBR.out.kept kz (by simp)).cell (j := 4) rfl
  have n5 := (HBR.out.kept kz (by simp)).cell (j := 5) rfl
  have n6 := (HBR.out.kept kz (by simp)).cell (j := 6) rfl
  have n7 := (HBR.out.kept kz (by simp)).cell (j := 7) rfl
  have n8 := (HBR.out.kept kz (by simp)).cell (j := 8) rfl
  have n9 := (HBR.out.kept kz (by simp)).cell (j := 9) rfl
  have n10 := (HBR.out.kept kz (by simp)).cell (j := 10) rfl
  clear kz R5 A4 c0 c1 c2 c3 c4 c5 c6 c7 c8 c9 c10
  have c0 := n0
  have c1 := n1
  have c2 := n2
  have c3 := n3
  have c4 := n4
  have c5 := n5
  have c6 := n6
  have c7 := n7
  have c8 := n8
  have c9 := n9
  have c10 := n10
  clear n0 n1 n2 n3 n4 n5 n6 n7 n8 n9 n10
  have hq := A5.out.put (nr : Int) 1 (by omega) (by have l1 := HB2.out.1; have l2 := HNR.out; omega) (by omega) (Nat.le_trans L5.out (by decide))
  go_wp2_with fail
  refine hq.mono ?_
  clear hq
  rintro e w6 ⟨u6, a6, rfl, E6, R6⟩
  obtain ⟨p6, d6, rfl⟩ := own_shape2 R6.1
  have A6 := @hideH _ R6
  have L6 := @hideH _ (show a6.length ≤ 18 by rw [E6.out.2]; exact Nat.add_le_add_right L5.out 1)
  have kz := R6.2
  have n0 := (HBR.out.kept kz (by simp)).cell (j := 0) rfl
  have n1 := (HBR.out.kept kz (by simp)).cell (j := 1) rfl
  have n2 := (HBR.out.kept kz (by simp)).cell (j := 2) rfl
  have n3 := (HBR.out.kept kz (by simp)).cell (j := 3) rfl
  have n4 := (HBR.out.kept kz (by simp)).cell (j := 4) rfl
  have n5 := (HBR.out.kept kz (by simp)).cell (j := 5) rfl
  have n6 := (HBR.out.kept kz (by simp)).cell (j := 6) rfl
  have n7 := (HBR.out.kept kz (by simp)).cell (j := 7) rfl
  have n8 := (HBR.out.kept kz (by simp)).cell (j := 8) rfl
  have n9 := (HBR.out.kept kz (by simp)).cell (j := 9) rfl
  have n10 := (HBR.out.kept kz (by simp)).cell (j := 10) rfl
  clear kz R6 A5 c0 c1 c2 c3 c4 c5 c6 c7 c8 c9 c10
  have c0 := n0
  have c1 := n1
  have c2 := n2
  have c3 := n3
  have c4 := n4
  have c5 := n5
  have c6 := n6
  have c7 := n7
  have c8 := n8
  have c9 := n9
  have c10 := n10
  clear n0 n1 n2 n3 n4 n5 n6 n7 n8 n9 n10
  have EB := @hideH _ (show a6 = putN 1 (7 : Int).toNat ++ (putN 8 birth.toNat ++ (putN 8 prev.toNat ++ putN 1 nr)) by rw [E6.out.1, E5.out.1, E4.out.1, E3.out.1]; simp)
  have HNR8 := @hideH _ (show nr ≤ 8 by rw [HNR.out]; exact HB2.out.1)
  have HND16 := @hideH _ (show nd ≤ 16 by rw [HND.out]; exact HB2.out.2)
  clear E3 E4 E5 E6
  go_wp2
  go_loopw [4, 5] (fun vb vi wr => ∃ (k : Nat) (acc : List UInt8), k ≤ nr ∧ vi = .int .i64 k ∧ Hid (acc = a6 ++ flatB rowB (rows.take k) ∧ acc.length ≤ 20 + k * 26 ∧ Acc w1 wr vb acc)) (fun _ vi _ => nr - (intOf vi).toNat)
  case atStart => exact ⟨0, a6, Nat.zero_le _, rfl, by simp [flatB], Nat.le_trans L6.out (by decide), A6.out⟩
  case round =>
    clear A6 L6 c0 c1 c2 c3 c4 c5 c6 c7 c8 c9 c10
    obtain ⟨k, acc, hk, rfl, hh⟩ := hrel
    have c0 := (HBR.out.kept hh.out.2.2.2 (by simp)).cell (j := 0) rfl
    have c1 := (HBR.out.kept hh.out.2.2.2 (by simp)).cell (j := 1) rfl
    have c2 := (HBR.out.kept hh.out.2.2.2 (by simp)).cell (j := 2) rfl
    have c3 := (HBR.out.kept hh.out.2.2.2 (by simp)).cell (j := 3) rfl
    have c4 := (HBR.out.kept hh.out.2.2.2 (by simp)).cell (j := 4) rfl
    have c5 := (HBR.out.kept hh.out.2.2.2 (by simp)).cell (j := 5) rfl
    have c6 := (HBR.out.kept hh.out.2.2.2 (by simp)).cell (j := 6) rfl
    have c7 := (HBR.out.kept hh.out.2.2.2 (by simp)).cell (j := 7) rfl
    have c8 := (HBR.out.kept hh.out.2.2.2 (by simp)).cell (j := 8) rfl
    have c9 := (HBR.out.kept hh.out.2.2.2 (by simp)).cell (j := 9) rfl
    have c10 := (HBR.out.kept hh.out.2.2.2 (by simp)).cell (j := 10) rfl
    obtain ⟨pv, cv, rfl⟩ := own_shape2 hh.out.2.2.1
    by_cases hkl : k < nr
    · have hkl' : (k : Int) < (nr : Int) := by omega
      have hk0 : (0 : Int) ≤ (k : Int) := by omega
      have wk : IntKind.i64.wrap ((k : Int) + 1) = (k : Int) + 1 := wrap_i64_of (by omega) (by have := HNR8.out; omega)
      obtain ⟨x, hx⟩ : ∃ x, rows[k]? = some x := ⟨_, List.getElem?_eq_getElem (by rw [← HNR.out]; exact hkl)⟩
      obtain ⟨br, orr, cr', er, hcx⟩ := (show Cs w1 5 (.slice pr nr cr) rows.length (rcells rows) from (by have := (HSE.out.kept K1.out).rows; dsimp only at this; rw [← HNR.out] at this ⊢; exact this)).rowAt (by rw [← HNR.out]; omega)
      obtain rfl : pr = some ⟨br, orr, none⟩ := by simp at er; exact er.1
      have HX := @hideH _ (hcx k x hx)
      have HXX := @hideH _ hx
      have HRO := @hideH _ (HB3.out.1 x (List.mem_of_getElem? hx))
      have A20 := @hideH _ hh.out.2.2
      have L20 := @hideH _ (show acc.length ≤ 228 from Nat.le_trans hh.out.2.1 (by have := HNR8.out; omega))
      have HH := hh
      clear hh er hcx hx
      have x0 := A20.out.2.cell HX.out.1 (by simp)
      have x1 := A20.out.2.cell HX.out.2.1 (by simp)
      have x2 := A20.out.2.cell HX.out.2.2.1 (by simp)
      have x3 := A20.out.2.cell HX.out.2.2.2.1 (by simp)
      have x4 := A20.out.2.cell HX.out.2.2.2.2 (by simp)
      have hq := A20.out.put x.birth 8 (by have := HRO.out.1.1; omega) HRO.out.1.2 (by omega) (Nat.le_trans L20.out (by decide))
      go_wp2_with fail
      refine hq.mono ?_
      clear hq
      rintro e w21 ⟨u21, a21, rfl, E21, R21⟩
      obtain ⟨p21, d21, rfl⟩ := own_shape2 R21.1
      have A21 := @hideH _ R21
      have L21 := @hideH _ (show a21.length ≤ 236 by rw [E21.out.2]; exact Nat.add_le_add_right L20.out 8)
      have kz := R21.2
      clear c0 c1 c2 c3 c4 c5 c6 c7 c8 c9 c10 x0 x1 x2 x3 x4
      have c0 := (HBR.out.kept kz (by simp)).cell (j := 0) rfl
      have c1 := (HBR.out.kept kz (by simp)).cell (j := 1) rfl
      have c2 := (HBR.out.kept kz (by simp)).cell (j := 2) rfl
      have c3 := (HBR.out.kept kz (by simp)).cell (j := 3) rfl
      have c4 := (HBR.out.kept kz (by simp)).cell (j := 4) rfl
      have c5 := (HBR.out.kept kz (by simp)).cell (j := 5) rfl
      have c6 := (HBR.out.kept kz (by simp)).cell (j := 6) rfl
      have c7 := (HBR.out.kept kz (by simp)).cell (j := 7) rfl
      have c8 := (HBR.out.kept kz (by simp)).cell (j := 8) rfl
      have c9 := (HBR.out.kept kz (by simp)).cell (j := 9) rfl
      have c10 := (HBR.out.kept kz (by simp)).cell (j := 10) rfl
      clear kz R21
      have x0 := A21.out.2.cell HX.out.1 (by simp)
      have x1 := A21.out.2.cell HX.out.2.1 (by simp)
      have x2 := A21.out.2.cell HX.out.2.2.1 (by simp)
      have x3 := A21.out.2.cell HX.out.2.2.2.1 (by simp)
      have x4 := A21.out.2.cell HX.out.2.2.2.2 (by simp)
      have hq := A21.out.put x.id 1 (by have := HRO.out.2.1; omega) (by have := HRO.out.2.1; omega) (by omega) (Nat.le_trans L21.out (by decide))
      go_wp2_with fail
      refine hq.mono ?_
      clear hq
      rintro e w22 ⟨u22, a22, rfl, E22, R22⟩
      obtain ⟨p22, d22, rfl⟩ := own_shape2 R22.1
      have A22 := @hideH _ R22
      have L22 := @hideH _ (show a22.length ≤ 237 by rw [E22.out.2]; exact Nat.add_le_add_right L21.out 1)
      have kz := R22.2
      clear c0 c1 c2 c3 c4 c5 c6 c7 c8 c9 c10 x0 x1 x2 x3 x4
      have c0 := (HBR.out.kept kz (by simp)).cell (j := 0) rfl
      have c1 := (HBR.out.kept kz (by simp)).cell (j := 1) rfl
      have c2 := (HBR.out.kept kz (by simp)).cell (j := 2) rfl
      have c3 := (HBR.out.kept kz (by simp)).cell (j := 3) rfl
      have c4 := (HBR.out.kept kz (by simp)).cell (j := 4) rfl
      have c5 := (HBR.out.kept kz (by simp)).cell (j := 5) rfl
      have c6 := (HBR.out.kept kz (by simp)).cell (j := 6) rfl
      have c7 := (HBR.out.kept kz (by simp)).cell (j := 7) rfl
      have c8 := (HBR.out.kept kz (by simp)).cell (j := 8) rfl
      have c9 := (HBR.out.kept kz (by simp)).cell (j := 9) rfl
      have c10 := (HBR.out.kept kz (by simp)).cell (j := 10) rfl
      clear kz R22
      have x0 := A22.out.2.cell HX.out.1 (by simp)
      have x1 := A22.out.2.cell HX.out.2.1 (by simp)
      have x2 := A22.out.2.cell HX.out.2.2.1 (by simp)
      have x3 := A22.out.2.cell HX.out.2.2.2.1 (by simp)
      have x4 := A22.out.2.cell HX.out.2.2.2.2 (by simp)
      have hq := A22.out.put x.state 1 (by rcases HRO.out.2.2.1 with e | e <;> rw [e] <;> decide) (by rcases HRO.out.2.2.1 with e | e <;> rw [e] <;> decide) (by omega) (Nat.le_trans L22.out (by decide))
      go_wp2_with fail
      refine hq.mono ?_
      clear hq
      rintro e w23 ⟨u23, a23, rfl, E23, R23⟩
      obtain ⟨p23, d23, rfl⟩ := own_shape2 R23.1
      have A23 := @hideH _ R23
      have L23 := @hideH _ (show a23.length ≤ 238 by rw [E23.out.2]; exact Nat.add_le_add_right L22.out 1)
      have kz := R23.2
      clear c0 c1 c2 c3 c4 c5 c6 c7 c8 c9 c10 x0 x1 x2 x3 x4
      have c0 := (HBR.out.kept kz (by simp)).cell (j := 0) rfl
      have c1 := (HBR.out.kept kz (by simp)).cell (j := 1) rfl
      have c2 := (HBR.out.kept kz (by simp)).cell (j := 2) rfl
      have c3 := (HBR.out.kept kz (by simp)).cell (j := 3) rfl
      have c4 := (HBR.out.kept kz (by simp)).cell (j := 4) rfl
      have c5 := (HBR.out.kept kz (by simp)).cell (j := 5) rfl
      have c6 := (HBR.out.kept kz (by simp)).cell (j := 6) rfl
      have c7 := (HBR.out.kept kz (by simp)).cell (j := 7) rfl
      have c8 := (HBR.out.kept kz (by simp)).cell (j := 8) rfl
      have c9 := (HBR.out.kept kz (by simp)).cell (j := 9) rfl
      have c10 := (HBR.out.kept kz (by simp)).cell (j := 10) rfl
      clear kz R23
      have x0 := A23.out.2.cell HX.out.1 (by simp)
      have x1 := A23.out.2.cell HX.out.2.1 (by simp)
      have x2 := A23.out.2.cell HX.out.2.2.1 (by simp)
      have x3 := A23.out.2.cell HX.out.2.2.2.1 (by simp)
      have x4 := A23.out.2.cell HX.out.2.2.2.2 (by simp)
      have hq := A23.out.put x.last 8 (by have := HRO.out.2.2.2.1.1; omega) HRO.out.2.2.2.1.2 (by omega) (Nat.le_trans L23.out (by decide))
      go_wp2_with fail
      refine hq.mono ?_
      clear hq
      rintro e w24 ⟨u24, a24, rfl, E24, R24⟩
      obtain ⟨p24, d24, rfl⟩ := own_shape2 R24.1
      have A24 := @hideH _ R24
      have L24 := @hideH _ (show a24.length ≤ 246 by rw [E24.out.2]; exact Nat.add_le_add_right L23.out 8)
      have kz := R24.2
      clear c0 c1 c2 c3 c4 c5 c6 c7 c8 c9 c10 x0 x1 x2 x3 x4
      have c0 := (HBR.out.kept kz (by simp)).cell (j := 0) rfl
      have c1 := (HBR.out.kept kz (by simp)).cell (j := 1) rfl
      have c2 := (HBR.out.kept kz (by simp)).cell (j := 2) rfl
      have c3 := (HBR.out.kept kz (by simp)).cell (j := 3) rfl
      have c4 := (HBR.out.kept kz (by simp)).cell (j := 4) rfl
      have c5 := (HBR.out.kept kz (by simp)).cell (j := 5) rfl
      have c6 := (HBR.out.kept kz (by simp)).cell (j := 6) rfl
      have c7 := (HBR.out.kept kz (by simp)).cell (j := 7) rfl
      have c8 := (HBR.out.kept kz (by simp)).cell (j := 8) rfl
      have c9 := (HBR.out.kept kz (by simp)).cell (j := 9) rfl
      have c10 := (HBR.out.kept kz (by simp)).cell (j := 10) rfl
      clear kz R24
      have x0 := A24.out.2.cell HX.out.1 (by simp)
      have x1 := A24.out.2.cell HX.out.2.1 (by simp)
      have x2 := A24.out.2.cell HX.out.2.2.1 (by simp)
      have x3 := A24.out.2.cell HX.out.2.2.2.1 (by simp)
      have x4 := A24.out.2.cell HX.out.2.2.2.2 (by simp)
      have hq := A24.out.put x.next 8 HRO.out.2.2.2.2.1 HRO.out.2.2.2.2.2 (by omega) (Nat.le_trans L24.out (by decide))
      go_wp2_with fail
      refine hq.mono ?_
      clear hq
      rintro e w25 ⟨u25, a25, rfl, E25, R25⟩
      obtain ⟨p25, d25, rfl⟩ := own_shape2 R25.1
      have A25 := @hideH _ R25
      have L25 := @hideH _ (show a25.length ≤ 254 by rw [E25.out.2]; exact Nat.add_le_add_right L24.out 8)
      have kz := R25.2
      clear c0 c1 c2 c3 c4 c5 c6 c7 c8 c9 c10 x0 x1 x2 x3 x4
      have c0 := (HBR.out.kept kz (by simp)).cell (j := 0) rfl
      have c1 := (HBR.out.kept kz (by simp)).cell (j := 1) rfl
      have c2 := (HBR.out.kept kz (by simp)).cell (j := 2) rfl
      have c3 := (HBR.out.kept kz (by simp)).cell (j := 3) rfl
      have c4 := (HBR.out.kept kz (by simp)).cell (j := 4) rfl
      have c5 := (HBR.out.kept kz (by simp)).cell (j := 5) rfl
      have c6 := (HBR.out.kept kz (by simp)).cell (j := 6) rfl
      have c7 := (HBR.out.kept kz (by simp)).cell (j := 7) rfl
      have c8 := (HBR.out.kept kz (by simp)).cell (j := 8) rfl
      have c9 := (HBR.out.kept kz (by simp)).cell (j := 9) rfl
      have c10 := (HBR.out.kept kz (by simp)).cell (j := 10) rfl
      clear kz R25
      have REL := @hideH _ (show a25 = a6 ++ flatB rowB (rows.take (k + 1)) ∧ a25.length ≤ 20 + (k + 1) * 26 ∧ Acc w1 w25 (.slice p25 a25.length d25) a25 from ⟨by rw [flatB_take rowB HXX.out, E25.out.1, E24.out.1, E23.out.1, E22.out.1, E21.out.1, HH.out.1]; simp [rowB], by have g0 := HH.out.2.1; have g_E21 := E21.out.2; have g_E22 := E22.out.2; have g_E23 := E23.out.2; have g_E24 := E24.out.2; have g_E25 := E25.out.2; omega, A25.out⟩)
      clear HH E21 E22 E23 E24 E25 A20 L20 A21 L21 A22 L22 A23 L23 A24 L24 A25 L25
      go_wp2
      go_roundw
      case rel => exact ⟨k + 1, a25, by omega, by go_num, REL⟩
      case measure => simp [intOf]; omega
    · have hkl' : ¬ (k : Int) < (nr : Int) := by omega
      have hke : k = rows.length := by have := HNR.out; omega
      have EC := @hideH _ (show acc = a6 ++ flatB rowB rows by have e1 := hh.out.1; rw [hke, List.take_length] at e1; exact e1)
      have LC := @hideH _ (show acc.length ≤ 228 from Nat.le_trans hh.out.2.1 (by have := HNR8.out; omega))
      have A40 := @hideH _ hh.out.2.2
      have L40 := LC
      obtain ⟨wo, rfl⟩ : ∃ wo, wo = wr := ⟨_, rfl⟩
      clear hh hke
      have hq := A40.out.put (nd : Int) 1 (by omega) (by have := HND16.out; omega) (by omega) (Nat.le_trans L40.out (by decide))
      go_wp2_with fail
      refine hq.mono ?_
      clear hq
      rintro e w41 ⟨u41, a41, rfl, E41, R41⟩
      obtain ⟨p41, d41, rfl⟩ := own_shape2 R41.1
      have A41 := @hideH _ R41
      have L41 := @hideH _ (show a41.length ≤ 229 by rw [E41.out.2]; exact Nat.add_le_add_right L40.out 1)
      have kz := R41.2
      clear c0 c1 c2 c3 c4 c5 c6 c7 c8 c9 c10 
      have c0 := (HBR.out.kept kz (by simp)).cell (j := 0) rfl
      have c1 := (HBR.out.kept kz (by simp)).cell (j := 1) rfl
      have c2 := (HBR.out.kept kz (by simp)).cell (j := 2) rfl
      have c3 := (HBR.out.kept kz (by simp)).cell (j := 3) rfl
      have c4 := (HBR.out.kept kz (by simp)).cell (j := 4) rfl
      have c5 := (HBR.out.kept kz (by simp)).cell (j := 5) rfl
      have c6 := (HBR.out.kept kz (by simp)).cell (j := 6) rfl
      have c7 := (HBR.out.kept kz (by simp)).cell (j := 7) rfl
      have c8 := (HBR.out.kept kz (by simp)).cell (j := 8) rfl
      have c9 := (HBR.out.kept kz (by simp)).cell (j := 9) rfl
      have c10 := (HBR.out.kept kz (by simp)).cell (j := 10) rfl
      clear kz R41
      have ED := @hideH _ (show a41 = acc ++ putN 1 nd by rw [E41.out.1]; simp)
      have L41b := L41
      clear E41 L40 A40
      go_wp2
      go_loopw [4, 6] (fun vb vi wr => ∃ (q : Nat) (acd : List UInt8), q ≤ nd ∧ vi = .int .i64 q ∧ Hid (acd = a41 ++ flatB recB (dirty.take q) ∧ acd.length ≤ 229 + q * 9 ∧ Acc w1 wr vb acd)) (fun _ vi _ => nd - (intOf vi).toNat)
      case atStart => exact ⟨0, a41, Nat.zero_le _, rfl, by simp [flatB], Nat.le_trans L41.out (by decide), A41.out⟩
      case round =>
        clear A41 L41 L41b c0 c1 c2 c3 c4 c5 c6 c7 c8 c9 c10
        obtain ⟨q, acd, hq, rfl, hh⟩ := hrel
        have c0 := (HBR.out.kept hh.out.2.2.2 (by simp)).cell (j := 0) rfl
        have c1 := (HBR.out.kept hh.out.2.2.2 (by simp)).cell (j := 1) rfl
        have c2 := (HBR.out.kept hh.out.2.2.2 (by simp)).cell (j := 2) rfl
        have c3 := (HBR.out.kept hh.out.2.2.2 (by simp)).cell (j := 3) rfl
        have c4 := (HBR.out.kept hh.out.2.2.2 (by simp)).cell (j := 4) rfl
        have c5 := (HBR.out.kept hh.out.2.2.2 (by simp)).cell (j := 5) rfl
        have c6 := (HBR.out.kept hh.out.2.2.2 (by simp)).cell (j := 6) rfl
        have c7 := (HBR.out.kept hh.out.2.2.2 (by simp)).cell (j := 7) rfl
        have c8 := (HBR.out.kept hh.out.2.2.2 (by simp)).cell (j := 8) rfl
        have c9 := (HBR.out.kept hh.out.2.2.2 (by simp)).cell (j := 9) rfl
        have c10 := (HBR.out.kept hh.out.2.2.2 (by simp)).cell (j := 10) rfl
        obtain ⟨pw, cw, rfl⟩ := own_shape2 hh.out.2.2.1
        by_cases hql : q < nd
        · have hql' : (q : Int) < (nd : Int) := by omega
          have hq0 : (0 : Int) ≤ (q : Int) := by omega
          have wq : IntKind.i64.wrap ((q : Int) + 1) = (q : Int) + 1 := wrap_i64_of (by omega) (by have := HND16.out; omega)
          obtain ⟨y, hy⟩ : ∃ y, dirty[q]? = some y := ⟨_, List.getElem?_eq_getElem (by rw [← HND.out]; exact hql)⟩
          obtain ⟨bd, od, cd', ed, hcx⟩ := (show Cs w1 2 (.slice pd nd cd) dirty.length (dcells dirty) from (by have := (HSE.out.kept K1.out).dirty; dsimp only at this; rw [← HND.out] at this ⊢; exact this)).recAt (by rw [← HND.out]; omega)
          obtain rfl : pd = some ⟨bd, od, none⟩ := by simp at ed; exact ed.1
          have HY := @hideH _ (hcx q y hy)
          have HYY := @hideH _ hy
          have HRO := @hideH _ (HB3.out.2 y (List.mem_of_getElem? hy))
          have A60 := @hideH _ hh.out.2.2
          have L60 := @hideH _ (show acd.length ≤ 373 from Nat.le_trans hh.out.2.1 (by have := HND16.out; omega))
          have HH := hh
          clear hh ed hcx hy
          have x0 := A60.out.2.cell HY.out.1 (by simp)
          have x1 := A60.out.2.cell HY.out.2 (by simp)
          have hq := A60.out.put y.page 1 HRO.out.1.1 (by have := HRO.out.1.2; omega) (by omega) (Nat.le_trans L60.out (by decide))
          go_wp2_with fail
          refine hq.mono ?_
          clear hq
          rintro e w61 ⟨u61, a61, rfl, E61, R61⟩
          obtain ⟨p61, d61, rfl⟩ := own_shape2 R61.1
          have A61 := @hideH _ R61
          have L61 := @hideH _ (show a61.length ≤ 374 by rw [E61.out.2]; exact Nat.add_le_add_right L60.out 1)
          have kz := R61.2
          clear c0 c1 c2 c3 c4 c5 c6 c7 c8 c9 c10 x0 x1
          have c0 := (HBR.out.kept kz (by simp)).cell (j := 0) rfl
          have c1 := (HBR.out.kept kz (by simp)).cell (j := 1) rfl
          have c2 := (HBR.out.kept kz (by simp)).cell (j := 2) rfl
          have c3 := (HBR.out.kept kz (by simp)).cell (j := 3) rfl
          have c4 := (HBR.out.kept kz (by simp)).cell (j := 4) rfl
          have c5 := (HBR.out.kept kz (by simp)).cell (j := 5) rfl
          have c6 := (HBR.out.kept kz (by simp)).cell (j := 6) rfl
          have c7 := (HBR.out.kept kz (by simp)).cell (j := 7) rfl
          have c8 := (HBR.out.kept kz (by simp)).cell (j := 8) rfl
          have c9 := (HBR.out.kept kz (by simp)).cell (j := 9) rfl
          have c10 := (HBR.out.kept kz (by simp)).cell (j := 10) rfl
          clear kz R61
          have x0 := A61.out.2.cell HY.out.1 (by simp)
          have x1 := A61.out.2.cell HY.out.2 (by simp)
          have hq := A61.out.put y.lsn 8 (by have := HRO.out.2.1; omega) HRO.out.2.2 (by omega) (Nat.le_trans L61.out (by decide))
          go_wp2_with fail
          refine hq.mono ?_
          clear hq
          rintro e w62 ⟨u62, a62, rfl, E62, R62⟩
          obtain ⟨p62, d62, rfl⟩ := own_shape2 R62.1
          have A62 := @hideH _ R62
          have L62 := @hideH _ (show a62.length ≤ 382 by rw [E62.out.2]; exact Nat.add_le_add_right L61.out 8)
          have kz := R62.2
          clear c0 c1 c2 c3 c4 c5 c6 c7 c8 c9 c10 x0 x1
          have c0 := (HBR.out.kept kz (by simp)).cell (j := 0) rfl
          have c1 := (HBR.out.kept kz (by simp)).cell (j := 1) rfl
          have c2 := (HBR.out.kept kz (by simp)).cell (j := 2) rfl
          have c3 := (HBR.out.kept kz (by simp)).cell (j := 3) rfl
          have c4 := (HBR.out.kept kz (by simp)).cell (j := 4) rfl
          have c5 := (HBR.out.kept kz (by simp)).cell (j := 5) rfl
          have c6 := (HBR.out.kept kz (by simp)).cell (j := 6) rfl
          have c7 := (HBR.out.kept kz (by simp)).cell (j := 7) rfl
          have c8 := (HBR.out.kept kz (by simp)).cell (j := 8) rfl
          have c9 := (HBR.out.kept kz (by simp)).cell (j := 9) rfl
          have c10 := (HBR.out.kept kz (by simp)).cell (j := 10) rfl
          clear kz R62
          have REL := @hideH _ (show a62 = a41 ++ flatB recB (dirty.take (q + 1)) ∧ a62.length ≤ 229 + (q + 1) * 9 ∧ Acc w1 w62 (.slice p62 a62.length d62) a62 from ⟨by rw [flatB_take recB HYY.out, E62.out.1, E61.out.1, HH.out.1]; simp [recB], by have g0 := HH.out.2.1; have g_E61 := E61.out.2; have g_E62 := E62.out.2; omega, A62.out⟩)
          clear HH E61 E62 A60 L60 A61 L61 A62 L62
          go_wp2
          go_roundw
          case rel => exact ⟨q + 1, a62, by omega, by go_num, REL⟩
          case measure => simp [intOf]; omega
        · have hql' : ¬ (q : Int) < (nd : Int) := by omega
          have hqe : q = dirty.length := by have := HND.out; omega
          have FIN := @hideH _ (show acd = RB ∧ Acc w wr (.slice pw acd.length cw) acd from ⟨by have e1 := hh.out.1; rw [hqe, List.take_length] at e1; rw [e1, ED.out, EC.out, EB.out, HRB.out, HNR.out, HND.out]; simp [bytesR, tailB], own_baseK hh.out.2.2.1 K1.out.size, K1.out.then hh.out.2.2.2⟩)
          clear hh hqe
          go_wp2
          go_ret2
          obtain ⟨fe, fa⟩ := FIN.out
          subst fe
          exact ⟨_, rfl, fa⟩
end Go.Proofs.Ytebcmcmboomgfaa

/-
  OWN WORK. The document's records (tidemarkref09): Bytes and Size.
-/
namespace Go.Proofs.Ytebcmcmboomgfaa
open Go.RowKit
set_option linter.unusedVariables false
set_option linter.unusedSimpArgs false

open Classical in
/-- the bytes of a right record; none of another -/
noncomputable def bytesF (r : Rcd) : List UInt8 := if r.Right then bytesR r else []
open Classical in
noncomputable def errF (r : Rcd) : Int := if r.Right then 0 else 90
theorem bytesF_t {r : Rcd} (h : r.Right) : bytesF r = bytesR r := by unfold bytesF; exact if_pos h
theorem bytesF_f {r : Rcd} (h : ¬ r.Right) : bytesF r = [] := by unfold bytesF; exact if_neg h
theorem errF_t {r : Rcd} (h : r.Right) : errF r = 0 := by unfold errF; exact if_pos h
theorem errF_f {r : Rcd} (h : ¬ r.Right) : errF r = 90 := by unfold errF; exact if_neg h
theorem rBytes_right (V : RV) (r : Rcd) (w : World) (h : SeeR w V r) (hR : r.Right) : Calls Try.prog 25 #[r.agg V] w fun e w' => ∃ u acc, e = .returned (.tuple #[u, .int .i64 0]) ∧ acc = bytesR r ∧ Acc w w' u acc := by
  have hk := hR.1
  obtain ⟨kind, birth, prev, id, page, frm, before, after, next, rows, dirty⟩ := r
  dsimp only at hk
  have hc : kind = 1 ∨ kind = 2 ∨ kind = 3 ∨ kind = 4 ∨ kind = 5 ∨ kind = 6 ∨ kind = 7 := by omega
  rcases hc with rfl | rfl | rfl | rfl | rfl | rfl | rfl
  · exact rBytes_1 V _ _ _ _ _ _ _ _ _ _ w h hR
  · exact rBytes_2 V _ _ _ _ _ _ _ _ _ _ w h hR
  · exact rBytes_3 V _ _ _ _ _ _ _ _ _ _ w h hR
  · exact rBytes_4 V _ _ _ _ _ _ _ _ _ _ w h hR
  · exact rBytes_5 V _ _ _ _ _ _ _ _ _ _ w h hR
  · exact rBytes_6 V _ _ _ _ _ _ _ _ _ _ w h hR
  · exact rBytes_7 V _ _ _ _ _ _ _ _ _ _ w h hR
set_option maxRecDepth 20000 in
set_option maxHeartbeats 1600000 in
theorem rBytes_wrong (V : RV) (r : Rcd) (w : World) (h : SeeR w V r) (hR : ¬ r.Right) : Calls Try.prog 25 #[r.agg V] w fun e w' => e = .returned (.tuple #[.slice none 0 0, .int .i64 90]) ∧ Kept [] w w' := by
  have hr := fun (wz : World) (kz : Kept [] w wz) => rRight V r wz (h.kept kz)
  simp only [bl_f hR] at hr
  obtain ⟨pb, cb, pa, ca, pr, cr, pd, cd, rfl⟩ := h.shapes
  obtain ⟨kind, birth, prev, id, page, frm, before, after, next, rows, dirty⟩ := r
  clear h hR
  unfold Rcd.agg at hr ⊢
  dsimp only at hr ⊢
  have K1 := @hideH _ (show Kept [] w (w.alloc (.cells #[.int .i64 kind, .int .i64 birth, .int .i64 prev, .int .i64 id, .int .i64 page, .int .i64 frm, .slice pb before.length cb, .slice pa after.length ca, .int .i64 next, .slice pr rows.length cr, .slice pd dirty.length cd] 26)) from (Kept.refl [] w).alloc _)
  go_enter Try.func25, Try.ntmps25
  go_wp2_with fail
  refine (hr _ K1.out).mono ?_
  clear hr
  rintro e w2 ⟨rfl, k2⟩
  have KF := @hideH _ (K1.out.then k2)
  clear k2 K1
  go_wp2
  go_ret2
  exact ⟨rfl, KF.out⟩
theorem rBytes (V : RV) (r : Rcd) (w : World) (h : SeeR w V r) : Calls Try.prog 25 #[r.agg V] w fun e w' => ∃ u, e = .returned (.tuple #[u, .int .i64 (errF r)]) ∧ Acc w w' u (bytesF r) := by
  by_cases hR : r.Right
  · refine (rBytes_right V r w h hR).mono ?_
    rintro e w' ⟨u, acc, rfl, rfl, ha⟩
    rw [errF_t hR, bytesF_t hR]
    exact ⟨u, rfl, ha⟩
  · refine (rBytes_wrong V r w h hR).mono ?_
    rintro e w' ⟨rfl, k⟩
    rw [errF_f hR, bytesF_f hR]
    exact ⟨_, rfl, Acc.nil k⟩
set_option maxRecDepth 20000 in
set_option maxHeartbeats 1600000 in
theorem rSize (V : RV) (r : Rcd) (w : World) (h : SeeR w V r) : Calls Try.prog 26 #[r.agg V] w fun e w' => e = .returned (.int .i64 ((bytesF r).length : Int)) ∧ Kept [] w w' := by
  have hr := fun (wz : World) (kz : Kept [] w wz) => rBytes V r wz (h.kept kz)
  obtain ⟨N, hN⟩ : ∃ N, N = bytesF r := ⟨_, rfl⟩
  obtain ⟨E, hE⟩ : ∃ E, E = errF r := ⟨_, rfl⟩
  simp only [← hN, ← hE] at hr ⊢
  clear hN hE
  obtain ⟨pb, cb, pa, ca, pr, cr, pd, cd, rfl⟩ := h.shapes
  obtain ⟨kind, birth, prev, id, page, frm, before, after, next, rows, dirty⟩ := r
  clear h
  unfold Rcd.agg at hr ⊢
  dsimp only at hr ⊢
  have K1 := @hideH _ (show Kept [] w (w.alloc (.cells #[.int .i64 kind, .int .i64 birth, .int .i64 prev, .int .i64 id, .int .i64 page, .int .i64 frm, .slice pb before.length cb, .slice pa after.length ca, .int .i64 next, .slice pr rows.length cr, .slice pd dirty.length cd] 26)) from (Kept.refl [] w).alloc _)
  go_enter Try.func26, Try.ntmps26
  go_wp2_with fail
  refine (hr _ K1.out).mono ?_
  clear hr
  rintro e w2 ⟨u, rfl, ha⟩
  obtain ⟨pu, cu, rfl⟩ := own_shape2 ha.1
  have KF := @hideH _ (K1.out.then ha.2)
  clear ha K1
  go_wp2
  go_ret
  exact ⟨rfl, KF.out⟩
end Go.Proofs.Ytebcmcmboomgfaa

/-
  OWN WORK. Contracts of the small functions: same, width, lowestFirst, Clone.
-/
namespace Go.Proofs.Ytebcmcmboomgfaa
open Go.RowKit
set_option linter.unusedVariables false

set_option maxHeartbeats 400000 in
theorem low_any (v : Value) (l : List UInt8) (w : World) (hv : Bs w v l) (h8 : l.length ≤ 8) :
    Calls Try.prog 81 #[v] w fun e w' => e = .returned (.int .u64 (low l : Int)) ∧ w' = w := by
  by_cases h0 : l.length = 0
  · obtain rfl : l = [] := List.eq_nil_of_length_eq_zero h0
    obtain ⟨p, c, rfl, -⟩ := hv
    go_enter Try.func81, Try.ntmps81
    go_wp2
    refine wp_loop_rounds 1 ?_
    rw [rounds_succ]
    go_wp2
    go_ret
    exact ⟨rfl, rfl⟩
  · obtain ⟨b, o, c, rfl, hc1, hc2, hb, hcell⟩ := hv.pos (by omega)
    go_enter Try.func81, Try.ntmps81
    go_wp2
    go_loop [3, 8] (fun s i => ∃ k : Nat, k ≤ l.length ∧ i = .int .i64 k ∧ s = .int .u64 (low (l.take k) : Int)) (fun _ i => l.length - (intOf i).toNat)
    case atStart => exact ⟨0, Nat.zero_le _, rfl, rfl⟩
    case round =>
      obtain ⟨k, hk, rfl, rfl⟩ := hrel
      by_cases hlt : k < l.length
      · have hck := hcell k l[k] (List.getElem?_eq_getElem hlt)
        go_wp2
        go_round
        case rel => exact ⟨k + 1, by omega, by go_num, by rw [low_or l k hlt h8]⟩
        case measure => simp [intOf]; omega
      · go_wp2
        go_ret
        have : l.take k = l := List.take_of_length_le (by omega)
        rw [this]
        exact ⟨rfl, rfl⟩

set_option maxHeartbeats 400000 in
/-- bytes.Clone: nil stays nil; else a new row of the same bytes -/
theorem clone_any (v : Value) (l : List UInt8) (w : World) (hv : Bs w v l) (hl : l.length ≤ 140737488355328) :
    Calls Try.prog 59 #[v] w fun e w' => ∃ v', e = .returned v' ∧ w'.ownsRow w.heap.size 5 1 v' l.length (u8s l) ∧ Kept [] w w' := by
  have q22 : ∀ (w : World) (a : Option Addr) (n c n' c' : Nat), (binOp .eql 22 (.slice a n c) (.slice none n' c')).run Try.prog w = .ok (.bool a.isNone) w := fun w a n c n' c' => Lib.run_eql_slice_nil w _ _ a n c n' c' Try.underlying22
  obtain ⟨p, c, rfl, h1, h2, h3, h4⟩ := hv
  cases p with
  | none =>
    obtain rfl := h3 rfl
    obtain rfl : l = [] := List.eq_nil_of_length_eq_zero (by omega)
    go_enter Try.func59, Try.ntmps59
    go_wp2
    go_ret
    exact ⟨_, rfl, World.ownsRow_nil _ _ _ _, Kept.refl _ _⟩
  | some a =>
    go_enter Try.func59, Try.ntmps59
    have hB : Bs (w.alloc (.cells #[] 5)) (.slice (some a) l.length c) l := Bs.kept ⟨some a, c, rfl, h1, h2, h3, h4⟩ ((Kept.refl [] w).alloc _)
    go_wp2_with (at_builtin; refine wpList_append_bs rfl _ _ 22 rfl w.heap.size 5 Try.underlying22 (by kernel_rfl) _ _ _ rfl (World.ownsRow_made w #[] 0 (Nat.le_refl _) (by decide) rfl) _ l rfl hB (by omega) (by simp) ?_; intro v' w1 hown hg hat)
    go_ret
    exact ⟨_, rfl, by simpa using hown, ((Kept.refl [] w).alloc _).grown hg fun k hk => .inr (own_ge (World.ownsRow_made (base := w.heap.size) (e := 5) (size := 1) w #[] 0 (Nat.le_refl _) (by decide) rfl) k hk)⟩
end Go.Proofs.Ytebcmcmboomgfaa

/-
  OWN WORK. The widths: math/bits.Len64 at the four numbers that 'width' hands it.
-/
namespace Go.Proofs.Ytebcmcmboomgfaa
open Go.RowKit
set_option linter.unusedVariables false

theorem tab255' : Lib.len8tab.data[255]? = some 8 := by kernel_rfl
theorem tab255 (n : Nat) (h : n < Lib.len8tab.size) (hn : n = 255) : ((Lib.len8tab[n]'h).toNat : Int) = 8 := by
  have e : Lib.len8tab.data[n]? = some (Lib.len8tab[n]'h) := Array.getElem?_eq_getElem h
  generalize Lib.len8tab[n]'h = y at e
  rw [hn, tab255'] at e
  obtain rfl := Option.some.inj e
  rfl

set_option maxRecDepth 100000 in
theorem len8_any (x : Int) (w : World) (h1 : 255 ≤ x) (h2 : x ≤ 255) : Calls Try.prog 79 #[.int .u64 x] w fun e w' => e = .returned (.int .i64 8) ∧ w' = w := by
  have hsz : (Lib.len8tab.size : Int) = 256 := by decide +kernel
  go_enter Try.func79, Try.ntmps79
  go_wp2
  all_goals (go_ret; refine ⟨congrArg Ending.returned (congrArg (Value.int IntKind.i64) ?_), rfl⟩)
  rw [tab255 _ _ (by omega)]
  decide +kernel
theorem width8_any (w : World) : Calls Try.prog 68 #[] w fun e w' => e = .returned (.int .i64 1) ∧ w' = w := by
  go_enter Try.func68, Try.ntmps68
  go_wp2_with (go_at_call 79; refine (len8_any _ _ (by decide +kernel) (by decide +kernel)).mono ?_; rintro e w' ⟨rfl, rfl⟩)
  go_ret
  exact ⟨rfl, rfl⟩

set_option maxRecDepth 100000 in
theorem len16_any (x : Int) (w : World) (h1 : 65535 ≤ x) (h2 : x ≤ 65535) : Calls Try.prog 79 #[.int .u64 x] w fun e w' => e = .returned (.int .i64 16) ∧ w' = w := by
  have hsz : (Lib.len8tab.size : Int) = 256 := by decide +kernel
  go_enter Try.func79, Try.ntmps79
  go_wp2
  all_goals (go_ret; refine ⟨congrArg Ending.returned (congrArg (Value.int IntKind.i64) ?_), rfl⟩)
  rw [tab255 _ _ (by omega)]
  decide +kernel
theorem width16_any (w : World) : Calls Try.prog 86 #[] w fun e w' => e = .returned (.int .i64 2) ∧ w' = w := by
  go_enter Try.func86, Try.ntmps86
  go_wp2_with (go_at_call 79; refine (len16_any _ _ (by decide +kernel) (by decide +kernel)).mono ?_; rintro e w' ⟨rfl, rfl⟩)
  go_ret
  exact ⟨rfl, rfl⟩

set_option maxRecDepth 100000 in
theorem len32_any (x : Int) (w : World) (h1 : 4294967295 ≤ x) (h2 : x ≤ 4294967295) : Calls Try.prog 79 #[.int .u64 x] w fun e w' => e = .returned (.int .i64 32) ∧ w' = w := by
  have hsz : (Lib.len8tab.size : Int) = 256 := by decide +kernel
  go_enter Try.func79, Try.ntmps79
  go_wp2
  all_goals (go_ret; refine ⟨congrArg Ending.returned (congrArg (Value.int IntKind.i64) ?_), rfl⟩)
  rw [tab255 _ _ (by omega)]
  decide +kernel
set_option maxRecDepth 100000 in
theorem len64_any (x : Int) (w : World) (h1 : 18446744073709551615 ≤ x) (h2 : x ≤ 18446744073709551615) : Calls Try.prog 79 #[.int .u64 x] w fun e w' => e = .returned (.int .i64 64) ∧ w' = w := by
  have hsz : (Lib.len8tab.size : Int) = 256 := by decide +kernel
  go_enter Try.func79, Try.ntmps79
  go_wp2
  all_goals (go_ret; refine ⟨congrArg Ending.returned (congrArg (Value.int IntKind.i64) ?_), rfl⟩)
  rw [tab255 _ _ (by omega)]
  decide +kernel
theorem width64_any (w : World) : Calls Try.prog 69 #[] w fun e w' => e = .returned (.int .i64 8) ∧ w' = w := by
  go_enter Try.func69, Try.ntmps69
  go_wp2_with (go_at_call 79; refine (len64_any _ _ (by decide +kernel) (by decide +kernel)).mono ?_; rintro e w' ⟨rfl, rfl⟩)
  go_ret
  exact ⟨rfl, rfl⟩
end Go.Proofs.Ytebcmcmboomgfaa

/-
  OWN WORK. octet.Put at its four widths.
-/
namespace Go.Proofs.Ytebcmcmboomgfaa
open Go.RowKit
set_option linter.unusedVariables false

set_option maxHeartbeats 800000 in
theorem put8_any (v : Value) (l : List UInt8) (x : Nat) (w : World) (hv : Bs w v l) (hl : l.length ≤ 140737488355000) (hx : (x : Int) < 256) :
    Calls Try.prog 49 #[v, .int .u8 (x : Int)] w fun e w' => ∃ v', e = .returned v' ∧ w'.ownsRow w.heap.size 5 1 v' (l.length + 1) (u8s (l ++ lay 1 x)) ∧ Kept [] w w' := by
  have hmk := fun u => run_make_bs (P := Try.prog) u 22 5 Try.underlying22 (by kernel_rfl) l.length (l.length + 1) (by omega) (by omega)
  have ec : ((l.length + 1 : Nat) : Int) = (l.length : Int) + 1 := by omega
  rw [ec] at hmk
  have hown0 := own_made w 5 w.heap.size l.length (l.length + 1) (Nat.le_refl _) (by omega) (by unfold maxLen; omega)
  have hB : Bs (w.alloc (.cells (madeCells #[.int .u8 0] (l.length + 1)) 5)) v l := hv.kept ((Kept.refl [] w).alloc _)
  have hwr : IntKind.u64.wrap (x : Int) = (x : Int) := by rw [IntKind.wrap_u64]; omega
  clear hx
  obtain ⟨p, c, rfl, h1, h2, h3, h4⟩ := hv
  go_enter Try.func49, Try.ntmps49
  go_wp2_with (first | (go_at_call 68; refine (width8_any _).mono ?_; rintro e w' ⟨rfl, rfl⟩) | (refine wpList_copy_bs rfl (.tmp 16) (.tmp 17) 22 rfl _ 5 Try.underlying22 (by kernel_rfl) _ _ _ (by rfl) hown0 _ l (by rfl) hB rfl ?_; intro w1 hown1 hg1))
  have hk1 : Kept [] w' w1 := ((Kept.refl [] w').alloc _).grown hg1 fun k hk => .inr (own_ge hown0 k hk)
  clear hmk hown0 hB hg1 h3 h4
  go_loopw [6, 20] (fun s i wr => ∃ k : Nat, k ≤ 1 ∧ i = .int .i64 k ∧ wr.ownsRow w'.heap.size 5 1 s (l.length + k) (u8s (l ++ lay k x)) ∧ Kept [] w' wr) (fun _ i _ => 1 - (intOf i).toNat)
  case atStart => exact ⟨0, Nat.zero_le _, rfl, by simpa [lay] using hown1, hk1⟩
  case round =>
    obtain ⟨k, hk, rfl, hown, hkept⟩ := hrel
    have hsz := hkept.size
    clear hown1 hk1 ec
    by_cases hlt : k < 1
    · go_wp2_with (at_builtin; refine wpList_append_bs rfl (.tmp 23) (.tmp 30) 22 rfl w'.heap.size 5 Try.underlying22 (by kernel_rfl) _ _ _ (by rfl) (hown.alloc _) _ [UInt8.ofNat (x / 256 ^ k)] (by rfl) (Bs.one wr 5 _ _ (byte_of x k)) (by simp; omega) (by simp; omega) ?_; intro v2 w2 hown2 hg2 hat2)
      have hk2 : Kept [] w' w2 := (hkept.alloc _).grown hg2 fun j hj => .inr (own_ge hown j hj)
      go_roundw
      case rel => exact ⟨k + 1, by omega, by go_num, by rw [lay_succ, ← List.append_assoc, u8s_append]; exact hown2, hk2⟩
      case measure => simp [intOf]; omega
    · go_wp2
      go_ret
      obtain rfl : k = 1 := by omega
      exact ⟨_, rfl, hown, hkept⟩

set_option maxHeartbeats 800000 in
theorem put16_any (v : Value) (l : List UInt8) (x : Nat) (w : World) (hv : Bs w v l) (hl : l.length ≤ 140737488355000) (hx : (x : Int) < 65536) :
    Calls Try.prog 80 #[v, .int .u16 (x : Int)] w fun e w' => ∃ v', e = .returned v' ∧ w'.ownsRow w.heap.size 5 1 v' (l.length + 2) (u8s (l ++ lay 2 x)) ∧ Kept [] w w' := by
  have hmk := fun u => run_make_bs (P := Try.prog) u 22 5 Try.underlying22 (by kernel_rfl) l.length (l.length + 2) (by omega) (by omega)
  have ec : ((l.length + 2 : Nat) : Int) = (l.length : Int) + 2 := by omega
  rw [ec] at hmk
  have hown0 := own_made w 5 w.heap.size l.length (l.length + 2) (Nat.le_refl _) (by omega) (by unfold maxLen; omega)
  have hB : Bs (w.alloc (.cells (madeCells #[.int .u8 0] (l.length + 2)) 5)) v l := hv.kept ((Kept.refl [] w).alloc _)
  have hwr : IntKind.u64.wrap (x : Int) = (x : Int) := by rw [IntKind.wrap_u64]; omega
  clear hx
  obtain ⟨p, c, rfl, h1, h2, h3, h4⟩ := hv
  go_enter Try.func80, Try.ntmps80
  go_wp2_with (first | (go_at_call 86; refine (width16_any _).mono ?_; rintro e w' ⟨rfl, rfl⟩) | (refine wpList_copy_bs rfl (.tmp 16) (.tmp 17) 22 rfl _ 5 Try.underlying22 (by kernel_rfl) _ _ _ (by rfl) hown0 _ l (by rfl) hB rfl ?_; intro w1 hown1 hg1))
  have hk1 : Kept [] w' w1 := ((Kept.refl [] w').alloc _).grown hg1 fun k hk => .inr (own_ge hown0 k hk)
  clear hmk hown0 hB hg1 h3 h4
  go_loopw [6, 20] (fun s i wr => ∃ k : Nat, k ≤ 2 ∧ i = .int .i64 k ∧ wr.ownsRow w'.heap.size 5 1 s (l.length + k) (u8s (l ++ lay k x)) ∧ Kept [] w' wr) (fun _ i _ => 2 - (intOf i).toNat)
  case atStart => exact ⟨0, Nat.zero_le _, rfl, by simpa [lay] using hown1, hk1⟩
  case round =>
    obtain ⟨k, hk, rfl, hown, hkept⟩ := hrel
    have hsz := hkept.size
    clear hown1 hk1 ec
    by_cases hlt : k < 2
    · go_wp2_with (at_builtin; refine wpList_append_bs rfl (.tmp 23) (.tmp 30) 22 rfl w'.heap.size 5 Try.underlying22 (by kernel_rfl) _ _ _ (by rfl) (hown.alloc _) _ [UInt8.ofNat (x / 256 ^ k)] (by rfl) (Bs.one wr 5 _ _ (byte_of x k)) (by simp; omega) (by simp; omega) ?_; intro v2 w2 hown2 hg2 hat2)
      have hk2 : Kept [] w' w2 := (hkept.alloc _).grown hg2 fun j hj => .inr (own_ge hown j hj)
      go_roundw
      case rel => exact ⟨k + 1, by omega, by go_num, by rw [lay_succ, ← List.append_assoc, u8s_append]; exact hown2, hk2⟩
      case measure => simp [intOf]; omega
    · go_wp2
      go_ret
      obtain rfl : k = 2 := by omega
      exact ⟨_, rfl, hown, hkept⟩

set_option maxHeartbeats 800000 in
theorem put64_any (v : Value) (l : List UInt8) (x : Nat) (w : World) (hv : Bs w v l) (hl : l.length ≤ 140737488355000) (hx : (x : Int) < 18446744073709551616) :
    Calls Try.prog 50 #[v, .int .u64 (x : Int)] w fun e w' => ∃ v', e = .returned v' ∧ w'.ownsRow w.heap.size 5 1 v' (l.length + 8) (u8s (l ++ lay 8 x)) ∧ Kept [] w w' := by
  have hmk := fun u => run_make_bs (P := Try.prog) u 22 5 Try.underlying22 (by kernel_rfl) l.length (l.length + 8) (by omega) (by omega)
  have ec : ((l.length + 8 : Nat) : Int) = (l.length : Int) + 8 := by omega
  rw [ec] at hmk
  have hown0 := own_made w 5 w.heap.size l.length (l.length + 8) (Nat.le_refl _) (by omega) (by unfold maxLen; omega)
  have hB : Bs (w.alloc (.cells (madeCells #[.int .u8 0] (l.length + 8)) 5)) v l := hv.kept ((Kept.refl [] w).alloc _)
  have hwr : IntKind.u64.wrap (x : Int) = (x : Int) := by rw [IntKind.wrap_u64]; omega
  clear hx
  obtain ⟨p, c, rfl, h1, h2, h3, h4⟩ := hv
  go_enter Try.func50, Try.ntmps50
  go_wp2_with (first | (go_at_call 69; refine (width64_any _).mono ?_; rintro e w' ⟨rfl, rfl⟩) | (refine wpList_copy_bs rfl (.tmp 16) (.tmp 17) 22 rfl _ 5 Try.underlying22 (by kernel_rfl) _ _ _ (by rfl) hown0 _ l (by rfl) hB rfl ?_; intro w1 hown1 hg1))
  have hk1 : Kept [] w' w1 := ((Kept.refl [] w').alloc _).grown hg1 fun k hk => .inr (own_ge hown0 k hk)
  clear hmk hown0 hB hg1 h3 h4
  go_loopw [6, 20] (fun s i wr => ∃ k : Nat, k ≤ 8 ∧ i = .int .i64 k ∧ wr.ownsRow w'.heap.size 5 1 s (l.length + k) (u8s (l ++ lay k x)) ∧ Kept [] w' wr) (fun _ i _ => 8 - (intOf i).toNat)
  case atStart => exact ⟨0, Nat.zero_le _, rfl, by simpa [lay] using hown1, hk1⟩
  case round =>
    obtain ⟨k, hk, rfl, hown, hkept⟩ := hrel
    have hsz := hkept.size
    clear hown1 hk1 ec
    by_cases hlt : k < 8
    · go_wp2_with (at_builtin; refine wpList_append_bs rfl (.tmp 23) (.tmp 29) 22 rfl w'.heap.size 5 Try.underlying22 (by kernel_rfl) _ _ _ (by rfl) (hown.alloc _) _ [UInt8.ofNat (x / 256 ^ k)] (by rfl) (Bs.one wr 5 _ _ (byte_of x k)) (by simp; omega) (by simp; omega) ?_; intro v2 w2 hown2 hg2 hat2)
      have hk2 : Kept [] w' w2 := (hkept.alloc _).grown hg2 fun j hj => .inr (own_ge hown j hj)
      go_roundw
      case rel => exact ⟨k + 1, by omega, by go_num, by rw [lay_succ, ← List.append_assoc, u8s_append]; exact hown2, hk2⟩
      case measure => simp [intOf]; omega
    · go_wp2
      go_ret
      obtain rfl : k = 8 := by omega
      exact ⟨_, rfl, hown, hkept⟩
end Go.Proofs.Ytebcmcmboomgfaa

/-
  OWN WORK. octet.Get at its four widths; the reader.
-/
namespace Go.Proofs.Ytebcmcmboomgfaa
open Go.RowKit
set_option linter.unusedVariables false

theorem sz8 : (Try.prog.info? 5).map (·.size) = some 1 := by kernel_rfl

theorem get64_short (v : Value) (l : List UInt8) (w : World) (hv : Bs w v l) (hl : l.length < 8) :
    Calls Try.prog 85 #[v] w fun e w' => e = .returned (.tuple #[.int .u64 0, .int .i64 10]) ∧ w' = w := by
  obtain ⟨p, c, rfl, -⟩ := hv
  have hl' : (l.length : Int) < 8 := by omega
  go_enter Try.func85, Try.ntmps85
  go_wp2_with (go_at_call 69; refine (width64_any _).mono ?_; rintro e w' ⟨rfl, rfl⟩)
  go_ret2
  exact ⟨rfl, rfl⟩
theorem get64_any (v : Value) (l : List UInt8) (w : World) (hv : Bs w v l) (hl : 8 ≤ l.length) :
    Calls Try.prog 85 #[v] w fun e w' => e = .returned (.tuple #[.int .u64 (low (l.take 8) : Int), .int .i64 0]) ∧ w' = w := by
  have hlo := low_take_lt l 8 hl
  clear hlo
  obtain ⟨p, c, rfl, h1, -⟩ := id hv
  obtain ⟨p2, hr1, -, hb1, -⟩ := hv.cuts (P := Try.prog) 22 5 Try.underlying22 sz8 8 hl
  have hl' : ((8 : Nat) : Int) ≤ (l.length : Int) := by omega
  go_enter Try.func85, Try.ntmps85
  go_wp2_with (first | (go_at_call 69; refine (width64_any _).mono ?_; rintro e w' ⟨rfl, rfl⟩) | (go_at_call 81; refine (low_any _ _ _ hb1 (by simp; omega)).mono ?_; rintro e w' ⟨rfl, rfl⟩))
  go_ret2
  exact ⟨rfl, rfl⟩
end Go.Proofs.Ytebcmcmboomgfaa

/-
  OWN WORK. octet.Join and the document's Join.
-/
namespace Go.Proofs.Ytebcmcmboomgfaa
open Go.RowKit
set_option linter.unusedVariables false

set_option maxHeartbeats 800000 in
theorem join_any (v : Value) (ls : List (List UInt8)) (w : World) (hv : Bss w v ls) (ht : (flat ls).length ≤ 140737488355328) :
    Calls Try.prog 28 #[v] w fun e w' => ∃ v', e = .returned v' ∧ w'.ownsRow w.heap.size 5 1 v' (flat ls).length (u8s (flat ls)) ∧ Kept [] w w' := by
  have hmk := fun u => run_make_bs (P := Try.prog) u 22 5 Try.underlying22 (by kernel_rfl) 0 (flat ls).length (by omega) (by omega)
  have hown0 := own_made w 5 w.heap.size 0 (flat ls).length (Nat.le_refl _) (by omega) (by unfold maxLen; omega)
  rw [show ((0 : Nat) : Int) = 0 from rfl] at hmk
  by_cases h0 : ls.length = 0
  · obtain rfl : ls = [] := List.eq_nil_of_length_eq_zero h0
    obtain ⟨p, c, rfl, -⟩ := hv
    simp only [flat_nil, List.length_nil] at hmk hown0
    rw [show ((0 : Nat) : Int) = 0 from rfl] at hmk
    go_enter Try.func28, Try.ntmps28
    go_wp2
    refine wp_loop_rounds 1 ?_
    rw [rounds_succ]
    go_wp2
    refine wp_loop_rounds 1 ?_
    rw [rounds_succ]
    go_wp2
    go_ret
    exact ⟨_, rfl, by simpa [u8s, flat_nil] using hown0, (Kept.refl [] w).alloc _⟩
  · obtain ⟨b, o, c, rfl, h1, h2, hb, hcell⟩ := id (hv.pos (by omega))
    have hlen : ls.length ≤ 9223372036854775807 := by unfold maxLen at h2; omega
    go_enter Try.func28, Try.ntmps28
    go_wp2
    go_loop [3, 11] (fun s i => ∃ k : Nat, k ≤ ls.length ∧ i = .int .i64 k ∧ s = .int .i64 ((flat (ls.take k)).length : Int)) (fun _ i => ls.length - (intOf i).toNat)
    case atStart => exact ⟨0, Nat.zero_le _, rfl, rfl⟩
    case round =>
      obtain ⟨k, hk, rfl, rfl⟩ := hrel
      by_cases hlt : k < ls.length
      · obtain ⟨l, hl⟩ : ∃ l, ls[k]? = some l := ⟨_, List.getElem?_eq_getElem hlt⟩
        obtain ⟨q, d, hc, hB⟩ := hcell k l hl
        have hf1 := flat_le ls (k + 1)
        rw [flat_take ls k l hl, List.length_append] at hf1
        have HL : Hid (ls[k]? = some l) := hl
        clear hl
        go_wp2
        go_round
        case rel => exact ⟨k + 1, by omega, by go_num, by rw [flat_take ls k l HL.out, List.length_append]; go_num⟩
        case measure => simp [intOf]; omega
      · have e : ls.take k = ls := List.take_of_length_le (by omega)
        rw [e]
        clear e
        go_wp2
        go_loopw [6, 24] (fun s i wr => ∃ k : Nat, k ≤ ls.length ∧ i = .int .i64 k ∧ wr.ownsRow w.heap.size 5 1 s (flat (ls.take k)).length (u8s (flat (ls.take k))) ∧ Kept [] w wr) (fun _ i _ => ls.length - (intOf i).toNat)
        case atStart => exact ⟨0, Nat.zero_le _, rfl, by simpa [u8s, flat] using hown0, (Kept.refl [] w).alloc _⟩
        case round =>
          obtain ⟨j, hj, rfl, hown, hkept⟩ := hrel
          have hsz := hkept.size
          by_cases hjt : j < ls.length
          · obtain ⟨l, hl⟩ : ∃ l, ls[j]? = some l := ⟨_, List.getElem?_eq_getElem hjt⟩
            obtain ⟨q, d, hc, hB⟩ := hcell j l hl
            have hc' := hkept.cell hc (by simp)
            have hB' := hB.kept hkept
            have hf1 := flat_le ls (j + 1)
            have hf2 := flat_take ls j l hl
            rw [hf2, List.length_append] at hf1
            have HL : Hid (flat (ls.take (j + 1)) = flat (ls.take j) ++ l) := hf2
            clear hl hf2 hc hB hmk hown0
            go_wp2_with (at_builtin; refine wpList_append_bs rfl (.tmp 28) (.tmp 29) 22 rfl w.heap.size 5 Try.underlying22 (by kernel_rfl) _ _ _ (by rfl) hown _ l (by rfl) hB' (by omega) hsz ?_; intro v2 w2 hown2 hg2 hat2)
            have hk2 : Kept [] w w2 := hkept.grown hg2 fun m hm => .inr (own_ge hown m hm)
            go_roundw
            case rel => exact ⟨j + 1, by omega, by go_num, by rw [HL.out, List.length_append, u8s_append]; exact hown2, hk2⟩
            case measure => simp [intOf]; omega
          · have e : ls.take j = ls := List.take_of_length_le (by omega)
            rw [e] at hown
            clear e
            go_wp2
            go_ret
            exact ⟨_, rfl, hown, hkept⟩

end Go.Proofs.Ytebcmcmboomgfaa

/-
  OWN WORK. record: one, two, eight; Join, for rows that are made.
-/
namespace Go.Proofs.Ytebcmcmboomgfaa
open Go.RowKit
set_option linter.unusedVariables false
set_option linter.unusedSimpArgs false

theorem ofNat_mod8 (n : Nat) : UInt8.ofNat (n % 256) = UInt8.ofNat n := by
  apply UInt8.toNat_inj.1
  simp
theorem lay_putN : ∀ (n v : Nat), lay n v = putN n v
  | 0, v => rfl
  | n + 1, v => by
    rw [putN_next, ← lay_putN n v, ofNat_mod8]
    simp [lay, List.range_succ]
theorem qOne (z : Int) (w : World) (h0 : 0 ≤ z) (h1 : z < 256) : Calls Try.prog 29 #[.int .i64 z] w fun e w' => ∃ u, e = .returned u ∧ Acc w w' u (putN 1 z.toNat) := by
  obtain ⟨n, rfl⟩ : ∃ n : Nat, z = n := ⟨z.toNat, by omega⟩
  have hw : IntKind.u8.wrap (n : Int) = (n : Int) := by simp only [IntKind.wrap, IntKind.signed, IntKind.bits]; simp; omega
  have hp := fun w => put8_any (.slice none 0 0) [] n w (Bs.nil w) (by simp) h1
  go_enter Try.func29, Try.ntmps29
  go_wp2_with fail
  refine (hp _).mono ?_
  rintro e w1 ⟨u, rfl, ho, hk⟩
  go_wp2
  go_ret
  refine ⟨u, rfl, ?_, hk⟩
  rw [putN_length, Int.toNat_natCast, ← lay_putN]
  exact ho
theorem qTwo (z : Int) (w : World) (h0 : 0 ≤ z) (h1 : z < 65536) : Calls Try.prog 70 #[.int .i64 z] w fun e w' => ∃ u, e = .returned u ∧ Acc w w' u (putN 2 z.toNat) := by
  obtain ⟨n, rfl⟩ : ∃ n : Nat, z = n := ⟨z.toNat, by omega⟩
  have hw : IntKind.u16.wrap (n : Int) = (n : Int) := by simp only [IntKind.wrap, IntKind.signed, IntKind.bits]; simp; omega
  have hp := fun w => put16_any (.slice none 0 0) [] n w (Bs.nil w) (by simp) h1
  have H := @hideH _ h1
  clear h1
  go_enter Try.func70, Try.ntmps70
  go_wp2_with fail
  refine (hp _).mono ?_
  rintro e w1 ⟨u, rfl, ho, hk⟩
  go_wp2
  go_ret
  refine ⟨u, rfl, ?_, hk⟩
  rw [putN_length, Int.toNat_natCast, ← lay_putN]
  exact ho
theorem qEight (z : Int) (w : World) (h0 : 0 ≤ z) (h1 : z ≤ 1152921504606846976) : Calls Try.prog 30 #[.int .i64 z] w fun e w' => ∃ u, e = .returned u ∧ Acc w w' u (putN 8 z.toNat) := by
  obtain ⟨n, rfl⟩ : ∃ n : Nat, z = n := ⟨z.toNat, by omega⟩
  have hw : IntKind.u64.wrap (n : Int) = (n : Int) := by simp only [IntKind.wrap, IntKind.signed, IntKind.bits]; simp; omega
  have hp := fun w => put64_any (.slice none 0 0) [] n w (Bs.nil w) (by simp) (by omega)
  have H := @hideH _ h1
  clear h1
  go_enter Try.func30, Try.ntmps30
  go_wp2_with fail
  refine (hp _).mono ?_
  rintro e w1 ⟨u, rfl, ho, hk⟩
  go_wp2
  go_ret
  refine ⟨u, rfl, ?_, hk⟩
  rw [putN_length, Int.toNat_natCast, ← lay_putN]
  exact ho
theorem qJoin (v : Value) (ls : List (List UInt8)) (w : World) (hv : Bss w v ls) (ht : (flat ls).length ≤ 100000) : Calls Try.prog 28 #[v] w fun e w' => ∃ u, e = .returned u ∧ Acc w w' u (flat ls) := by
  refine (join_any v ls w hv (by omega)).mono ?_
  rintro e w' ⟨u, rfl, ho, hk⟩
  exact ⟨u, rfl, ho, hk⟩
theorem Acc.bs {w0 w : World} {u : Value} {b : List UInt8} (h : Acc w0 w u b) : Bs w u b := Bs.ofOwn h.1
theorem Acc.low {w0 w1 w : World} {u : Value} {b : List UInt8} (h : Acc w1 w u b) (k : Kept [] w0 w1) : Acc w0 w u b := ⟨own_baseK h.1 k.size, k.then h.2⟩
theorem Bss.lit4 (w : World) (e : TypeId) (a b c d : Value) (la lb lc ld : List UInt8) (ha : Bs w a la) (hb : Bs w b lb) (hc : Bs w c lc) (hd : Bs w d ld) (H : Nat) (hH : w.heap.size = H) : Bss (w.alloc (.cells #[a, b, c, d] e)) (.slice (some ⟨H, 0, none⟩) 4 4) [la, lb, lc, ld] :=
  Bss.lit w e [a, b, c, d] [la, lb, lc, ld] rfl (by simp [maxLen]) (fun i v l hv hl => by
    match i, hv, hl with
    | 0, hv, hl => simp at hv hl; subst hv hl; exact ha
    | 1, hv, hl => simp at hv hl; subst hv hl; exact hb
    | 2, hv, hl => simp at hv hl; subst hv hl; exact hc
    | 3, hv, hl => simp at hv hl; subst hv hl; exact hd
    | i + 4, hv, hl => simp at hv) H hH
theorem Bss.lit6 (w : World) (e : TypeId) (a b c d x y : Value) (la lb lc ld lx ly : List UInt8) (ha : Bs w a la) (hb : Bs w b lb) (hc : Bs w c lc) (hd : Bs w d ld) (hx : Bs w x lx) (hy : Bs w y ly) (H : Nat) (hH : w.heap.size = H) : Bss (w.alloc (.cells #[a, b, c, d, x, y] e)) (.slice (some ⟨H, 0, none⟩) 6 6) [la, lb, lc, ld, lx, ly] :=
  Bss.lit w e [a, b, c, d, x, y] [la, lb, lc, ld, lx, ly] rfl (by simp [maxLen]) (fun i v l hv hl => by
    match i, hv, hl with
    | 0, hv, hl => simp at hv hl; subst hv hl; exact ha
    | 1, hv, hl => simp at hv hl; subst hv hl; exact hb
    | 2, hv, hl => simp at hv hl; subst hv hl; exact hc
    | 3, hv, hl => simp at hv hl; subst hv hl; exact hd
    | 4, hv, hl => simp at hv hl; subst hv hl; exact hx
    | 5, hv, hl => simp at hv hl; subst hv hl; exact hy
    | i + 6, hv, hl => simp at hv) H hH
end Go.Proofs.Ytebcmcmboomgfaa

/-
  OWN WORK. record: rangeBytes.
-/
namespace Go.Proofs.Ytebcmcmboomgfaa
open Go.RowKit
set_option linter.unusedVariables false
set_option linter.unusedSimpArgs false

theorem flat3 (a b c : List UInt8) : flat [a, b, c] = a ++ (b ++ c) := by simp [flat]
theorem flat2 (a b : List UInt8) : flat [a, b] = a ++ b := by simp [flat]
theorem flat4 (a b c d : List UInt8) : flat [a, b, c, d] = a ++ (b ++ (c ++ d)) := by simp [flat]
theorem flat6 (a b c d x y : List UInt8) : flat [a, b, c, d, x, y] = a ++ (b ++ (c ++ (d ++ (x ++ y)))) := by simp [flat]
def rangeB (r : Rcd) : List UInt8 := putN 1 r.page.toNat ++ (putN 2 r.frm.toNat ++ putN 2 r.after.length)
theorem rangeB_length (r : Rcd) : (rangeB r).length = 5 := by simp [rangeB, putN_length]
set_option maxRecDepth 20000 in
set_option maxHeartbeats 3200000 in
theorem qRangeB (V : RV) (r : Rcd) (w : World) (h : SeeR w V r) (hr : rangedOk r) : Calls Try.prog 51 #[r.agg V] w fun e w' => ∃ u, e = .returned u ∧ Acc w w' u (rangeB r) := by
  obtain ⟨pb, cb, pa, ca, pr, cr, pd, cd, rfl⟩ := h.shapes
  have h1 := fun w => qOne r.page w hr.1.1 (by have := hr.1.2; omega)
  have h2 := fun w => qTwo r.frm w (by have := hr.2.2.1; omega) (by have := hr.2.2.2; omega)
  have h3 := fun w => qTwo (r.after.length : Int) w (by omega) (by have := hr.2.1.2; omega)
  rw [Int.toNat_natCast] at h3
  unfold rangeB
  unfold Rcd.agg
  dsimp only
  generalize r.after.length = na at *
  generalize r.page = page at *
  generalize r.frm = frm at *
  generalize r.before.length = nb at *
  generalize r.rows.length = nr at *
  generalize r.dirty.length = nd at *
  clear h hr
  obtain ⟨wa, hwa⟩ : ∃ wa, wa = w.alloc (.cells #[.int .i64 r.kind, .int .i64 r.birth, .int .i64 r.prev, .int .i64 r.id, .int .i64 page, .int .i64 frm, .slice pb nb cb, .slice pa na ca, .int .i64 r.next, .slice pr nr cr, .slice pd nd cd] 26) := ⟨_, rfl⟩
  have ba : Blk wa w.heap.size 26 [.int .i64 r.kind, .int .i64 r.birth, .int .i64 r.prev, .int .i64 r.id, .int .i64 page, .int .i64 frm, .slice pb nb cb, .slice pa na ca, .int .i64 r.next, .slice pr nr cr, .slice pd nd cd] := by rw [hwa]; exact Blk.new w _ _
  have KA := @hideH _ (show Kept [] w wa by rw [hwa]; exact (Kept.refl [] w).alloc _)
  have c4 := ba.cell (j := 4) rfl
  have c5 := ba.cell (j := 5) rfl
  have c7 := ba.cell (j := 7) rfl
  have tk : True := trivial
  have kx : Kept [] wa wa.drew := (Kept.refl [] wa).drew
  clear ba
  go_enter Try.func51, Try.ntmps51
  go_upto_region 1 with fail
  rw [← hwa]
  clear hwa
  go_region_held3 (fun w' => w'.cell? ⟨w.heap.size, 4, none⟩ = some (.int .i64 page) ∧ w'.cell? ⟨w.heap.size, 5, none⟩ = some (.int .i64 frm) ∧ w'.cell? ⟨w.heap.size, 7, none⟩ = some (.slice pa na ca))
    (first | (with_reducible exact ⟨kx.cell c4 (by simp), kx.cell c5 (by simp), kx.cell c7 (by simp)⟩) | (with_reducible exact ⟨(kx.alloc _).cell c4 (by simp), (kx.alloc _).cell c5 (by simp), (kx.alloc _).cell c7 (by simp)⟩) | fail)
    (first
      | (go_at_call 29; refine (h1 _).mono ?_; rintro e w1 ⟨u1, rfl, a1⟩; obtain ⟨p1, q1, rfl⟩ := own_shape2 a1.1; replace kx := kx.then a1.2)
      | (go_at_call 70; clear tk; refine (h2 _).mono ?_; rintro e w2 ⟨u2, rfl, a2⟩; obtain ⟨p2, q2, rfl⟩ := own_shape2 a2.1; replace kx := kx.then a2.2)
      | (go_at_call 70; refine (h3 _).mono ?_; rintro e w3 ⟨u3, rfl, a3⟩; obtain ⟨p3, q3, rfl⟩ := own_shape2 a3.1; replace kx := kx.then a3.2)
      | (go_at_call 28; refine (qJoin _ _ _ (Bss.lit3 w3 _ _ _ _ _ _ _ ((a1.then a2.2).then a3.2).bs (a2.then a3.2).bs a3.bs _ rfl) (by rw [flat3]; simp [putN_length])).mono ?_; rintro e w4 ⟨u4, rfl, a4⟩; have ky := kx; replace kx := (kx.alloc _).then a4.2)
      | fail)
  go_wp2
  go_ret
  refine ⟨u4, rfl, ?_⟩
  rw [← flat3]
  exact a4.low ((KA.out.then ky).alloc _)
end Go.Proofs.Ytebcmcmboomgfaa

/-
  OWN WORK. record's small questions: isLsn, isLsnOrNone, isId, isPage, isOwned, isBlank, isRange, partAtEnds.
-/
namespace Go.Proofs.Ytebcmcmboomgfaa
open Go.RowKit
set_option linter.unusedVariables false
set_option linter.unusedSimpArgs false

theorem pIsLsn (n : Int) (w : World) : Calls Try.prog 65 #[.int .i64 n] w fun e w' => e = .returned (.bool (bl (lsnOk n))) ∧ w' = w := by
  by_cases h1 : 1 ≤ n
  · have hq : bl (lsnOk n) = decide (n ≤ 1152921504606846976) := by unfold lsnOk; rw [bl_d]; simp [h1]
    rw [hq]
    clear hq
    go_enter Try.func65, Try.ntmps65
    go_wp2
    go_ret
    exact ⟨by simp, rfl⟩
  · have hq : bl (lsnOk n) = false := bl_f (fun h => h1 h.1)
    rw [hq]
    clear hq
    go_enter Try.func65, Try.ntmps65
    go_wp2
    go_ret
    exact ⟨by simp, rfl⟩
def idOk (n : Int) : Prop := 1 ≤ n ∧ n ≤ 64
def pageOk (n : Int) : Prop := 0 ≤ n ∧ n < 16
theorem pIsId (n : Int) (w : World) : Calls Try.prog 42 #[.int .i64 n] w fun e w' => e = .returned (.bool (bl (idOk n))) ∧ w' = w := by
  by_cases h1 : 1 ≤ n
  · have hq : bl (idOk n) = decide (n ≤ 64) := by unfold idOk; rw [bl_d]; simp [h1]
    rw [hq]
    clear hq
    go_enter Try.func42, Try.ntmps42
    go_wp2
    go_ret
    exact ⟨by simp, rfl⟩
  · have hq : bl (idOk n) = false := bl_f (fun h => h1 h.1)
    rw [hq]
    clear hq
    go_enter Try.func42, Try.ntmps42
    go_wp2
    go_ret
    exact ⟨by simp, rfl⟩
theorem pIsPage (n : Int) (w : World) : Calls Try.prog 66 #[.int .i64 n] w fun e w' => e = .returned (.bool (bl (pageOk n))) ∧ w' = w := by
  by_cases h1 : 0 ≤ n
  · have hq : bl (pageOk n) = decide (n < 16) := by unfold pageOk; rw [bl_d]; simp [h1]
    rw [hq]
    clear hq
    go_enter Try.func66, Try.ntmps66
    go_wp2
    go_ret
    exact ⟨by simp, rfl⟩
  · have hq : bl (pageOk n) = false := bl_f (fun h => h1 h.1)
    rw [hq]
    clear hq
    go_enter Try.func66, Try.ntmps66
    go_wp2
    go_ret
    exact ⟨by simp, rfl⟩
theorem pIsNext (n : Int) (w : World) : Calls Try.prog 46 #[.int .i64 n] w fun e w' => e = .returned (.bool (bl (nextOk n))) ∧ w' = w := by
  by_cases h1 : n = 0
  · subst h1
    have hq : bl (nextOk 0) = true := bl_t (by unfold nextOk; omega)
    rw [hq]
    clear hq
    go_enter Try.func46, Try.ntmps46
    go_wp2
    go_ret
    exact ⟨by simp, rfl⟩
  · have hq : bl (nextOk n) = bl (lsnOk n) := congrArg bl (propext (by unfold nextOk lsnOk; omega))
    have h1b : (n == 0) = false := by simp [h1]
    rw [hq]
    clear hq
    go_enter Try.func46, Try.ntmps46
    go_wp2_with fail
    refine (pIsLsn n _).mono ?_
    rintro e w1 ⟨rfl, rfl⟩
    go_wp2
    go_ret
    exact ⟨by simp [h1], rfl⟩
def ownedOk (r : Rcd) : Prop := lsnOk r.birth ∧ lsnOk r.prev
theorem pOwned (V : RV) (r : Rcd) (w : World) : Calls Try.prog 43 #[r.agg V] w fun e w' => e = .returned (.bool (bl (ownedOk r))) ∧ Kept [] w w' := by
  have h1 := fun w => pIsLsn r.birth w
  have h2 := fun w => pIsLsn r.prev w
  by_cases c1 : lsnOk r.birth
  · rw [bl_t c1] at h1
    have hq : bl (ownedOk r) = bl (lsnOk r.prev) := congrArg bl (propext (by unfold ownedOk; simp [c1]))
    rw [hq]
    clear hq c1
    unfold Rcd.agg
    go_enter Try.func43, Try.ntmps43
    go_wp2_with fail
    refine (h1 _).mono ?_
    rintro e w1 ⟨rfl, rfl⟩
    go_wp2_with fail
    refine (h2 _).mono ?_
    rintro e w1 ⟨rfl, rfl⟩
    go_wp2
    go_ret
    exact ⟨by simp, (Kept.refl [] w).alloc _⟩
  · rw [bl_f c1] at h1
    have hq : bl (ownedOk r) = false := bl_f fun h => c1 h.1
    rw [hq]
    clear hq c1
    unfold Rcd.agg
    go_enter Try.func43, Try.ntmps43
    go_wp2_with fail
    refine (h1 _).mono ?_
    rintro e w1 ⟨rfl, rfl⟩
    go_wp2
    go_ret
    exact ⟨by simp, (Kept.refl [] w).alloc _⟩
end Go.Proofs.Ytebcmcmboomgfaa

/-
  OWN WORK (by mkpr.py). record: partAtEnds, isRow.
-/
namespace Go.Proofs.Ytebcmcmboomgfaa
open Go.RowKit
set_option linter.unusedVariables false
set_option linter.unusedSimpArgs false

theorem byteNe {x y : UInt8} (h : x ≠ y) : ((x.toNat : Int) != (y.toNat : Int)) = true := by
  simp only [bne_iff_ne, ne_eq, Int.natCast_inj]
  exact fun e => h (UInt8.toNat_inj.1 e)
def partsL (before after : List UInt8) : Prop := before.length = after.length ∧ before[0]? ≠ after[0]? ∧ before[after.length - 1]? ≠ after[after.length - 1]?
set_option maxRecDepth 20000 in
set_option maxHeartbeats 6400000 in
theorem pParts (vb va : Value) (before after : List UInt8) (w : World) (hb : Bs w vb before) (ha : Bs w va after) (hn : 0 < after.length) : Calls Try.prog 45 #[vb, va] w fun e w' => e = .returned (.bool (bl (partsL before after))) ∧ Kept [] w w' := by
  haveI HNE : ∀ w2, Nonempty (Calm w2) := calmNe
  have hmx := @hideH _ (show after.length ≤ maxLen from (by obtain ⟨_, _, e, h1, h2, _⟩ := ha; exact Nat.le_trans h1 h2))
  obtain ⟨ba, oa, ca, rfl, -, -, -, hac⟩ := ha.pos hn
  obtain ⟨Q, hQ⟩ : ∃ Q, Q = bl (partsL before after) := ⟨_, rfl⟩
  rw [← hQ]
  have HQ := @hideH _ hQ
  clear hQ
  obtain ⟨na, hna⟩ : ∃ na, na = after.length := ⟨_, rfl⟩
  rw [← hna] at hn ⊢
  have HNA := @hideH _ hna
  clear hna
  have wna : IntKind.i64.wrap ((na : Int) - 1) = ((na - 1 : Nat) : Int) := by rw [show (na : Int) - 1 = ((na - 1 : Nat) : Int) by omega]; exact wrap_i64_of (by omega) (by have := hmx.out; have e := HNA.out; unfold maxLen at this; omega)
  have nz : (0 : Int) < (na : Int) := by omega
  have nl : ((na - 1 : Nat) : Int) < (na : Int) := by omega
  have nl0 : (0 : Int) ≤ ((na - 1 : Nat) : Int) := by omega
  by_cases hlen : before.length = na
  rotate_left
  · have eQ := @hideH _ (show Q = false by rw [HQ.out]; exact bl_f fun h => hlen (by rw [HNA.out]; exact h.1))
    obtain ⟨pb, cb, rfl, -⟩ := hb
    obtain ⟨nb, hnb⟩ : ∃ nb, nb = before.length := ⟨_, rfl⟩
    rw [← hnb] at hlen ⊢
    have hd : ((nb : Int) == (na : Int)) = false := by simp; omega
    clear hnb hlen hac HQ HNA ha
    go_enter Try.func45, Try.ntmps45
    go_upto_region 2 with fail
    have KR := @hideH _ (Kept.refl [] w)
    refine wp_region_calm KR.out (by kernel_rfl) (by kernel_rfl) ?_
    repeat (go_big_quiet_step (fail))
    refine wpQuiet_nil ?_
    intro _ hw'
    obtain ⟨sq, hw''⟩ := hw'
    subst hw''
    have ks := sq.kept
    generalize sq.at = wx at ks ⊢
    clear sq
    have RK := @hideH _ ks
    clear ks
    go_wp2
    go_ret
    exact ⟨by rw [eQ.out]; rfl, RK.out⟩
  obtain ⟨x0, hx0⟩ : ∃ x, before[0]? = some x := ⟨_, List.getElem?_eq_getElem (by omega)⟩
  obtain ⟨y0, hy0⟩ : ∃ x, after[0]? = some x := ⟨_, List.getElem?_eq_getElem (by have := HNA.out; omega)⟩
  obtain ⟨x1, hx1⟩ : ∃ x, before[na - 1]? = some x := ⟨_, List.getElem?_eq_getElem (by omega)⟩
  obtain ⟨y1, hy1⟩ : ∃ x, after[na - 1]? = some x := ⟨_, List.getElem?_eq_getElem (by have := HNA.out; omega)⟩
  have HXY := @hideH _ (And.intro hx0 (And.intro hy0 (And.intro hx1 hy1)))
  obtain ⟨bb, ob, cb, rfl, -, -, -, hbc⟩ := hb.pos (by omega)
  have HL := @hideH _ hlen
  rw [hlen]
  have v0 : w.cell? ⟨bb, ob, none⟩ = some (.int .u8 (x0.toNat : Int)) := hbc 0 x0 hx0
  have v1 : w.cell? ⟨ba, oa, none⟩ = some (.int .u8 (y0.toNat : Int)) := hac 0 y0 hy0
  have v2 := hbc (na - 1) x1 hx1
  have v3 := hac (na - 1) y1 hy1
  clear hx0 hy0 hx1 hy1 hbc hac hlen hb ha
  by_cases hz0 : x0 = y0
  · have eQ := @hideH _ (show Q = false by rw [HQ.out]; exact bl_f fun h => h.2.1 (by rw [HXY.out.1, HXY.out.2.1, hz0]))
    have hbz : ((x0.toNat : Int) != (y0.toNat : Int)) = false := by simp [hz0]
    clear hz0
    go_enter Try.func45, Try.ntmps45
    go_upto_region 2 with fail
    have s_v0 := fun (s : Calm w) => s.kept.cell v0 (by simp)
    have s_v1 := fun (s : Calm w) => s.kept.cell v1 (by simp)
    have KR := @hideH _ (Kept.refl [] w)
    clear v0 v1 v2 v3
    refine wp_region_calm KR.out (by kernel_rfl) (by kernel_rfl) ?_
    repeat (go_big_quiet_step (fail))
    refine wpQuiet_nil ?_
    intro _ hw'
    obtain ⟨sq, hw''⟩ := hw'
    subst hw''
    have ks := sq.kept
    generalize sq.at = wx at ks ⊢
    clear sq
    have RK := @hideH _ ks
    clear ks s_v0 s_v1
    go_wp2
    go_ret
    exact ⟨by rw [eQ.out]; rfl, RK.out⟩
  have hbz := byteNe hz0
  by_cases hz1 : x1 = y1
  · have eQ := @hideH _ (show Q = false by rw [HQ.out]; exact bl_f fun h => h.2.2 (by rw [← HNA.out, HXY.out.2.2.1, HXY.out.2.2.2, hz1]))
    have hb1 : ((x1.toNat : Int) != (y1.toNat : Int)) = false := by simp [hz1]
    clear hz0 hz1
    go_enter Try.func45, Try.ntmps45
    go_upto_region 2 with fail
    have s_v0 := fun (s : Calm w) => s.kept.cell v0 (by simp)
    have s_v1 := fun (s : Calm w) => s.kept.cell v1 (by simp)
    have s_v2 := fun (s : Calm w) => s.kept.cell v2 (by simp)
    have s_v3 := fun (s : Calm w) => s.kept.cell v3 (by simp)
    have KR := @hideH _ (Kept.refl [] w)
    clear v0 v1 v2 v3
    refine wp_region_calm KR.out (by kernel_rfl) (by kernel_rfl) ?_
    repeat (go_big_quiet_step (fail))
    refine wpQuiet_nil ?_
    intro _ hw'
    obtain ⟨sq, hw''⟩ := hw'
    subst hw''
    have ks := sq.kept
    generalize sq.at = wx at ks ⊢
    clear sq
    have RK := @hideH _ ks
    clear ks s_v0 s_v1 s_v2 s_v3
    go_wp2
    go_ret
    exact ⟨by rw [eQ.out]; rfl, RK.out⟩
  have hb1 := byteNe hz1
  have eQ := @hideH _ (show Q = true by rw [HQ.out]; exact bl_t ⟨by rw [HL.out, HNA.out], by rw [HXY.out.1, HXY.out.2.1]; simpa using hz0, by rw [← HNA.out, HXY.out.2.2.1, HXY.out.2.2.2]; simpa using hz1⟩)
  clear hz0 hz1
  go_enter Try.func45, Try.ntmps45
  go_upto_region 2 with fail
  have s_v0 := fun (s : Calm w) => s.kept.cell v0 (by simp)
  have s_v1 := fun (s : Calm w) => s.kept.cell v1 (by simp)
  have s_v2 := fun (s : Calm w) => s.kept.cell v2 (by simp)
  have s_v3 := fun (s : Calm w) => s.kept.cell v3 (by simp)
  have KR := @hideH _ (Kept.refl [] w)
  clear v0 v1 v2 v3
  refine wp_region_calm KR.out (by kernel_rfl) (by kernel_rfl) ?_
  repeat (go_big_quiet_step (fail))
  refine wpQuiet_nil ?_
  intro _ hw'
  obtain ⟨sq, hw''⟩ := hw'
  subst hw''
  have ks := sq.kept
  generalize sq.at = wx at ks ⊢
  clear sq
  have RK := @hideH _ ks
  clear ks s_v0 s_v1 s_v2 s_v3
  go_wp2
  go_ret
  exact ⟨by rw [eQ.out]; rfl, RK.out⟩
set_option maxHeartbeats 1600000 in
theorem qRow (x : RowR) (w : World) : Calls Try.prog 67 #[.agg #[.int .i64 x.birth, .int .i64 x.id, .int .i64 x.state, .int .i64 x.last, .int .i64 x.next]] w fun e w' => e = .returned (.bool (bl (rowOk x))) ∧ Kept [] w w' := by
  obtain ⟨birth, id, state, last, next⟩ := x
  dsimp only
  have hl1 := fun w => pIsLsn birth w
  have hl4 := fun w => pIsId id w
  have hl2 := fun w => pIsLsn last w
  have hl3 := fun w => pIsNext next w
  have F : ∀ {P : Prop}, (rowOk ⟨birth, id, state, last, next⟩ → P) → ¬ P → bl (rowOk ⟨birth, id, state, last, next⟩) = false := fun h1 h2 => bl_f fun h => h2 (h1 h)
  by_cases h1 : lsnOk birth
  · rw [bl_t h1] at hl1
    by_cases h2 : idOk id
    · rw [bl_t h2] at hl4
      by_cases h4 : state = 1
      · subst h4
        by_cases h5 : lsnOk last
        · rw [bl_t h5] at hl2
          by_cases h6 : nextOk next
          · rw [bl_t h6] at hl3
            rw [bl_t (show rowOk ⟨birth, id, 1, last, next⟩ from ⟨h1, h2, .inl rfl, h5, h6⟩)]
            clear F h1 h2 h5 h6
            go_enter Try.func67, Try.ntmps67
            go_wp2_with fail
            refine (hl1 _).mono ?_
            rintro e w1 ⟨rfl, rfl⟩
            go_wp2_with fail
            refine (hl4 _).mono ?_
            rintro e w2 ⟨rfl, rfl⟩
            go_wp2_with fail
            refine (hl2 _).mono ?_
            rintro e w3 ⟨rfl, rfl⟩
            go_wp2_with fail
            refine (hl3 _).mono ?_
            rintro e w4 ⟨rfl, rfl⟩
            go_wp2
            go_ret
            exact ⟨by simp, (Kept.refl [] _).alloc _⟩
          · rw [F (fun h => h.2.2.2.2) h6]
            rw [bl_f h6] at hl3
            clear F h1 h2 h5 h6
            go_enter Try.func67, Try.ntmps67
            go_wp2_with fail
            refine (hl1 _).mono ?_
            rintro e w1 ⟨rfl, rfl⟩
            go_wp2_with fail
            refine (hl4 _).mono ?_
            rintro e w2 ⟨rfl, rfl⟩
            go_wp2_with fail
            refine (hl2 _).mono ?_
            rintro e w3 ⟨rfl, rfl⟩
            go_wp2_with fail
            refine (hl3 _).mono ?_
            rintro e w4 ⟨rfl, rfl⟩
            go_wp2
            go_ret
            exact ⟨by simp, (Kept.refl [] _).alloc _⟩
        · rw [F (fun h => h.2.2.2.1) h5]
          rw [bl_f h5] at hl2
          clear F h1 h2 h5
          go_enter Try.func67, Try.ntmps67
          go_wp2_with fail
          refine (hl1 _).mono ?_
          rintro e w1 ⟨rfl, rfl⟩
          go_wp2_with fail
          refine (hl4 _).mono ?_
          rintro e w2 ⟨rfl, rfl⟩
          go_wp2_with fail
          refine (hl2 _).mono ?_
          rintro e w3 ⟨rfl, rfl⟩
          go_wp2
          go_ret
          exact ⟨by simp, (Kept.refl [] _).alloc _⟩
      · by_cases h4' : state = 2
        · subst h4'
          by_cases h5 : lsnOk last
          · rw [bl_t h5] at hl2
            by_cases h6 : nextOk next
            · rw [bl_t h6] at hl3
              rw [bl_t (show rowOk ⟨birth, id, 2, last, next⟩ from ⟨h1, h2, .inr rfl, h5, h6⟩)]
              clear F h1 h2 h5 h6
              go_enter Try.func67, Try.ntmps67
              go_wp2_with fail
              refine (hl1 _).mono ?_
              rintro e w1 ⟨rfl, rfl⟩
              go_wp2_with fail
              refine (hl4 _).mono ?_
              rintro e w2 ⟨rfl, rfl⟩
              go_wp2_with fail
              refine (hl2 _).mono ?_
              rintro e w3 ⟨rfl, rfl⟩
              go_wp2_with fail
              refine (hl3 _).mono ?_
              rintro e w4 ⟨rfl, rfl⟩
              go_wp2
              go_ret
              exact ⟨by simp, (Kept.refl [] _).alloc _⟩
            · rw [F (fun h => h.2.2.2.2) h6]
              rw [bl_f h6] at hl3
              clear F h1 h2 h5 h6
              go_enter Try.func67, Try.ntmps67
              go_wp2_with fail
              refine (hl1 _).mono ?_
              rintro e w1 ⟨rfl, rfl⟩
              go_wp2_with fail
              refine (hl4 _).mono ?_
              rintro e w2 ⟨rfl, rfl⟩
              go_wp2_with fail
              refine (hl2 _).mono ?_
              rintro e w3 ⟨rfl, rfl⟩
              go_wp2_with fail
              refine (hl3 _).mono ?_
              rintro e w4 ⟨rfl, rfl⟩
              go_wp2
              go_ret
              exact ⟨by simp, (Kept.refl [] _).alloc _⟩
          · rw [F (fun h => h.2.2.2.1) h5]
            rw [bl_f h5] at hl2
            clear F h1 h2 h5
            go_enter Try.func67, Try.ntmps67
            go_wp2_with fail
            refine (hl1 _).mono ?_
            rintro e w1 ⟨rfl, rfl⟩
            go_wp2_with fail
            refine (hl4 _).mono ?_
            rintro e w2 ⟨rfl, rfl⟩
            go_wp2_with fail
            refine (hl2 _).mono ?_
            rintro e w3 ⟨rfl, rfl⟩
            go_wp2
            go_ret
            exact ⟨by simp, (Kept.refl [] _).alloc _⟩
        · rw [F (fun h => h.2.2.1) (fun h => by rcases h with h | h; exact h4 h; exact h4' h)]
          have e1 : (state == 1) = false := by simp [h4]
          have e2 : (state == 2) = false := by simp [h4']
          clear F h1 h2
          go_enter Try.func67, Try.ntmps67
          go_wp2_with fail
          refine (hl1 _).mono ?_
          rintro e w1 ⟨rfl, rfl⟩
          go_wp2_with fail
          refine (hl4 _).mono ?_
          rintro e w2 ⟨rfl, rfl⟩
          go_wp2
          go_ret
          exact ⟨by simp, (Kept.refl [] _).alloc _⟩
    · rw [F (fun h => h.2.1) h2]
      rw [bl_f h2] at hl4
      clear F h1 h2
      go_enter Try.func67, Try.ntmps67
      go_wp2_with fail
      refine (hl1 _).mono ?_
      rintro e w1 ⟨rfl, rfl⟩
      go_wp2_with fail
      refine (hl4 _).mono ?_
      rintro e w2 ⟨rfl, rfl⟩
      go_wp2
      go_ret
      exact ⟨by simp, (Kept.refl [] _).alloc _⟩
  · rw [F (fun h => h.1) h1]
    rw [bl_f h1] at hl1
    clear F h1
    go_enter Try.func67, Try.ntmps67
    go_wp2_with fail
    refine (hl1 _).mono ?_
    rintro e w1 ⟨rfl, rfl⟩
    go_wp2
    go_ret
    exact ⟨by simp, (Kept.refl [] _).alloc _⟩
end Go.Proofs.Ytebcmcmboomgfaa

