import Derived.Test.YtebcmcmboomgfaaC2
/-
  OWN WORK (by mkrec4.py). The document's records (tidemarkref09): Right, of one kind.
-/
namespace Go.Proofs.Ytebcmcmboomgfaa
open Go.RowKit
set_option linter.unusedVariables false
set_option linter.unusedSimpArgs false

theorem byte_ne {x y : UInt8} (h : x ≠ y) : ((x.toNat : Int) != (y.toNat : Int)) = true := by
  simp only [bne_iff_ne, ne_eq, Int.natCast_inj]
  exact fun e => h (UInt8.toNat_inj.1 e)

set_option maxRecDepth 20000 in
set_option maxHeartbeats 12800000 in
theorem rRight_2 (V : RV) (birth prev id page frm : Int) (before after : List UInt8) (next : Int) (rows : List RowR) (dirty : List RecR) (w : World) (h : SeeR w V (⟨2, birth, prev, id, page, frm, before, after, next, rows, dirty⟩ : Rcd)) : Calls Try.prog 39 #[(⟨2, birth, prev, id, page, frm, before, after, next, rows, dirty⟩ : Rcd).agg V] w fun e w' => e = .returned (.bool (bl (⟨2, birth, prev, id, page, frm, before, after, next, rows, dirty⟩ : Rcd).Right)) ∧ Kept [] w w' := by
  haveI HNE : ∀ w2, Nonempty (Calm w2) := calmNe
  obtain ⟨pb, cb, pa, ca, pr, cr, pd, cd, rfl⟩ := h.shapes
  have RI : (⟨2, birth, prev, id, page, frm, before, after, next, rows, dirty⟩ : Rcd).Right ↔ (lsnOk birth ∧ lsnOk prev) ∧ id = 0 ∧ (rows = [] ∧ dirty = []) ∧ next = 0 ∧ rangedOk (⟨2, birth, prev, id, page, frm, before, after, next, rows, dirty⟩ : Rcd) ∧ partsOk (⟨2, birth, prev, id, page, frm, before, after, next, rows, dirty⟩ : Rcd) := by unfold Rcd.Right; simp
  obtain ⟨PL, hPL⟩ : ∃ PL : Prop, PL = listsOk (⟨2, birth, prev, id, page, frm, before, after, next, rows, dirty⟩ : Rcd) := ⟨_, rfl⟩
  obtain ⟨PR, hPR⟩ : ∃ PR : Prop, PR = rangedOk (⟨2, birth, prev, id, page, frm, before, after, next, rows, dirty⟩ : Rcd) := ⟨_, rfl⟩
  obtain ⟨PP, hPP⟩ : ∃ PP : Prop, PP = partsOk (⟨2, birth, prev, id, page, frm, before, after, next, rows, dirty⟩ : Rcd) := ⟨_, rfl⟩
  have hb := fun w => rIsLsn birth w
  have hp := fun w => rIsLsn prev w
  have hn := fun w => rIsNext next w
  have hu := fun (wz : World) (kz : Kept [] w wz) => rUnranged _ (⟨2, birth, prev, id, page, frm, before, after, next, rows, dirty⟩ : Rcd) wz (h.kept kz)
  have hr := fun (wz : World) (kz : Kept [] w wz) => rRanged _ (⟨2, birth, prev, id, page, frm, before, after, next, rows, dirty⟩ : Rcd) wz (h.kept kz)
  have hl := fun (wz : World) (kz : Kept [] w wz) => rLists _ (⟨2, birth, prev, id, page, frm, before, after, next, rows, dirty⟩ : Rcd) wz (h.kept kz)
  rw [← hPR] at RI
  simp only [← hPR] at hr
  rw [← hPP] at RI
  have HPL := @hideH _ hPL
  have HPR := @hideH _ hPR
  have HPP := @hideH _ hPP
  have HRI := @hideH _ RI
  clear hPL hPR hPP RI
  have hBS := @hideH _ h.before
  have hAS := @hideH _ h.after
  have hmx := @hideH _ (show after.length ≤ maxLen from (by obtain ⟨_, _, e, h1, h2, _⟩ := h.after; cases e; exact Nat.le_trans h1 h2))
  clear h
  unfold Rcd.agg at hu hr hl ⊢
  dsimp only at hu hr hl hBS hAS ⊢
  obtain ⟨Q, hQ⟩ : ∃ Q, Q = bl (⟨2, birth, prev, id, page, frm, before, after, next, rows, dirty⟩ : Rcd).Right := ⟨_, rfl⟩
  rw [← hQ]
  have HQ := @hideH _ hQ
  clear hQ
  obtain ⟨nb, hnb⟩ : ∃ nb, nb = before.length := ⟨_, rfl⟩
  obtain ⟨na, hna⟩ : ∃ na, na = after.length := ⟨_, rfl⟩
  obtain ⟨nr, hnr⟩ : ∃ nr, nr = rows.length := ⟨_, rfl⟩
  obtain ⟨nd, hnd⟩ : ∃ nd, nd = dirty.length := ⟨_, rfl⟩
  simp only [← hnb, ← hna, ← hnr, ← hnd] at hu hr hl ⊢
  have HNB := @hideH _ hnb
  have HNA := @hideH _ hna
  have HNR := @hideH _ hnr
  have HND := @hideH _ hnd
  clear hnb hna hnr hnd
  clear hn
  clear hu
  clear hl
  by_cases h0 : lsnOk birth
  · simp only [bl_t h0] at hb
    have k0 := @hideH _ h0
    clear h0
    by_cases h1 : lsnOk prev
    · simp only [bl_t h1] at hp
      have k1 := @hideH _ h1
      clear h1
      by_cases h2 : id = 0
      · subst h2
        by_cases h3 : nr = 0
        · subst h3
          by_cases h4 : nd = 0
          · subst h4
            by_cases h5 : next = 0
            · subst h5
              by_cases h6 : PR
              · simp only [bl_t h6] at hr
                have k6 := @hideH _ h6
                clear h6
                have HRG := @hideH _ (show 1 ≤ na ∧ na ≤ 128 by have := (Eq.mp HPR.out k6.out).2.1; simp only at this; rw [HNA.out]; exact this)
                by_cases hlen : nb = na
                rotate_left
                · have eQ := @hideH _ (show Q = false by rw [HQ.out]; exact bl_f (fun hR => by have q := (Eq.mp HPP.out (HRI.out.1 hR).2.2.2.2.2).1; simp only at q; exact hlen (by rw [HNB.out, HNA.out]; exact q)))
                  have hlb : ((nb : Int) == (na : Int)) = false := beq_eq_false_iff_ne.2 (fun e => hlen (by omega))
                  obtain ⟨w1, hw1⟩ : ∃ w1, w1 = w.alloc (.cells #[.int .i64 2, .int .i64 birth, .int .i64 prev, .int .i64 0, .int .i64 page, .int .i64 frm, .slice pb nb cb, .slice pa na ca, .int .i64 0, .slice pr 0 cr, .slice pd 0 cd] 26) := ⟨_, rfl⟩
                  have K1 : Kept [] w w1 := by rw [hw1]; exact (Kept.refl [] w).alloc _
                  have bR : Blk w1 w.heap.size 26 [.int .i64 2, .int .i64 birth, .int .i64 prev, .int .i64 0, .int .i64 page, .int .i64 frm, .slice pb nb cb, .slice pa na ca, .int .i64 0, .slice pr 0 cr, .slice pd 0 cd] := by rw [hw1]; exact Blk.new w _ _
                  have c0 := bR.cell (j := 0) rfl
                  have c1 := bR.cell (j := 1) rfl
                  have c2 := bR.cell (j := 2) rfl
                  have c3 := bR.cell (j := 3) rfl
                  have c4 := bR.cell (j := 4) rfl
                  have c5 := bR.cell (j := 5) rfl
                  have c6 := bR.cell (j := 6) rfl
                  have c7 := bR.cell (j := 7) rfl
                  have c8 := bR.cell (j := 8) rfl
                  have c9 := bR.cell (j := 9) rfl
                  have c10 := bR.cell (j := 10) rfl
                  clear bR
                  go_enter Try.func39, Try.ntmps39
                  go_upto_region 1 with fail
                  rw [← hw1]
                  clear hw1
                  go_wp2_with fail
                  refine (hb _).mono ?_
                  rintro e wq ⟨rfl, rfl⟩
                  go_wp2_with fail
                  refine (hp _).mono ?_
                  rintro e wq ⟨rfl, rfl⟩
                  go_wp2_with fail
                  refine (hr _ K1).mono ?_
                  rintro e w2 ⟨rfl, kn⟩
                  have K2 := K1.then kn
                  replace c0 := kn.cell c0 (by simp)
                  replace c1 := kn.cell c1 (by simp)
                  replace c2 := kn.cell c2 (by simp)
                  replace c3 := kn.cell c3 (by simp)
                  replace c4 := kn.cell c4 (by simp)
                  replace c5 := kn.cell c5 (by simp)
                  replace c6 := kn.cell c6 (by simp)
                  replace c7 := kn.cell c7 (by simp)
                  replace c8 := kn.cell c8 (by simp)
                  replace c9 := kn.cell c9 (by simp)
                  replace c10 := kn.cell c10 (by simp)
                  clear kn
                  go_upto_region 21 with fail
                  have s_c6 := fun (s : Calm w2) => s.kept.cell c6 (by simp)
                  have s_c7 := fun (s : Calm w2) => s.kept.cell c7 (by simp)
                  have KR := @hideH _ (Kept.refl [] w2)
                  clear c6 c7
                  refine wp_region_calm KR.out (by kernel_rfl) (by kernel_rfl) ?_
                  repeat (go_big_quiet_step (fail))
                  refine wpQuiet_nil ?_
                  intro _ hw'
                  obtain ⟨sq, hw''⟩ := hw'
                  subst hw''
                  have ks := sq.kept
                  generalize sq.at = wx at ks ⊢
                  clear sq
                  have RK := @hideH _ (K2.then ks)
                  clear ks s_c6 s_c7
                  go_wp2
                  go_ret
                  exact ⟨by rw [eQ.out]; rfl, RK.out⟩
                obtain ⟨x0, hx0⟩ : ∃ x, before[0]? = some x := ⟨_, List.getElem?_eq_getElem (by have := HRG.out; have e1 := HNB.out; omega)⟩
                obtain ⟨y0, hy0⟩ : ∃ x, after[0]? = some x := ⟨_, List.getElem?_eq_getElem (by have := HRG.out; have e1 := HNA.out; omega)⟩
                obtain ⟨x1, hx1⟩ : ∃ x, before[na - 1]? = some x := ⟨_, List.getElem?_eq_getElem (by have := HRG.out; have e1 := HNB.out; omega)⟩
                obtain ⟨y1, hy1⟩ : ∃ x, after[na - 1]? = some x := ⟨_, List.getElem?_eq_getElem (by have := HRG.out; have e1 := HNA.out; omega)⟩
                have HXY := @hideH _ (And.intro hx0 (And.intro hy0 (And.intro hx1 hy1)))
                obtain ⟨bb, ob, cb', eb, -, -, -, hbc⟩ := hBS.out.pos (by have := HRG.out; have e1 := HNB.out; omega)
                obtain ⟨ba, oa, ca', ea, -, -, -, hac⟩ := hAS.out.pos (by have := HRG.out; have e1 := HNA.out; omega)
                obtain rfl : pb = some ⟨bb, ob, none⟩ := by simp at eb; exact eb.1
                obtain rfl : pa = some ⟨ba, oa, none⟩ := by simp at ea; exact ea.1
                have v0 : w.cell? ⟨bb, ob, none⟩ = some (.int .u8 (x0.toNat : Int)) := hbc 0 x0 hx0
                have v1 : w.cell? ⟨ba, oa, none⟩ = some (.int .u8 (y0.toNat : Int)) := hac 0 y0 hy0
                have v2 := hbc (na - 1) x1 hx1
                have v3 := hac (na - 1) y1 hy1
                have wna : IntKind.i64.wrap ((na : Int) - 1) = ((na - 1 : Nat) : Int) := by rw [show (na : Int) - 1 = ((na - 1 : Nat) : Int) by have := HRG.out; omega]; exact wrap_i64_of (by omega) (by have := HRG.out; omega)
                have nz : (0 : Int) < (na : Int) := by have := HRG.out; omega
                have nz' : 0 < na := by have := HRG.out; omega
                have nl : ((na - 1 : Nat) : Int) < (na : Int) := by have := HRG.out; omega
                have nl0 : (0 : Int) ≤ ((na - 1 : Nat) : Int) := by omega
                have HLEN := @hideH _ hlen
                subst hlen
                clear hx0 hy0 hx1 hy1 eb ea hbc hac
                by_cases hz0 : x0 = y0
                · have eQ := @hideH _ (show Q = false by rw [HQ.out]; exact bl_f (fun hR => by have q := (Eq.mp HPP.out (HRI.out.1 hR).2.2.2.2.2).2.1; simp only at q; exact q (by rw [HXY.out.1, HXY.out.2.1, hz0])))
                  have hbz : ((x0.toNat : Int) != (y0.toNat : Int)) = false := by simp [hz0]
                  clear hz0
                  obtain ⟨w1, hw1⟩ : ∃ w1, w1 = w.alloc (.cells #[.int .i64 2, .int .i64 birth, .int .i64 prev, .int .i64 0, .int .i64 page, .int .i64 frm, .slice (some ⟨bb, ob, none⟩) nb cb, .slice (some ⟨ba, oa, none⟩) nb ca, .int .i64 0, .slice pr 0 cr, .slice pd 0 cd] 26) := ⟨_, rfl⟩
                  have K1 : Kept [] w w1 := by rw [hw1]; exact (Kept.refl [] w).alloc _
                  have bR : Blk w1 w.heap.size 26 [.int .i64 2, .int .i64 birth, .int .i64 prev, .int .i64 0, .int .i64 page, .int .i64 frm, .slice (some ⟨bb, ob, none⟩) nb cb, .slice (some ⟨ba, oa, none⟩) nb ca, .int .i64 0, .slice pr 0 cr, .slice pd 0 cd] := by rw [hw1]; exact Blk.new w _ _
                  have c0 := bR.cell (j := 0) rfl
                  have c1 := bR.cell (j := 1) rfl
                  have c2 := bR.cell (j := 2) rfl
                  have c3 := bR.cell (j := 3) rfl
                  have c4 := bR.cell (j := 4) rfl
                  have c5 := bR.cell (j := 5) rfl
                  have c6 := bR.cell (j := 6) rfl
                  have c7 := bR.cell (j := 7) rfl
                  have c8 := bR.cell (j := 8) rfl
                  have c9 := bR.cell (j := 9) rfl
                  have c10 := bR.cell (j := 10) rfl
                  clear bR
                  go_enter Try.func39, Try.ntmps39
                  go_upto_region 1 with fail
                  rw [← hw1]
                  clear hw1
                  go_wp2_with fail
                  refine (hb _).mono ?_
                  rintro e wq ⟨rfl, rfl⟩
                  go_wp2_with fail
                  refine (hp _).mono ?_
                  rintro e wq ⟨rfl, rfl⟩
                  go_wp2_with fail
                  refine (hr _ K1).mono ?_
                  rintro e w2 ⟨rfl, kn⟩
                  have K2 := K1.then kn
                  replace c0 := kn.cell c0 (by simp)
                  replace c1 := kn.cell c1 (by simp)
                  replace c2 := kn.cell c2 (by simp)
                  replace c3 := kn.cell c3 (by simp)
                  replace c4 := kn.cell c4 (by simp)
                  replace c5 := kn.cell c5 (by simp)
                  replace c6 := kn.cell c6 (by simp)
                  replace c7 := kn.cell c7 (by simp)
                  replace c8 := kn.cell c8 (by simp)
                  replace c9 := kn.cell c9 (by simp)
                  replace c10 := kn.cell c10 (by simp)
                  clear kn
                  go_upto_region 21 with fail
                  have u_v0 := K2.cell v0 (by simp)
                  have u_v1 := K2.cell v1 (by simp)
                  have u_v2 := K2.cell v2 (by simp)
                  have u_v3 := K2.cell v3 (by simp)
                  have s_c6 := fun (s : Calm w2) => s.kept.cell c6 (by simp)
                  have s_c7 := fun (s : Calm w2) => s.kept.cell c7 (by simp)
                  have s_u_v0 := fun (s : Calm w2) => s.kept.cell u_v0 (by simp)
                  have s_u_v1 := fun (s : Calm w2) => s.kept.cell u_v1 (by simp)
                  have s_u_v2 := fun (s : Calm w2) => s.kept.cell u_v2 (by simp)
                  have s_u_v3 := fun (s : Calm w2) => s.kept.cell u_v3 (by simp)
                  have KR := @hideH _ (Kept.refl [] w2)
                  clear c6 c7 u_v0 u_v1 u_v2 u_v3
                  refine wp_region_calm KR.out (by kernel_rfl) (by kernel_rfl) ?_
                  repeat (go_big_quiet_step (fail))
                  refine wpQuiet_nil ?_
                  intro _ hw'
                  obtain ⟨sq, hw''⟩ := hw'
                  subst hw''
                  have ks := sq.kept
                  generalize sq.at = wx at ks ⊢
                  clear sq
                  have RK := @hideH _ (K2.then ks)
                  clear ks s_c6 s_c7 s_u_v0 s_u_v1 s_u_v2 s_u_v3
                  go_wp2
                  go_ret
                  exact ⟨by rw [eQ.out]; rfl, RK.out⟩
                · have hbz : ((x0.toNat : Int) != (y0.toNat : Int)) = true := byte_ne hz0
                  by_cases hz1 : x1 = y1
                  · have eQ := @hideH _ (show Q = false by rw [HQ.out]; exact bl_f (fun hR => by have q := (Eq.mp HPP.out (HRI.out.1 hR).2.2.2.2.2).2.2; simp only at q; exact q (by rw [← HNA.out, HXY.out.2.2.1, HXY.out.2.2.2, hz1])))
                    have hby : ((x1.toNat : Int) != (y1.toNat : Int)) = false := by simp [hz1]
                    clear hz0 hz1
                    obtain ⟨w1, hw1⟩ : ∃ w1, w1 = w.alloc (.cells #[.int .i64 2, .int .i64 birth, .int .i64 prev, .int .i64 0, .int .i64 page, .int .i64 frm, .slice (some ⟨bb, ob, none⟩) nb cb, .slice (some ⟨ba, oa, none⟩) nb ca, .int .i64 0, .slice pr 0 cr, .slice pd 0 cd] 26) := ⟨_, rfl⟩
                    have K1 : Kept [] w w1 := by rw [hw1]; exact (Kept.refl [] w).alloc _
                    have bR : Blk w1 w.heap.size 26 [.int .i64 2, .int .i64 birth, .int .i64 prev, .int .i64 0, .int .i64 page, .int .i64 frm, .slice (some ⟨bb, ob, none⟩) nb cb, .slice (some ⟨ba, oa, none⟩) nb ca, .int .i64 0, .slice pr 0 cr, .slice pd 0 cd] := by rw [hw1]; exact Blk.new w _ _
                    have c0 := bR.cell (j := 0) rfl
                    have c1 := bR.cell (j := 1) rfl
                    have c2 := bR.cell (j := 2) rfl
                    have c3 := bR.cell (j := 3) rfl
                    have c4 := bR.cell (j := 4) rfl
                    have c5 := bR.cell (j := 5) rfl
                    have c6 := bR.cell (j := 6) rfl
                    have c7 := bR.cell (j := 7) rfl
                    have c8 := bR.cell (j := 8) rfl
                    have c9 := bR.cell (j := 9) rfl
                    have c10 := bR.cell (j := 10) rfl
                    clear bR
                    go_enter Try.func39, Try.ntmps39
                    go_upto_region 1 with fail
                    rw [← hw1]
                    clear hw1
                    go_wp2_with fail
                    refine (hb _).mono ?_
                    rintro e wq ⟨rfl, rfl⟩
                    go_wp2_with fail
                    refine (hp _).mono ?_
                    rintro e wq ⟨rfl, rfl⟩
                    go_wp2_with fail
                    refine (hr _ K1).mono ?_
                    rintro e w2 ⟨rfl, kn⟩
                    have K2 := K1.then kn
                    replace c0 := kn.cell c0 (by simp)
                    replace c1 := kn.cell c1 (by simp)
                    replace c2 := kn.cell c2 (by simp)
                    replace c3 := kn.cell c3 (by simp)
                    replace c4 := kn.cell c4 (by simp)
                    replace c5 := kn.cell c5 (by simp)
                    replace c6 := kn.cell c6 (by simp)
                    replace c7 := kn.cell c7 (by simp)
                    replace c8 := kn.cell c8 (by simp)
                    replace c9 := kn.cell c9 (by simp)
                    replace c10 := kn.cell c10 (by simp)
                    clear kn
                    go_upto_region 21 with fail
                    have u_v0 := K2.cell v0 (by simp)
                    have u_v1 := K2.cell v1 (by simp)
                    have u_v2 := K2.cell v2 (by simp)
                    have u_v3 := K2.cell v3 (by simp)
                    have s_c6 := fun (s : Calm w2) => s.kept.cell c6 (by simp)
                    have s_c7 := fun (s : Calm w2) => s.kept.cell c7 (by simp)
                    have s_u_v0 := fun (s : Calm w2) => s.kept.cell u_v0 (by simp)
                    have s_u_v1 := fun (s : Calm w2) => s.kept.cell u_v1 (by simp)
                    have s_u_v2 := fun (s : Calm w2) => s.kept.cell u_v2 (by simp)
                    have s_u_v3 := fun (s : Calm w2) => s.kept.cell u_v3 (by simp)
                    have KR := @hideH _ (Kept.refl [] w2)
                    clear c6 c7 u_v0 u_v1 u_v2 u_v3
                    refine wp_region_calm KR.out (by kernel_rfl) (by kernel_rfl) ?_
                    repeat (go_big_quiet_step (fail))
                    refine wpQuiet_nil ?_
                    intro _ hw'
                    obtain ⟨sq, hw''⟩ := hw'
                    subst hw''
                    have ks := sq.kept
                    generalize sq.at = wx at ks ⊢
                    clear sq
                    have RK := @hideH _ (K2.then ks)
                    clear ks s_c6 s_c7 s_u_v0 s_u_v1 s_u_v2 s_u_v3
                    go_wp2
                    go_ret
                    exact ⟨by rw [eQ.out]; rfl, RK.out⟩
                  · have hby : ((x1.toNat : Int) != (y1.toNat : Int)) = true := byte_ne hz1
                    have eQ := @hideH _ (show Q = true by rw [HQ.out]; exact bl_t (HRI.out.2 ⟨⟨k0.out, k1.out⟩, rfl, ⟨(List.eq_nil_of_length_eq_zero HNR.out.symm), (List.eq_nil_of_length_eq_zero HND.out.symm)⟩, rfl, k6.out, (Eq.mpr HPP.out ⟨by rw [← HNB.out, ← HNA.out], fun e => hz0 (by rw [HXY.out.1, HXY.out.2.1] at e; exact Option.some.inj e), fun e => hz1 (by rw [← HNA.out, HXY.out.2.2.1, HXY.out.2.2.2] at e; exact Option.some.inj e)⟩)⟩))
                    clear hz0 hz1
                    obtain ⟨w1, hw1⟩ : ∃ w1, w1 = w.alloc (.cells #[.int .i64 2, .int .i64 birth, .int .i64 prev, .int .i64 0, .int .i64 page, .int .i64 frm, .slice (some ⟨bb, ob, none⟩) nb cb, .slice (some ⟨ba, oa, none⟩) nb ca, .int .i64 0, .slice pr 0 cr, .slice pd 0 cd] 26) := ⟨_, rfl⟩
                    have K1 : Kept [] w w1 := by rw [hw1]; exact (Kept.refl [] w).alloc _
                    have bR : Blk w1 w.heap.size 26 [.int .i64 2, .int .i64 birth, .int .i64 prev, .int .i64 0, .int .i64 page, .int .i64 frm, .slice (some ⟨bb, ob, none⟩) nb cb, .slice (some ⟨ba, oa, none⟩) nb ca, .int .i64 0, .slice pr 0 cr, .slice pd 0 cd] := by rw [hw1]; exact Blk.new w _ _
                    have c0 := bR.cell (j := 0) rfl
                    have c1 := bR.cell (j := 1) rfl
                    have c2 := bR.cell (j := 2) rfl
                    have c3 := bR.cell (j := 3) rfl
                    have c4 := bR.cell (j := 4) rfl
                    have c5 := bR.cell (j := 5) rfl
                    have c6 := bR.cell (j := 6) rfl
                    have c7 := bR.cell (j := 7) rfl
                    have c8 := bR.cell (j := 8) rfl
                    have c9 := bR.cell (j := 9) rfl
                    have c10 := bR.cell (j := 10) rfl
                    clear bR
                    go_enter Try.func39, Try.ntmps39
                    go_upto_region 1 with fail
                    rw [← hw1]
                    clear hw1
                    go_wp2_with fail
                    refine (hb _).mono ?_
                    rintro e wq ⟨rfl, rfl⟩
                    go_wp2_with fail
                    refine (hp _).mono ?_
                    rintro e wq ⟨rfl, rfl⟩
                    go_wp2_with fail
                    refine (hr _ K1).mono ?_
                    rintro e w2 ⟨rfl, kn⟩
                    have K2 := K1.then kn
                    replace c0 := kn.cell c0 (by simp)
                    replace c1 := kn.cell c1 (by simp)
                    replace c2 := kn.cell c2 (by simp)
                    replace c3 := kn.cell c3 (by simp)
                    replace c4 := kn.cell c4 (by simp)
                    replace c5 := kn.cell c5 (by simp)
                    replace c6 := kn.cell c6 (by simp)
                    replace c7 := kn.cell c7 (by simp)
                    replace c8 := kn.cell c8 (by simp)
                    replace c9 := kn.cell c9 (by simp)
                    replace c10 := kn.cell c10 (by simp)
                    clear kn
                    go_upto_region 21 with fail
                    have u_v0 := K2.cell v0 (by simp)
                    have u_v1 := K2.cell v1 (by simp)
                    have u_v2 := K2.cell v2 (by simp)
                    have u_v3 := K2.cell v3 (by simp)
                    have s_c6 := fun (s : Calm w2) => s.kept.cell c6 (by simp)
                    have s_c7 := fun (s : Calm w2) => s.kept.cell c7 (by simp)
                    have s_u_v0 := fun (s : Calm w2) => s.kept.cell u_v0 (by simp)
                    have s_u_v1 := fun (s : Calm w2) => s.kept.cell u_v1 (by simp)
                    have s_u_v2 := fun (s : Calm w2) => s.kept.cell u_v2 (by simp)
                    have s_u_v3 := fun (s : Calm w2) => s.kept.cell u_v3 (by simp)
                    have KR := @hideH _ (Kept.refl [] w2)
                    clear c6 c7 u_v0 u_v1 u_v2 u_v3
                    refine wp_region_calm KR.out (by kernel_rfl) (by kernel_rfl) ?_
                    repeat (go_big_quiet_step (fail))
                    refine wpQuiet_nil ?_
                    intro _ hw'
                    obtain ⟨sq, hw''⟩ := hw'
                    subst hw''
                    have ks := sq.kept
                    generalize sq.at = wx at ks ⊢
                    clear sq
                    have RK := @hideH _ (K2.then ks)
                    clear ks s_c6 s_c7 s_u_v0 s_u_v1 s_u_v2 s_u_v3
                    go_wp2
                    go_ret
                    exact ⟨by rw [eQ.out]; rfl, RK.out⟩
              · have eQ := @hideH _ (show Q = false by rw [HQ.out]; exact bl_f (fun hR => by have q := HRI.out.1 hR; exact h6 (q.2.2.2.2.1)))
                simp only [bl_f h6] at hr
                clear h6
                obtain ⟨w1, hw1⟩ : ∃ w1, w1 = w.alloc (.cells #[.int .i64 2, .int .i64 birth, .int .i64 prev, .int .i64 0, .int .i64 page, .int .i64 frm, .slice pb nb cb, .slice pa na ca, .int .i64 0, .slice pr 0 cr, .slice pd 0 cd] 26) := ⟨_, rfl⟩
                have K1 : Kept [] w w1 := by rw [hw1]; exact (Kept.refl [] w).alloc _
                have bR : Blk w1 w.heap.size 26 [.int .i64 2, .int .i64 birth, .int .i64 prev, .int .i64 0, .int .i64 page, .int .i64 frm, .slice pb nb cb, .slice pa na ca, .int .i64 0, .slice pr 0 cr, .slice pd 0 cd] := by rw [hw1]; exact Blk.new w _ _
                have c0 := bR.cell (j := 0) rfl
                have c1 := bR.cell (j := 1) rfl
                have c2 := bR.cell (j := 2) rfl
                have c3 := bR.cell (j := 3) rfl
                have c4 := bR.cell (j := 4) rfl
                have c5 := bR.cell (j := 5) rfl
                have c6 := bR.cell (j := 6) rfl
                have c7 := bR.cell (j := 7) rfl
                have c8 := bR.cell (j := 8) rfl
                have c9 := bR.cell (j := 9) rfl
                have c10 := bR.cell (j := 10) rfl
                clear bR
                go_enter Try.func39, Try.ntmps39
                go_upto_region 1 with fail
                rw [← hw1]
                clear hw1
                go_wp2_with fail
                refine (hb _).mono ?_
                rintro e wq ⟨rfl, rfl⟩
                go_wp2_with fail
                refine (hp _).mono ?_
                rintro e wq ⟨rfl, rfl⟩
                go_wp2_with fail
                refine (hr _ K1).mono ?_
                rintro e w2 ⟨rfl, kn⟩
                have K2 := K1.then kn
                replace c0 := kn.cell c0 (by simp)
                replace c1 := kn.cell c1 (by simp)
                replace c2 := kn.cell c2 (by simp)
                replace c3 := kn.cell c3 (by simp)
                replace c4 := kn.cell c4 (by simp)
                replace c5 := kn.cell c5 (by simp)
                replace c6 := kn.cell c6 (by simp)
                replace c7 := kn.cell c7 (by simp)
                replace c8 := kn.cell c8 (by simp)
                replace c9 := kn.cell c9 (by simp)
                replace c10 := kn.cell c10 (by simp)
                clear kn
                have RK := @hideH _ K2
                go_wp2
                go_ret
                exact ⟨by rw [eQ.out]; rfl, RK.out⟩
            · have eQ := @hideH _ (show Q = false by rw [HQ.out]; exact bl_f (fun hR => by have q := HRI.out.1 hR; exact h5 (q.2.2.2.1)))
              have e_next : (next != 0) = true := by simp [h5]
              have g_next : (next == 0) = false := by simp [h5]
              obtain ⟨w1, hw1⟩ : ∃ w1, w1 = w.alloc (.cells #[.int .i64 2, .int .i64 birth, .int .i64 prev, .int .i64 0, .int .i64 page, .int .i64 frm, .slice pb nb cb, .slice pa na ca, .int .i64 next, .slice pr 0 cr, .slice pd 0 cd] 26) := ⟨_, rfl⟩
              have K1 : Kept [] w w1 := by rw [hw1]; exact (Kept.refl [] w).alloc _
              have bR : Blk w1 w.heap.size 26 [.int .i64 2, .int .i64 birth, .int .i64 prev, .int .i64 0, .int .i64 page, .int .i64 frm, .slice pb nb cb, .slice pa na ca, .int .i64 next, .slice pr 0 cr, .slice pd 0 cd] := by rw [hw1]; exact Blk.new w _ _
              have c0 := bR.cell (j := 0) rfl
              have c1 := bR.cell (j := 1) rfl
              have c2 := bR.cell (j := 2) rfl
              have c3 := bR.cell (j := 3) rfl
              have c4 := bR.cell (j := 4) rfl
              have c5 := bR.cell (j := 5) rfl
              have c6 := bR.cell (j := 6) rfl
              have c7 := bR.cell (j := 7) rfl
              have c8 := bR.cell (j := 8) rfl
              have c9 := bR.cell (j := 9) rfl
              have c10 := bR.cell (j := 10) rfl
              clear bR
              go_enter Try.func39, Try.ntmps39
              go_upto_region 1 with fail
              rw [← hw1]
              clear hw1
              go_wp2_with fail
              refine (hb _).mono ?_
              rintro e wq ⟨rfl, rfl⟩
              go_wp2_with fail
              refine (hp _).mono ?_
              rintro e wq ⟨rfl, rfl⟩
              have RK := @hideH _ K1
              go_wp2
              go_ret
              exact ⟨by rw [eQ.out]; rfl, RK.out⟩
          · have eQ := @hideH _ (show Q = false by rw [HQ.out]; exact bl_f (fun hR => by have q := HRI.out.1 hR; exact h4 (by rw [HND.out, q.2.2.1.2]; rfl)))
            have g_nd : 0 < nd := by omega
            have e_nd : ((nd : Int) == 0) = false := by simp [h4]
            obtain ⟨w1, hw1⟩ : ∃ w1, w1 = w.alloc (.cells #[.int .i64 2, .int .i64 birth, .int .i64 prev, .int .i64 0, .int .i64 page, .int .i64 frm, .slice pb nb cb, .slice pa na ca, .int .i64 next, .slice pr 0 cr, .slice pd nd cd] 26) := ⟨_, rfl⟩
            have K1 : Kept [] w w1 := by rw [hw1]; exact (Kept.refl [] w).alloc _
            have bR : Blk w1 w.heap.size 26 [.int .i64 2, .int .i64 birth, .int .i64 prev, .int .i64 0, .int .i64 page, .int .i64 frm, .slice pb nb cb, .slice pa na ca, .int .i64 next, .slice pr 0 cr, .slice pd nd cd] := by rw [hw1]; exact Blk.new w _ _
            have c0 := bR.cell (j := 0) rfl
            have c1 := bR.cell (j := 1) rfl
            have c2 := bR.cell (j := 2) rfl
            have c3 := bR.cell (j := 3) rfl
            have c4 := bR.cell (j := 4) rfl
            have c5 := bR.cell (j := 5) rfl
            have c6 := bR.cell (j := 6) rfl
            have c7 := bR.cell (j := 7) rfl
            have c8 := bR.cell (j := 8) rfl
            have c9 := bR.cell (j := 9) rfl
            have c10 := bR.cell (j := 10) rfl
            clear bR
            go_enter Try.func39, Try.ntmps39
            go_upto_region 1 with fail
            rw [← hw1]
            clear hw1
            go_wp2_with fail
            refine (hb _).mono ?_
            rintro e wq ⟨rfl, rfl⟩
            go_wp2_with fail
            refine (hp _).mono ?_
            rintro e wq ⟨rfl, rfl⟩
            have RK := @hideH _ K1
            go_wp2
            go_ret
            exact ⟨by rw [eQ.out]; rfl, RK.out⟩
        · have eQ := @hideH _ (show Q = false by rw [HQ.out]; exact bl_f (fun hR => by have q := HRI.out.1 hR; exact h3 (by rw [HNR.out, q.2.2.1.1]; rfl)))
          have g_nr : 0 < nr := by omega
          have e_nr : ((nr : Int) == 0) = false := by simp [h3]
          obtain ⟨w1, hw1⟩ : ∃ w1, w1 = w.alloc (.cells #[.int .i64 2, .int .i64 birth, .int .i64 prev, .int .i64 0, .int .i64 page, .int .i64 frm, .slice pb nb cb, .slice pa na ca, .int .i64 next, .slice pr nr cr, .slice pd nd cd] 26) := ⟨_, rfl⟩
          have K1 : Kept [] w w1 := by rw [hw1]; exact (Kept.refl [] w).alloc _
          have bR : Blk w1 w.heap.size 26 [.int .i64 2, .int .i64 birth, .int .i64 prev, .int .i64 0, .int .i64 page, .int .i64 frm, .slice pb nb cb, .slice pa na ca, .int .i64 next, .slice pr nr cr, .slice pd nd cd] := by rw [hw1]; exact Blk.new w _ _
          have c0 := bR.cell (j := 0) rfl
          have c1 := bR.cell (j := 1) rfl
          have c2 := bR.cell (j := 2) rfl
          have c3 := bR.cell (j := 3) rfl
          have c4 := bR.cell (j := 4) rfl
          have c5 := bR.cell (j := 5) rfl
          have c6 := bR.cell (j := 6) rfl
          have c7 := bR.cell (j := 7) rfl
          have c8 := bR.cell (j := 8) rfl
          have c9 := bR.cell (j := 9) rfl
          have c10 := bR.cell (j := 10) rfl
          clear bR
          go_enter Try.func39, Try.ntmps39
          go_upto_region 1 with fail
          rw [← hw1]
          clear hw1
          go_wp2_with fail
          refine (hb _).mono ?_
          rintro e wq ⟨rfl, rfl⟩
          go_wp2_with fail
          refine (hp _).mono ?_
          rintro e wq ⟨rfl, rfl⟩
          have RK := @hideH _ K1
          go_wp2
          go_ret
          exact ⟨by rw [eQ.out]; rfl, RK.out⟩
      · have eQ := @hideH _ (show Q = false by rw [HQ.out]; exact bl_f (fun hR => by have q := HRI.out.1 hR; exact h2 (q.2.1)))
        have e_id : (id != 0) = true := by simp [h2]
        have g_id : (id == 0) = false := by simp [h2]
        obtain ⟨w1, hw1⟩ : ∃ w1, w1 = w.alloc (.cells #[.int .i64 2, .int .i64 birth, .int .i64 prev, .int .i64 id, .int .i64 page, .int .i64 frm, .slice pb nb cb, .slice pa na ca, .int .i64 next, .slice pr nr cr, .slice pd nd cd] 26) := ⟨_, rfl⟩
        have K1 : Kept [] w w1 := by rw [hw1]; exact (Kept.refl [] w).alloc _
        have bR : Blk w1 w.heap.size 26 [.int .i64 2, .int .i64 birth, .int .i64 prev, .int .i64 id, .int .i64 page, .int .i64 frm, .slice pb nb cb, .slice pa na ca, .int .i64 next, .slice pr nr cr, .slice pd nd cd] := by rw [hw1]; exact Blk.new w _ _
        have c0 := bR.cell (j := 0) rfl
        have c1 := bR.cell (j := 1) rfl
        have c2 := bR.cell (j := 2) rfl
        have c3 := bR.cell (j := 3) rfl
        have c4 := bR.cell (j := 4) rfl
        have c5 := bR.cell (j := 5) rfl
        have c6 := bR.cell (j := 6) rfl
        have c7 := bR.cell (j := 7) rfl
        have c8 := bR.cell (j := 8) rfl
        have c9 := bR.cell (j := 9) rfl
        have c10 := bR.cell (j := 10) rfl
        clear bR
        go_enter Try.func39, Try.ntmps39
        go_upto_region 1 with fail
        rw [← hw1]
        clear hw1
        go_wp2_with fail
        refine (hb _).mono ?_
        rintro e wq ⟨rfl, rfl⟩
        go_wp2_with fail
        refine (hp _).mono ?_
        rintro e wq ⟨rfl, rfl⟩
        have RK := @hideH _ K1
        go_wp2
        go_ret
        exact ⟨by rw [eQ.out]; rfl, RK.out⟩
    · have eQ := @hideH _ (show Q = false by rw [HQ.out]; exact bl_f (fun hR => by have q := HRI.out.1 hR; exact h1 (q.1.2)))
      simp only [bl_f h1] at hp
      clear h1
      obtain ⟨w1, hw1⟩ : ∃ w1, w1 = w.alloc (.cells #[.int .i64 2, .int .i64 birth, .int .i64 prev, .int .i64 id, .int .i64 page, .int .i64 frm, .slice pb nb cb, .slice pa na ca, .int .i64 next, .slice pr nr cr, .slice pd nd cd] 26) := ⟨_, rfl⟩
      have K1 : Kept [] w w1 := by rw [hw1]; exact (Kept.refl [] w).alloc _
      have bR : Blk w1 w.heap.size 26 [.int .i64 2, .int .i64 birth, .int .i64 prev, .int .i64 id, .int .i64 page, .int .i64 frm, .slice pb nb cb, .slice pa na ca, .int .i64 next, .slice pr nr cr, .slice pd nd cd] := by rw [hw1]; exact Blk.new w _ _
      have c0 := bR.cell (j := 0) rfl
      have c1 := bR.cell (j := 1) rfl
      have c2 := bR.cell (j := 2) rfl
      have c3 := bR.cell (j := 3) rfl
      have c4 := bR.cell (j := 4) rfl
      have c5 := bR.cell (j := 5) rfl
      have c6 := bR.cell (j := 6) rfl
      have c7 := bR.cell (j := 7) rfl
      have c8 := bR.cell (j := 8) rfl
      have c9 := bR.cell (j := 9) rfl
      have c10 := bR.cell (j := 10) rfl
      clear bR
      go_enter Try.func39, Try.ntmps39
      go_upto_region 1 with fail
      rw [← hw1]
      clear hw1
      go_wp2_with fail
      refine (hb _).mono ?_
      rintro e wq ⟨rfl, rfl⟩
      go_wp2_with fail
      refine (hp _).mono ?_
      rintro e wq ⟨rfl, rfl⟩
      have RK := @hideH _ K1
      go_wp2
      go_ret
      exact ⟨by rw [eQ.out]; rfl, RK.out⟩
  · have eQ := @hideH _ (show Q = false by rw [HQ.out]; exact bl_f (fun hR => by have q := HRI.out.1 hR; exact h0 (q.1.1)))
    simp only [bl_f h0] at hb
    clear h0
    obtain ⟨w1, hw1⟩ : ∃ w1, w1 = w.alloc (.cells #[.int .i64 2, .int .i64 birth, .int .i64 prev, .int .i64 id, .int .i64 page, .int .i64 frm, .slice pb nb cb, .slice pa na ca, .int .i64 next, .slice pr nr cr, .slice pd nd cd] 26) := ⟨_, rfl⟩
    have K1 : Kept [] w w1 := by rw [hw1]; exact (Kept.refl [] w).alloc _
    have bR : Blk w1 w.heap.size 26 [.int .i64 2, .int .i64 birth, .int .i64 prev, .int .i64 id, .int .i64 page, .int .i64 frm, .slice pb nb cb, .slice pa na ca, .int .i64 next, .slice pr nr cr, .slice pd nd cd] := by rw [hw1]; exact Blk.new w _ _
    have c0 := bR.cell (j := 0) rfl
    have c1 := bR.cell (j := 1) rfl
    have c2 := bR.cell (j := 2) rfl
    have c3 := bR.cell (j := 3) rfl
    have c4 := bR.cell (j := 4) rfl
    have c5 := bR.cell (j := 5) rfl
    have c6 := bR.cell (j := 6) rfl
    have c7 := bR.cell (j := 7) rfl
    have c8 := bR.cell (j := 8) rfl
    have c9 := bR.cell (j := 9) rfl
    have c10 := bR.cell (j := 10) rfl
    clear bR
    go_enter Try.func39, Try.ntmps39
    go_upto_region 1 with fail
    rw [← hw1]
    clear hw1
    go_wp2_with fail
    refine (hb _).mono ?_
    rintro e wq ⟨rfl, rfl⟩
    have RK := @hideH _ K1
    go_wp2
    go_ret
    exact ⟨by rw [eQ.out]; rfl, RK.out⟩
end Go.Proofs.Ytebcmcmboomgfaa

/-
  OWN WORK (by mkrec4.py). The document's records (tidemarkref09): Right, of one kind.
-/
namespace Go.Proofs.Ytebcmcmboomgfaa
open Go.RowKit
set_option linter.unusedVariables false
set_option linter.unusedSimpArgs false

set_option maxRecDepth 20000 in
set_option maxHeartbeats 12800000 in
theorem rRight_3 (V : RV) (birth prev id page frm : Int) (before after : List UInt8) (next : Int) (rows : List RowR) (dirty : List RecR) (w : World) (h : SeeR w V (⟨3, birth, prev, id, page, frm, before, after, next, rows, dirty⟩ : Rcd)) : Calls Try.prog 39 #[(⟨3, birth, prev, id, page, frm, before, after, next, rows, dirty⟩ : Rcd).agg V] w fun e w' => e = .returned (.bool (bl (⟨3, birth, prev, id, page, frm, before, after, next, rows, dirty⟩ : Rcd).Right)) ∧ Kept [] w w' := by
  haveI HNE : ∀ w2, Nonempty (Calm w2) := calmNe
  obtain ⟨pb, cb, pa, ca, pr, cr, pd, cd, rfl⟩ := h.shapes
  have RI : (⟨3, birth, prev, id, page, frm, before, after, next, rows, dirty⟩ : Rcd).Right ↔ (lsnOk birth ∧ lsnOk prev) ∧ id = 0 ∧ (rows = [] ∧ dirty = []) ∧ nextOk next ∧ rangedOk (⟨3, birth, prev, id, page, frm, before, after, next, rows, dirty⟩ : Rcd) ∧ before = [] := by unfold Rcd.Right; simp
  obtain ⟨PL, hPL⟩ : ∃ PL : Prop, PL = listsOk (⟨3, birth, prev, id, page, frm, before, after, next, rows, dirty⟩ : Rcd) := ⟨_, rfl⟩
  obtain ⟨PR, hPR⟩ : ∃ PR : Prop, PR = rangedOk (⟨3, birth, prev, id, page, frm, before, after, next, rows, dirty⟩ : Rcd) := ⟨_, rfl⟩
  obtain ⟨PP, hPP⟩ : ∃ PP : Prop, PP = partsOk (⟨3, birth, prev, id, page, frm, before, after, next, rows, dirty⟩ : Rcd) := ⟨_, rfl⟩
  have hb := fun w => rIsLsn birth w
  have hp := fun w => rIsLsn prev w
  have hn := fun w => rIsNext next w
  have hu := fun (wz : World) (kz : Kept [] w wz) => rUnranged _ (⟨3, birth, prev, id, page, frm, before, after, next, rows, dirty⟩ : Rcd) wz (h.kept kz)
  have hr := fun (wz : World) (kz : Kept [] w wz) => rRanged _ (⟨3, birth, prev, id, page, frm, before, after, next, rows, dirty⟩ : Rcd) wz (h.kept kz)
  have hl := fun (wz : World) (kz : Kept [] w wz) => rLists _ (⟨3, birth, prev, id, page, frm, before, after, next, rows, dirty⟩ : Rcd) wz (h.kept kz)
  rw [← hPR] at RI
  simp only [← hPR] at hr
  have HPL := @hideH _ hPL
  have HPR := @hideH _ hPR
  have HPP := @hideH _ hPP
  have HRI := @hideH _ RI
  clear hPL hPR hPP RI
  have hBS := @hideH _ h.before
  have hAS := @hideH _ h.after
  have hmx := @hideH _ (show after.length ≤ maxLen from (by obtain ⟨_, _, e, h1, h2, _⟩ := h.after; cases e; exact Nat.le_trans h1 h2))
  clear h
  unfold Rcd.agg at hu hr hl ⊢
  dsimp only at hu hr hl hBS hAS ⊢
  obtain ⟨Q, hQ⟩ : ∃ Q, Q = bl (⟨3, birth, prev, id, page, frm, before, after, next, rows, dirty⟩ : Rcd).Right := ⟨_, rfl⟩
  rw [← hQ]
  have HQ := @hideH _ hQ
  clear hQ
  obtain ⟨nb, hnb⟩ : ∃ nb, nb = before.length := ⟨_, rfl⟩
  obtain ⟨na, hna⟩ : ∃ na, na = after.length := ⟨_, rfl⟩
  obtain ⟨nr, hnr⟩ : ∃ nr, nr = rows.length := ⟨_, rfl⟩
  obtain ⟨nd, hnd⟩ : ∃ nd, nd = dirty.length := ⟨_, rfl⟩
  simp only [← hnb, ← hna, ← hnr, ← hnd] at hu hr hl ⊢
  have HNB := @hideH _ hnb
  have HNA := @hideH _ hna
  have HNR := @hideH _ hnr
  have HND := @hideH _ hnd
  clear hnb hna hnr hnd
  clear hu
  clear hl
  by_cases h0 : lsnOk birth
  · simp only [bl_t h0] at hb
    have k0 := @hideH _ h0
    clear h0
    by_cases h1 : lsnOk prev
    · simp only [bl_t h1] at hp
      have k1 := @hideH _ h1
      clear h1
      by_cases h2 : id = 0
      · subst h2
        by_cases h3 : nr = 0
        · subst h3
          by_cases h4 : nd = 0
          · subst h4
            by_cases h5 : nextOk next
            · simp only [bl_t h5] at hn
              have k5 := @hideH _ h5
              clear h5
              by_cases h6 : PR
              · simp only [bl_t h6] at hr
                have k6 := @hideH _ h6
                clear h6
                by_cases h7 : nb = 0
                · subst h7
                  have eQ := @hideH _ (show Q = true by rw [HQ.out]; exact bl_t (HRI.out.2 ⟨⟨k0.out, k1.out⟩, rfl, ⟨(List.eq_nil_of_length_eq_zero HNR.out.symm), (List.eq_nil_of_length_eq_zero HND.out.symm)⟩, k5.out, k6.out, (List.eq_nil_of_length_eq_zero HNB.out.symm)⟩))
                  obtain ⟨w1, hw1⟩ : ∃ w1, w1 = w.alloc (.cells #[.int .i64 3, .int .i64 birth, .int .i64 prev, .int .i64 0, .int .i64 page, .int .i64 frm, .slice pb 0 cb, .slice pa na ca, .int .i64 next, .slice pr 0 cr, .slice pd 0 cd] 26) := ⟨_, rfl⟩
                  have K1 : Kept [] w w1 := by rw [hw1]; exact (Kept.refl [] w).alloc _
                  have bR : Blk w1 w.heap.size 26 [.int .i64 3, .int .i64 birth, .int .i64 prev, .int .i64 0, .int .i64 page, .int .i64 frm, .slice pb 0 cb, .slice pa na ca, .int .i64 next, .slice pr 0 cr, .slice pd 0 cd] := by rw [hw1]; exact Blk.new w _ _
                  have c0 := bR.cell (j := 0) rfl
                  have c1 := bR.cell (j := 1) rfl
                  have c2 := bR.cell (j := 2) rfl
                  have c3 := bR.cell (j := 3) rfl
                  have c4 := bR.cell (j := 4) rfl
                  have c5 := bR.cell (j := 5) rfl
                  have c6 := bR.cell (j := 6) rfl
                  have c7 := bR.cell (j := 7) rfl
                  have c8 := bR.cell (j := 8) rfl
                  have c9 := bR.cell (j := 9) rfl
                  have c10 := bR.cell (j := 10) rfl
                  clear bR
                  go_enter Try.func39, Try.ntmps39
                  go_upto_region 1 with fail
                  rw [← hw1]
                  clear hw1
                  go_wp2_with fail
                  refine (hb _).mono ?_
                  rintro e wq ⟨rfl, rfl⟩
                  go_wp2_with fail
                  refine (hp _).mono ?_
                  rintro e wq ⟨rfl, rfl⟩
                  go_wp2_with fail
                  refine (hn _).mono ?_
                  rintro e wq ⟨rfl, rfl⟩
                  go_wp2_with fail
                  refine (hr _ K1).mono ?_
                  rintro e w2 ⟨rfl, kn⟩
                  have K2 := K1.then kn
                  replace c0 := kn.cell c0 (by simp)
                  replace c1 := kn.cell c1 (by simp)
                  replace c2 := kn.cell c2 (by simp)
                  replace c3 := kn.cell c3 (by simp)
                  replace c4 := kn.cell c4 (by simp)
                  replace c5 := kn.cell c5 (by simp)
                  replace c6 := kn.cell c6 (by simp)
                  replace c7 := kn.cell c7 (by simp)
                  replace c8 := kn.cell c8 (by simp)
                  replace c9 := kn.cell c9 (by simp)
                  replace c10 := kn.cell c10 (by simp)
                  clear kn
                  have RK := @hideH _ K2
                  go_wp2
                  go_ret
                  exact ⟨by rw [eQ.out]; rfl, RK.out⟩
                · have eQ := @hideH _ (show Q = false by rw [HQ.out]; exact bl_f (fun hR => by have q := HRI.out.1 hR; exact h7 (by rw [HNB.out, q.2.2.2.2.2]; rfl)))
                  have g_nb : 0 < nb := by omega
                  have e_nb : ((nb : Int) == 0) = false := by simp [h7]
                  obtain ⟨w1, hw1⟩ : ∃ w1, w1 = w.alloc (.cells #[.int .i64 3, .int .i64 birth, .int .i64 prev, .int .i64 0, .int .i64 page, .int .i64 frm, .slice pb nb cb, .slice pa na ca, .int .i64 next, .slice pr 0 cr, .slice pd 0 cd] 26) := ⟨_, rfl⟩
                  have K1 : Kept [] w w1 := by rw [hw1]; exact (Kept.refl [] w).alloc _
                  have bR : Blk w1 w.heap.size 26 [.int .i64 3, .int .i64 birth, .int .i64 prev, .int .i64 0, .int .i64 page, .int .i64 frm, .slice pb nb cb, .slice pa na ca, .int .i64 next, .slice pr 0 cr, .slice pd 0 cd] := by rw [hw1]; exact Blk.new w _ _
                  have c0 := bR.cell (j := 0) rfl
                  have c1 := bR.cell (j := 1) rfl
                  have c2 := bR.cell (j := 2) rfl
                  have c3 := bR.cell (j := 3) rfl
                  have c4 := bR.cell (j := 4) rfl
                  have c5 := bR.cell (j := 5) rfl
                  have c6 := bR.cell (j := 6) rfl
                  have c7 := bR.cell (j := 7) rfl
                  have c8 := bR.cell (j := 8) rfl
                  have c9 := bR.cell (j := 9) rfl
                  have c10 := bR.cell (j := 10) rfl
                  clear bR
                  go_enter Try.func39, Try.ntmps39
                  go_upto_region 1 with fail
                  rw [← hw1]
                  clear hw1
                  go_wp2_with fail
                  refine (hb _).mono ?_
                  rintro e wq ⟨rfl, rfl⟩
                  go_wp2_with fail
                  refine (hp _).mono ?_
                  rintro e wq ⟨rfl, rfl⟩
                  go_wp2_with fail
                  refine (hn _).mono ?_
                  rintro e wq ⟨rfl, rfl⟩
                  go_wp2_with fail
                  refine (hr _ K1).mono ?_
                  rintro e w2 ⟨rfl, kn⟩
                  have K2 := K1.then kn
                  replace c0 := kn.cell c0 (by simp)
                  replace c1 := kn.cell c1 (by simp)
                  replace c2 := kn.cell c2 (by simp)
                  replace c3 := kn.cell c3 (by simp)
                  replace c4 := kn.cell c4 (by simp)
                  replace c5 := kn.cell c5 (by simp)
                  replace c6 := kn.cell c6 (by simp)
                  replace c7 := kn.cell c7 (by simp)
                  replace c8 := kn.cell c8 (by simp)
                  replace c9 := kn.cell c9 (by simp)
                  replace c10 := kn.cell c10 (by simp)
                  clear kn
                  have RK := @hideH _ K2
                  go_wp2
                  go_ret
                  exact ⟨by rw [eQ.out]; rfl, RK.out⟩
              · have eQ := @hideH _ (show Q = false by rw [HQ.out]; exact bl_f (fun hR => by have q := HRI.out.1 hR; exact h6 (q.2.2.2.2.1)))
                simp only [bl_f h6] at hr
                clear h6
                obtain ⟨w1, hw1⟩ : ∃ w1, w1 = w.alloc (.cells #[.int .i64 3, .int .i64 birth, .int .i64 prev, .int .i64 0, .int .i64 page, .int .i64 frm, .slice pb nb cb, .slice pa na ca, .int .i64 next, .slice pr 0 cr, .slice pd 0 cd] 26) := ⟨_, rfl⟩
                have K1 : Kept [] w w1 := by rw [hw1]; exact (Kept.refl [] w).alloc _
                have bR : Blk w1 w.heap.size 26 [.int .i64 3, .int .i64 birth, .int .i64 prev, .int .i64 0, .int .i64 page, .int .i64 frm, .slice pb nb cb, .slice pa na ca, .int .i64 next, .slice pr 0 cr, .slice pd 0 cd] := by rw [hw1]; exact Blk.new w _ _
                have c0 := bR.cell (j := 0) rfl
                have c1 := bR.cell (j := 1) rfl
                have c2 := bR.cell (j := 2) rfl
                have c3 := bR.cell (j := 3) rfl
                have c4 := bR.cell (j := 4) rfl
                have c5 := bR.cell (j := 5) rfl
                have c6 := bR.cell (j := 6) rfl
                have c7 := bR.cell (j := 7) rfl
                have c8 := bR.cell (j := 8) rfl
                have c9 := bR.cell (j := 9) rfl
                have c10 := bR.cell (j := 10) rfl
                clear bR
                go_enter Try.func39, Try.ntmps39
                go_upto_region 1 with fail
                rw [← hw1]
                clear hw1
                go_wp2_with fail
                refine (hb _).mono ?_
                rintro e wq ⟨rfl, rfl⟩
                go_wp2_with fail
                refine (hp _).mono ?_
                rintro e wq ⟨rfl, rfl⟩
                go_wp2_with fail
                refine (hn _).mono ?_
                rintro e wq ⟨rfl, rfl⟩
                go_wp2_with fail
                refine (hr _ K1).mono ?_
                rintro e w2 ⟨rfl, kn⟩
                have K2 := K1.then kn
                replace c0 := kn.cell c0 (by simp)
                replace c1 := kn.cell c1 (by simp)
                replace c2 := kn.cell c2 (by simp)
                replace c3 := kn.cell c3 (by simp)
                replace c4 := kn.cell c4 (by simp)
                replace c5 := kn.cell c5 (by simp)
                replace c6 := kn.cell c6 (by simp)
                replace c7 := kn.cell c7 (by simp)
                replace c8 := kn.cell c8 (by simp)
                replace c9 := kn.cell c9 (by simp)
                replace c10 := kn.cell c10 (by simp)
                clear kn
                have RK := @hideH _ K2
                go_wp2
                go_ret
                exact ⟨by rw [eQ.out]; rfl, RK.out⟩
            · have eQ := @hideH _ (show Q = false by rw [HQ.out]; exact bl_f (fun hR => by have q := HRI.out.1 hR; exact h5 (q.2.2.2.1)))
              simp only [bl_f h5] at hn
              clear h5
              obtain ⟨w1, hw1⟩ : ∃ w1, w1 = w.alloc (.cells #[.int .i64 3, .int .i64 birth, .int .i64 prev, .int .i64 0, .int .i64 page, .int .i64 frm, .slice pb nb cb, .slice pa na ca, .int .i64 next, .slice pr 0 cr, .slice pd 0 cd] 26) := ⟨_, rfl⟩
              have K1 : Kept [] w w1 := by rw [hw1]; exact (Kept.refl [] w).alloc _
              have bR : Blk w1 w.heap.size 26 [.int .i64 3, .int .i64 birth, .int .i64 prev, .int .i64 0, .int .i64 page, .int .i64 frm, .slice pb nb cb, .slice pa na ca, .int .i64 next, .slice pr 0 cr, .slice pd 0 cd] := by rw [hw1]; exact Blk.new w _ _
              have c0 := bR.cell (j := 0) rfl
              have c1 := bR.cell (j := 1) rfl
              have c2 := bR.cell (j := 2) rfl
              have c3 := bR.cell (j := 3) rfl
              have c4 := bR.cell (j := 4) rfl
              have c5 := bR.cell (j := 5) rfl
              have c6 := bR.cell (j := 6) rfl
              have c7 := bR.cell (j := 7) rfl
              have c8 := bR.cell (j := 8) rfl
              have c9 := bR.cell (j := 9) rfl
              have c10 := bR.cell (j := 10) rfl
              clear bR
              go_enter Try.func39, Try.ntmps39
              go_upto_region 1 with fail
              rw [← hw1]
              clear hw1
              go_wp2_with fail
              refine (hb _).mono ?_
              rintro e wq ⟨rfl, rfl⟩
              go_wp2_with fail
              refine (hp _).mono ?_
              rintro e wq ⟨rfl, rfl⟩
              go_wp2_with fail
              refine (hn _).mono ?_
              rintro e wq ⟨rfl, rfl⟩
              have RK := @hideH _ K1
              go_wp2
              go_ret
              exact ⟨by rw [eQ.out]; rfl, RK.out⟩
          · have eQ := @hideH _ (show Q = false by rw [HQ.out]; exact bl_f (fun hR => by have q := HRI.out.1 hR; exact h4 (by rw [HND.out, q.2.2.1.2]; rfl)))
            have g_nd : 0 < nd := by omega
            have e_nd : ((nd : Int) == 0) = false := by simp [h4]
            obtain ⟨w1, hw1⟩ : ∃ w1, w1 = w.alloc (.cells #[.int .i64 3, .int .i64 birth, .int .i64 prev, .int .i64 0, .int .i64 page, .int .i64 frm, .slice pb nb cb, .slice pa na ca, .int .i64 next, .slice pr 0 cr, .slice pd nd cd] 26) := ⟨_, rfl⟩
            have K1 : Kept [] w w1 := by rw [hw1]; exact (Kept.refl [] w).alloc _
            have bR : Blk w1 w.heap.size 26 [.int .i64 3, .int .i64 birth, .int .i64 prev, .int .i64 0, .int .i64 page, .int .i64 frm, .slice pb nb cb, .slice pa na ca, .int .i64 next, .slice pr 0 cr, .slice pd nd cd] := by rw [hw1]; exact Blk.new w _ _
            have c0 := bR.cell (j := 0) rfl
            have c1 := bR.cell (j := 1) rfl
            have c2 := bR.cell (j := 2) rfl
            have c3 := bR.cell (j := 3) rfl
            have c4 := bR.cell (j := 4) rfl
            have c5 := bR.cell (j := 5) rfl
            have c6 := bR.cell (j := 6) rfl
            have c7 := bR.cell (j := 7) rfl
            have c8 := bR.cell (j := 8) rfl
            have c9 := bR.cell (j := 9) rfl
            have c10 := bR.cell (j := 10) rfl
            clear bR
            go_enter Try.func39, Try.ntmps39
            go_upto_region 1 with fail
            rw [← hw1]
            clear hw1
            go_wp2_with fail
            refine (hb _).mono ?_
            rintro e wq ⟨rfl, rfl⟩
            go_wp2_with fail
            refine (hp _).mono ?_
            rintro e wq ⟨rfl, rfl⟩
            have RK := @hideH _ K1
            go_wp2
            go_ret
            exact ⟨by rw [eQ.out]; rfl, RK.out⟩
        · have eQ := @hideH _ (show Q = false by rw [HQ.out]; exact bl_f (fun hR => by have q := HRI.out.1 hR; exact h3 (by rw [HNR.out, q.2.2.1.1]; rfl)))
          have g_nr : 0 < nr := by omega
          have e_nr : ((nr : Int) == 0) = false := by simp [h3]
          obtain ⟨w1, hw1⟩ : ∃ w1, w1 = w.alloc (.cells #[.int .i64 3, .int .i64 birth, .int .i64 prev, .int .i64 0, .int .i64 page, .int .i64 frm, .slice pb nb cb, .slice pa na ca, .int .i64 next, .slice pr nr cr, .slice pd nd cd] 26) := ⟨_, rfl⟩
          have K1 : Kept [] w w1 := by rw [hw1]; exact (Kept.refl [] w).alloc _
          have bR : Blk w1 w.heap.size 26 [.int .i64 3, .int .i64 birth, .int .i64 prev, .int .i64 0, .int .i64 page, .int .i64 frm, .slice pb nb cb, .slice pa na ca, .int .i64 next, .slice pr nr cr, .slice pd nd cd] := by rw [hw1]; exact Blk.new w _ _
          have c0 := bR.cell (j := 0) rfl
          have c1 := bR.cell (j := 1) rfl
          have c2 := bR.cell (j := 2) rfl
          have c3 := bR.cell (j := 3) rfl
          have c4 := bR.cell (j := 4) rfl
          have c5 := bR.cell (j := 5) rfl
          have c6 := bR.cell (j := 6) rfl
          have c7 := bR.cell (j := 7) rfl
          have c8 := bR.cell (j := 8) rfl
          have c9 := bR.cell (j := 9) rfl
          have c10 := bR.cell (j := 10) rfl
          clear bR
          go_enter Try.func39, Try.ntmps39
          go_upto_region 1 with fail
          rw [← hw1]
          clear hw1
          go_wp2_with fail
          refine (hb _).mono ?_
          rintro e wq ⟨rfl, rfl⟩
          go_wp2_with fail
          refine (hp _).mono ?_
          rintro e wq ⟨rfl, rfl⟩
          have RK := @hideH _ K1
          go_wp2
          go_ret
          exact ⟨by rw [eQ.out]; rfl, RK.out⟩
      · have eQ := @hideH _ (show Q = false by rw [HQ.out]; exact bl_f (fun hR => by have q := HRI.out.1 hR; exact h2 (q.2.1)))
        have e_id : (id != 0) = true := by simp [h2]
        have g_id : (id == 0) = false := by simp [h2]
        obtain ⟨w1, hw1⟩ : ∃ w1, w1 = w.alloc (.cells #[.int .i64 3, .int .i64 birth, .int .i64 prev, .int .i64 id, .int .i64 page, .int .i64 frm, .slice pb nb cb, .slice pa na ca, .int .i64 next, .slice pr nr cr, .slice pd nd cd] 26) := ⟨_, rfl⟩
        have K1 : Kept [] w w1 := by rw [hw1]; exact (Kept.refl [] w).alloc _
        have bR : Blk w1 w.heap.size 26 [.int .i64 3, .int .i64 birth, .int .i64 prev, .int .i64 id, .int .i64 page, .int .i64 frm, .slice pb nb cb, .slice pa na ca, .int .i64 next, .slice pr nr cr, .slice pd nd cd] := by rw [hw1]; exact Blk.new w _ _
        have c0 := bR.cell (j := 0) rfl
        have c1 := bR.cell (j := 1) rfl
        have c2 := bR.cell (j := 2) rfl
        have c3 := bR.cell (j := 3) rfl
        have c4 := bR.cell (j := 4) rfl
        have c5 := bR.cell (j := 5) rfl
        have c6 := bR.cell (j := 6) rfl
        have c7 := bR.cell (j := 7) rfl
        have c8 := bR.cell (j := 8) rfl
        have c9 := bR.cell (j := 9) rfl
        have c10 := bR.cell (j := 10) rfl
        clear bR
        go_enter Try.func39, Try.ntmps39
        go_upto_region 1 with fail
        rw [← hw1]
        clear hw1
        go_wp2_with fail
        refine (hb _).mono ?_
        rintro e wq ⟨rfl, rfl⟩
        go_wp2_with fail
        refine (hp _).mono ?_
        rintro e wq ⟨rfl, rfl⟩
        have RK := @hideH _ K1
        go_wp2
        go_ret
        exact ⟨by rw [eQ.out]; rfl, RK.out⟩
    · have eQ := @hideH _ (show Q = false by rw [HQ.out]; exact bl_f (fun hR => by have q := HRI.out.1 hR; exact h1 (q.1.2)))
      simp only [bl_f h1] at hp
      clear h1
      obtain ⟨w1, hw1⟩ : ∃ w1, w1 = w.alloc (.cells #[.int .i64 3, .int .i64 birth, .int .i64 prev, .int .i64 id, .int .i64 page, .int .i64 frm, .slice pb nb cb, .slice pa na ca, .int .i64 next, .slice pr nr cr, .slice pd nd cd] 26) := ⟨_, rfl⟩
      have K1 : Kept [] w w1 := by rw [hw1]; exact (Kept.refl [] w).alloc _
      have bR : Blk w1 w.heap.size 26 [.int .i64 3, .int .i64 birth, .int .i64 prev, .int .i64 id, .int .i64 page, .int .i64 frm, .slice pb nb cb, .slice pa na ca, .int .i64 next, .slice pr nr cr, .slice pd nd cd] := by rw [hw1]; exact Blk.new w _ _
      have c0 := bR.cell (j := 0) rfl
      have c1 := bR.cell (j := 1) rfl
      have c2 := bR.cell (j := 2) rfl
      have c3 := bR.cell (j := 3) rfl
      have c4 := bR.cell (j := 4) rfl
      have c5 := bR.cell (j := 5) rfl
      have c6 := bR.cell (j := 6) rfl
      have c7 := bR.cell (j := 7) rfl
      have c8 := bR.cell (j := 8) rfl
      have c9 := bR.cell (j := 9) rfl
      have c10 := bR.cell (j := 10) rfl
      clear bR
      go_enter Try.func39, Try.ntmps39
      go_upto_region 1 with fail
      rw [← hw1]
      clear hw1
      go_wp2_with fail
      refine (hb _).mono ?_
      rintro e wq ⟨rfl, rfl⟩
      go_wp2_with fail
      refine (hp _).mono ?_
      rintro e wq ⟨rfl, rfl⟩
      have RK := @hideH _ K1
      go_wp2
      go_ret
      exact ⟨by rw [eQ.out]; rfl, RK.out⟩
  · have eQ := @hideH _ (show Q = false by rw [HQ.out]; exact bl_f (fun hR => by have q := HRI.out.1 hR; exact h0 (q.1.1)))
    simp only [bl_f h0] at hb
    clear h0
    obtain ⟨w1, hw1⟩ : ∃ w1, w1 = w.alloc (.cells #[.int .i64 3, .int .i64 birth, .int .i64 prev, .int .i64 id, .int .i64 page, .int .i64 frm, .slice pb nb cb, .slice pa na ca, .int .i64 next, .slice pr nr cr, .slice pd nd cd] 26) := ⟨_, rfl⟩
    have K1 : Kept [] w w1 := by rw [hw1]; exact (Kept.refl [] w).alloc _
    have bR : Blk w1 w.heap.size 26 [.int .i64 3, .int .i64 birth, .int .i64 prev, .int .i64 id, .int .i64 page, .int .i64 frm, .slice pb nb cb, .slice pa na ca, .int .i64 next, .slice pr nr cr, .slice pd nd cd] := by rw [hw1]; exact Blk.new w _ _
    have c0 := bR.cell (j := 0) rfl
    have c1 := bR.cell (j := 1) rfl
    have c2 := bR.cell (j := 2) rfl
    have c3 := bR.cell (j := 3) rfl
    have c4 := bR.cell (j := 4) rfl
    have c5 := bR.cell (j := 5) rfl
    have c6 := bR.cell (j := 6) rfl
    have c7 := bR.cell (j := 7) rfl
    have c8 := bR.cell (j := 8) rfl
    have c9 := bR.cell (j := 9) rfl
    have c10 := bR.cell (j := 10) rfl
    clear bR
    go_enter Try.func39, Try.ntmps39
    go_upto_region 1 with fail
    rw [← hw1]
    clear hw1
    go_wp2_with fail
    refine (hb _).mono ?_
    rintro e wq ⟨rfl, rfl⟩
    have RK := @hideH _ K1
    go_wp2
    go_ret
    exact ⟨by rw [eQ.out]; rfl, RK.out⟩
end Go.Proofs.Ytebcmcmboomgfaa

/-
  OWN WORK (by mkrec4.py). The document's records (tidemarkref09): Right, of one kind.
-/
namespace Go.Proofs.Ytebcmcmboomgfaa
open Go.RowKit
set_option linter.unusedVariables false
set_option linter.unusedSimpArgs false

set_option maxRecDepth 20000 in
set_option maxHeartbeats 12800000 in
theorem rRight_4 (V : RV) (birth prev id page frm : Int) (before after : List UInt8) (next : Int) (rows : List RowR) (dirty : List RecR) (w : World) (h : SeeR w V (⟨4, birth, prev, id, page, frm, before, after, next, rows, dirty⟩ : Rcd)) : Calls Try.prog 39 #[(⟨4, birth, prev, id, page, frm, before, after, next, rows, dirty⟩ : Rcd).agg V] w fun e w' => e = .returned (.bool (bl (⟨4, birth, prev, id, page, frm, before, after, next, rows, dirty⟩ : Rcd).Right)) ∧ Kept [] w w' := by
  haveI HNE : ∀ w2, Nonempty (Calm w2) := calmNe
  obtain ⟨pb, cb, pa, ca, pr, cr, pd, cd, rfl⟩ := h.shapes
  have HRI := @hideH _ (show (⟨4, birth, prev, id, page, frm, before, after, next, rows, dirty⟩ : Rcd).Right ↔ (lsnOk birth ∧ lsnOk prev) ∧ id = 0 ∧ (rows = [] ∧ dirty = []) ∧ next = 0 ∧ (page = 0 ∧ frm = 0 ∧ after = []) ∧ before = [] by unfold Rcd.Right; simp)
  have hb := fun w => rIsLsn birth w
  have hp := fun w => rIsLsn prev w
  have hn := fun w => rIsNext next w
  have hu := fun (wz : World) (kz : Kept [] w wz) => rUnranged _ (⟨4, birth, prev, id, page, frm, before, after, next, rows, dirty⟩ : Rcd) wz (h.kept kz)
  have hr := fun (wz : World) (kz : Kept [] w wz) => rRanged _ (⟨4, birth, prev, id, page, frm, before, after, next, rows, dirty⟩ : Rcd) wz (h.kept kz)
  have hl := fun (wz : World) (kz : Kept [] w wz) => rLists _ (⟨4, birth, prev, id, page, frm, before, after, next, rows, dirty⟩ : Rcd) wz (h.kept kz)
  have hBS := @hideH _ h.before
  have hAS := @hideH _ h.after
  have hmx := @hideH _ (show after.length ≤ maxLen from (by obtain ⟨_, _, e, h1, h2, _⟩ := h.after; cases e; exact Nat.le_trans h1 h2))
  clear h
  unfold Rcd.agg at hu hr hl ⊢
  dsimp only at hu hr hl hBS hAS ⊢
  obtain ⟨Q, hQ⟩ : ∃ Q, Q = bl (⟨4, birth, prev, id, page, frm, before, after, next, rows, dirty⟩ : Rcd).Right := ⟨_, rfl⟩
  rw [← hQ]
  have HQ := @hideH _ hQ
  clear hQ
  obtain ⟨nb, hnb⟩ : ∃ nb, nb = before.length := ⟨_, rfl⟩
  obtain ⟨na, hna⟩ : ∃ na, na = after.length := ⟨_, rfl⟩
  obtain ⟨nr, hnr⟩ : ∃ nr, nr = rows.length := ⟨_, rfl⟩
  obtain ⟨nd, hnd⟩ : ∃ nd, nd = dirty.length := ⟨_, rfl⟩
  simp only [← hnb, ← hna, ← hnr, ← hnd] at hu hr hl ⊢
  have HNB := @hideH _ hnb
  have HNA := @hideH _ hna
  have HNR := @hideH _ hnr
  have HND := @hideH _ hnd
  clear hnb hna hnr hnd
  clear hn
  clear hr
  clear hl
  by_cases h0 : lsnOk birth
  · simp only [bl_t h0] at hb
    have k0 := @hideH _ h0
    clear h0
    by_cases h1 : lsnOk prev
    · simp only [bl_t h1] at hp
      have k1 := @hideH _ h1
      clear h1
      by_cases h2 : id = 0
      · subst h2
        by_cases h3 : nr = 0
        · subst h3
          by_cases h4 : nd = 0
          · subst h4
            by_cases h5 : next = 0
            · subst h5
              by_cases h6 : (page = 0 ∧ frm = 0 ∧ after = [])
              · simp only [bl_t h6] at hu
                have k6 := @hideH _ h6
                clear h6
                by_cases h7 : nb = 0
                · subst h7
                  have eQ := @hideH _ (show Q = true by rw [HQ.out]; exact bl_t (HRI.out.2 ⟨⟨k0.out, k1.out⟩, rfl, ⟨(List.eq_nil_of_length_eq_zero HNR.out.symm), (List.eq_nil_of_length_eq_zero HND.out.symm)⟩, rfl, k6.out, (List.eq_nil_of_length_eq_zero HNB.out.symm)⟩))
                  obtain ⟨w1, hw1⟩ : ∃ w1, w1 = w.alloc (.cells #[.int .i64 4, .int .i64 birth, .int .i64 prev, .int .i64 0, .int .i64 page, .int .i64 frm, .slice pb 0 cb, .slice pa na ca, .int .i64 0, .slice pr 0 cr, .slice pd 0 cd] 26) := ⟨_, rfl⟩
                  have K1 : Kept [] w w1 := by rw [hw1]; exact (Kept.refl [] w).alloc _
                  have bR : Blk w1 w.heap.size 26 [.int .i64 4, .int .i64 birth, .int .i64 prev, .int .i64 0, .int .i64 page, .int .i64 frm, .slice pb 0 cb, .slice pa na ca, .int .i64 0, .slice pr 0 cr, .slice pd 0 cd] := by rw [hw1]; exact Blk.new w _ _
                  have c0 := bR.cell (j := 0) rfl
                  have c1 := bR.cell (j := 1) rfl
                  have c2 := bR.cell (j := 2) rfl
                  have c3 := bR.cell (j := 3) rfl
                  have c4 := bR.cell (j := 4) rfl
                  have c5 := bR.cell (j := 5) rfl
                  have c6 := bR.cell (j := 6) rfl
                  have c7 := bR.cell (j := 7) rfl
                  have c8 := bR.cell (j := 8) rfl
                  have c9 := bR.cell (j := 9) rfl
                  have c10 := bR.cell (j := 10) rfl
                  clear bR
                  go_enter Try.func39, Try.ntmps39
                  go_upto_region 1 with fail
                  rw [← hw1]
                  clear hw1
                  go_wp2_with fail
                  refine (hb _).mono ?_
                  rintro e wq ⟨rfl, rfl⟩
                  go_wp2_with fail
                  refine (hp _).mono ?_
                  rintro e wq ⟨rfl, rfl⟩
                  go_wp2_with fail
                  refine (hu _ K1).mono ?_
                  rintro e w2 ⟨rfl, kn⟩
                  have K2 := K1.then kn
                  replace c0 := kn.cell c0 (by simp)
                  replace c1 := kn.cell c1 (by simp)
                  replace c2 := kn.cell c2 (by simp)
                  replace c3 := kn.cell c3 (by simp)
                  replace c4 := kn.cell c4 (by simp)
                  replace c5 := kn.cell c5 (by simp)
                  replace c6 := kn.cell c6 (by simp)
                  replace c7 := kn.cell c7 (by simp)
                  replace c8 := kn.cell c8 (by simp)
                  replace c9 := kn.cell c9 (by simp)
                  replace c10 := kn.cell c10 (by simp)
                  clear kn
                  have RK := @hideH _ K2
                  go_wp2
                  go_ret
                  exact ⟨by rw [eQ.out]; rfl, RK.out⟩
                · have eQ := @hideH _ (show Q = false by rw [HQ.out]; exact bl_f (fun hR => by have q := HRI.out.1 hR; exact h7 (by rw [HNB.out, q.2.2.2.2.2]; rfl)))
                  have g_nb : 0 < nb := by omega
                  have e_nb : ((nb : Int) == 0) = false := by simp [h7]
                  obtain ⟨w1, hw1⟩ : ∃ w1, w1 = w.alloc (.cells #[.int .i64 4, .int .i64 birth, .int .i64 prev, .int .i64 0, .int .i64 page, .int .i64 frm, .slice pb nb cb, .slice pa na ca, .int .i64 0, .slice pr 0 cr, .slice pd 0 cd] 26) := ⟨_, rfl⟩
                  have K1 : Kept [] w w1 := by rw [hw1]; exact (Kept.refl [] w).alloc _
                  have bR : Blk w1 w.heap.size 26 [.int .i64 4, .int .i64 birth, .int .i64 prev, .int .i64 0, .int .i64 page, .int .i64 frm, .slice pb nb cb, .slice pa na ca, .int .i64 0, .slice pr 0 cr, .slice pd 0 cd] := by rw [hw1]; exact Blk.new w _ _
                  have c0 := bR.cell (j := 0) rfl
                  have c1 := bR.cell (j := 1) rfl
                  have c2 := bR.cell (j := 2) rfl
                  have c3 := bR.cell (j := 3) rfl
                  have c4 := bR.cell (j := 4) rfl
                  have c5 := bR.cell (j := 5) rfl
                  have c6 := bR.cell (j := 6) rfl
                  have c7 := bR.cell (j := 7) rfl
                  have c8 := bR.cell (j := 8) rfl
                  have c9 := bR.cell (j := 9) rfl
                  have c10 := bR.cell (j := 10) rfl
                  clear bR
                  go_enter Try.func39, Try.ntmps39
                  go_upto_region 1 with fail
                  rw [← hw1]
                  clear hw1
                  go_wp2_with fail
                  refine (hb _).mono ?_
                  rintro e wq ⟨rfl, rfl⟩
                  go_wp2_with fail
                  refine (hp _).mono ?_
                  rintro e wq ⟨rfl, rfl⟩
                  go_wp2_with fail
                  refine (hu _ K1).mono ?_
                  rintro e w2 ⟨rfl, kn⟩
                  have K2 := K1.then kn
                  replace c0 := kn.cell c0 (by simp)
                  replace c1 := kn.cell c1 (by simp)
                  replace c2 := kn.cell c2 (by simp)
                  replace c3 := kn.cell c3 (by simp)
                  replace c4 := kn.cell c4 (by simp)
                  replace c5 := kn.cell c5 (by simp)
                  replace c6 := kn.cell c6 (by simp)
                  replace c7 := kn.cell c7 (by simp)
                  replace c8 := kn.cell c8 (by simp)
                  replace c9 := kn.cell c9 (by simp)
                  replace c10 := kn.cell c10 (by simp)
                  clear kn
                  have RK := @hideH _ K2
                  go_wp2
                  go_ret
                  exact ⟨by rw [eQ.out]; rfl, RK.out⟩
              · have eQ := @hideH _ (show Q = false by rw [HQ.out]; exact bl_f (fun hR => by have q := HRI.out.1 hR; exact h6 (q.2.2.2.2.1)))
                simp only [bl_f h6] at hu
                clear h6
                obtain ⟨w1, hw1⟩ : ∃ w1, w1 = w.alloc (.cells #[.int .i64 4, .int .i64 birth, .int .i64 prev, .int .i64 0, .int .i64 page, .int .i64 frm, .slice pb nb cb, .slice pa na ca, .int .i64 0, .slice pr 0 cr, .slice pd 0 cd] 26) := ⟨_, rfl⟩
                have K1 : Kept [] w w1 := by rw [hw1]; exact (Kept.refl [] w).alloc _
                have bR : Blk w1 w.heap.size 26 [.int .i64 4, .int .i64 birth, .int .i64 prev, .int .i64 0, .int .i64 page, .int .i64 frm, .slice pb nb cb, .slice pa na ca, .int .i64 0, .slice pr 0 cr, .slice pd 0 cd] := by rw [hw1]; exact Blk.new w _ _
                have c0 := bR.cell (j := 0) rfl
                have c1 := bR.cell (j := 1) rfl
                have c2 := bR.cell (j := 2) rfl
                have c3 := bR.cell (j := 3) rfl
                have c4 := bR.cell (j := 4) rfl
                have c5 := bR.cell (j := 5) rfl
                have c6 := bR.cell (j := 6) rfl
                have c7 := bR.cell (j := 7) rfl
                have c8 := bR.cell (j := 8) rfl
                have c9 := bR.cell (j := 9) rfl
                have c10 := bR.cell (j := 10) rfl
                clear bR
                go_enter Try.func39, Try.ntmps39
                go_upto_region 1 with fail
                rw [← hw1]
                clear hw1
                go_wp2_with fail
                refine (hb _).mono ?_
                rintro e wq ⟨rfl, rfl⟩
                go_wp2_with fail
                refine (hp _).mono ?_
                rintro e wq ⟨rfl, rfl⟩
                go_wp2_with fail
                refine (hu _ K1).mono ?_
                rintro e w2 ⟨rfl, kn⟩
                have K2 := K1.then kn
                replace c0 := kn.cell c0 (by simp)
                replace c1 := kn.cell c1 (by simp)
                replace c2 := kn.cell c2 (by simp)
                replace c3 := kn.cell c3 (by simp)
                replace c4 := kn.cell c4 (by simp)
                replace c5 := kn.cell c5 (by simp)
                replace c6 := kn.cell c6 (by simp)
                replace c7 := kn.cell c7 (by simp)
                replace c8 := kn.cell c8 (by simp)
                replace c9 := kn.cell c9 (by simp)
                replace c10 := kn.cell c10 (by simp)
                clear kn
                have RK := @hideH _ K2
                go_wp2
                go_ret
                exact ⟨by rw [eQ.out]; rfl, RK.out⟩
            · have eQ := @hideH _ (show Q = false by rw [HQ.out]; exact bl_f (fun hR => by have q := HRI.out.1 hR; exact h5 (q.2.2.2.1)))
              have e_next : (next != 0) = true := by simp [h5]
              have g_next : (next == 0) = false := by simp [h5]
              obtain ⟨w1, hw1⟩ : ∃ w1, w1 = w.alloc (.cells #[.int .i64 4, .int .i64 birth, .int .i64 prev, .int .i64 0, .int .i64 page, .int .i64 frm, .slice pb nb cb, .slice pa na ca, .int .i64 next, .slice pr 0 cr, .slice pd 0 cd] 26) := ⟨_, rfl⟩
              have K1 : Kept [] w w1 := by rw [hw1]; exact (Kept.refl [] w).alloc _
              have bR : Blk w1 w.heap.size 26 [.int .i64 4, .int .i64 birth, .int .i64 prev, .int .i64 0, .int .i64 page, .int .i64 frm, .slice pb nb cb, .slice pa na ca, .int .i64 next, .slice pr 0 cr, .slice pd 0 cd] := by rw [hw1]; exact Blk.new w _ _
              have c0 := bR.cell (j := 0) rfl
              have c1 := bR.cell (j := 1) rfl
              have c2 := bR.cell (j := 2) rfl
              have c3 := bR.cell (j := 3) rfl
              have c4 := bR.cell (j := 4) rfl
              have c5 := bR.cell (j := 5) rfl
              have c6 := bR.cell (j := 6) rfl
              have c7 := bR.cell (j := 7) rfl
              have c8 := bR.cell (j := 8) rfl
              have c9 := bR.cell (j := 9) rfl
              have c10 := bR.cell (j := 10) rfl
              clear bR
              go_enter Try.func39, Try.ntmps39
              go_upto_region 1 with fail
              rw [← hw1]
              clear hw1
              go_wp2_with fail
              refine (hb _).mono ?_
              rintro e wq ⟨rfl, rfl⟩
              go_wp2_with fail
              refine (hp _).mono ?_
              rintro e wq ⟨rfl, rfl⟩
              have RK := @hideH _ K1
              go_wp2
              go_ret
              exact ⟨by rw [eQ.out]; rfl, RK.out⟩
          · have eQ := @hideH _ (show Q = false by rw [HQ.out]; exact bl_f (fun hR => by have q := HRI.out.1 hR; exact h4 (by rw [HND.out, q.2.2.1.2]; rfl)))
            have g_nd : 0 < nd := by omega
            have e_nd : ((nd : Int) == 0) = false := by simp [h4]
            obtain ⟨w1, hw1⟩ : ∃ w1, w1 = w.alloc (.cells #[.int .i64 4, .int .i64 birth, .int .i64 prev, .int .i64 0, .int .i64 page, .int .i64 frm, .slice pb nb cb, .slice pa na ca, .int .i64 next, .slice pr 0 cr, .slice pd nd cd] 26) := ⟨_, rfl⟩
            have K1 : Kept [] w w1 := by rw [hw1]; exact (Kept.refl [] w).alloc _
            have bR : Blk w1 w.heap.size 26 [.int .i64 4, .int .i64 birth, .int .i64 prev, .int .i64 0, .int .i64 page, .int .i64 frm, .slice pb nb cb, .slice pa na ca, .int .i64 next, .slice pr 0 cr, .slice pd nd cd] := by rw [hw1]; exact Blk.new w _ _
            have c0 := bR.cell (j := 0) rfl
            have c1 := bR.cell (j := 1) rfl
            have c2 := bR.cell (j := 2) rfl
            have c3 := bR.cell (j := 3) rfl
            have c4 := bR.cell (j := 4) rfl
            have c5 := bR.cell (j := 5) rfl
            have c6 := bR.cell (j := 6) rfl
            have c7 := bR.cell (j := 7) rfl
            have c8 := bR.cell (j := 8) rfl
            have c9 := bR.cell (j := 9) rfl
            have c10 := bR.cell (j := 10) rfl
            clear bR
            go_enter Try.func39, Try.ntmps39
            go_upto_region 1 with fail
            rw [← hw1]
            clear hw1
            go_wp2_with fail
            refine (hb _).mono ?_
            rintro e wq ⟨rfl, rfl⟩
            go_wp2_with fail
            refine (hp _).mono ?_
            rintro e wq ⟨rfl, rfl⟩
            have RK := @hideH _ K1
            go_wp2
            go_ret
            exact ⟨by rw [eQ.out]; rfl, RK.out⟩
        · have eQ := @hideH _ (show Q = false by rw [HQ.out]; exact bl_f (fun hR => by have q := HRI.out.1 hR; exact h3 (by rw [HNR.out, q.2.2.1.1]; rfl)))
          have g_nr : 0 < nr := by omega
          have e_nr : ((nr : Int) == 0) = false := by simp [h3]
          obtain ⟨w1, hw1⟩ : ∃ w1, w1 = w.alloc (.cells #[.int .i64 4, .int .i64 birth, .int .i64 prev, .int .i64 0, .int .i64 page, .int .i64 frm, .slice pb nb cb, .slice pa na ca, .int .i64 next, .slice pr nr cr, .slice pd nd cd] 26) := ⟨_, rfl⟩
          have K1 : Kept [] w w1 := by rw [hw1]; exact (Kept.refl [] w).alloc _
          have bR : Blk w1 w.heap.size 26 [.int .i64 4, .int .i64 birth, .int .i64 prev, .int .i64 0, .int .i64 page, .int .i64 frm, .slice pb nb cb, .slice pa na ca, .int .i64 next, .slice pr nr cr, .slice pd nd cd] := by rw [hw1]; exact Blk.new w _ _
          have c0 := bR.cell (j := 0) rfl
          have c1 := bR.cell (j := 1) rfl
          have c2 := bR.cell (j := 2) rfl
          have c3 := bR.cell (j := 3) rfl
          have c4 := bR.cell (j := 4) rfl
          have c5 := bR.cell (j := 5) rfl
          have c6 := bR.cell (j := 6) rfl
          have c7 := bR.cell (j := 7) rfl
          have c8 := bR.cell (j := 8) rfl
          have c9 := bR.cell (j := 9) rfl
          have c10 := bR.cell (j := 10) rfl
          clear bR
          go_enter Try.func39, Try.ntmps39
          go_upto_region 1 with fail
          rw [← hw1]
          clear hw1
          go_wp2_with fail
          refine (hb _).mono ?_
          rintro e wq ⟨rfl, rfl⟩
          go_wp2_with fail
          refine (hp _).mono ?_
          rintro e wq ⟨rfl, rfl⟩
          have RK := @hideH _ K1
          go_wp2
          go_ret
          exact ⟨by rw [eQ.out]; rfl, RK.out⟩
      · have eQ := @hideH _ (show Q = false by rw [HQ.out]; exact bl_f (fun hR => by have q := HRI.out.1 hR; exact h2 (q.2.1)))
        have e_id : (id != 0) = true := by simp [h2]
        have g_id : (id == 0) = false := by simp [h2]
        obtain ⟨w1, hw1⟩ : ∃ w1, w1 = w.alloc (.cells #[.int .i64 4, .int .i64 birth, .int .i64 prev, .int .i64 id, .int .i64 page, .int .i64 frm, .slice pb nb cb, .slice pa na ca, .int .i64 next, .slice pr nr cr, .slice pd nd cd] 26) := ⟨_, rfl⟩
        have K1 : Kept [] w w1 := by rw [hw1]; exact (Kept.refl [] w).alloc _
        have bR : Blk w1 w.heap.size 26 [.int .i64 4, .int .i64 birth, .int .i64 prev, .int .i64 id, .int .i64 page, .int .i64 frm, .slice pb nb cb, .slice pa na ca, .int .i64 next, .slice pr nr cr, .slice pd nd cd] := by rw [hw1]; exact Blk.new w _ _
        have c0 := bR.cell (j := 0) rfl
        have c1 := bR.cell (j := 1) rfl
        have c2 := bR.cell (j := 2) rfl
        have c3 := bR.cell (j := 3) rfl
        have c4 := bR.cell (j := 4) rfl
        have c5 := bR.cell (j := 5) rfl
        have c6 := bR.cell (j := 6) rfl
        have c7 := bR.cell (j := 7) rfl
        have c8 := bR.cell (j := 8) rfl
        have c9 := bR.cell (j := 9) rfl
        have c10 := bR.cell (j := 10) rfl
        clear bR
        go_enter Try.func39, Try.ntmps39
        go_upto_region 1 with fail
        rw [← hw1]
        clear hw1
        go_wp2_with fail
        refine (hb _).mono ?_
        rintro e wq ⟨rfl, rfl⟩
        go_wp2_with fail
        refine (hp _).mono ?_
        rintro e wq ⟨rfl, rfl⟩
        have RK := @hideH _ K1
        go_wp2
        go_ret
        exact ⟨by rw [eQ.out]; rfl, RK.out⟩
    · have eQ := @hideH _ (show Q = false by rw [HQ.out]; exact bl_f (fun hR => by have q := HRI.out.1 hR; exact h1 (q.1.2)))
      simp only [bl_f h1] at hp
      clear h1
      obtain ⟨w1, hw1⟩ : ∃ w1, w1 = w.alloc (.cells #[.int .i64 4, .int .i64 birth, .int .i64 prev, .int .i64 id, .int .i64 page, .int .i64 frm, .slice pb nb cb, .slice pa na ca, .int .i64 next, .slice pr nr cr, .slice pd nd cd] 26) := ⟨_, rfl⟩
      have K1 : Kept [] w w1 := by rw [hw1]; exact (Kept.refl [] w).alloc _
      have bR : Blk w1 w.heap.size 26 [.int .i64 4, .int .i64 birth, .int .i64 prev, .int .i64 id, .int .i64 page, .int .i64 frm, .slice pb nb cb, .slice pa na ca, .int .i64 next, .slice pr nr cr, .slice pd nd cd] := by rw [hw1]; exact Blk.new w _ _
      have c0 := bR.cell (j := 0) rfl
      have c1 := bR.cell (j := 1) rfl
      have c2 := bR.cell (j := 2) rfl
      have c3 := bR.cell (j := 3) rfl
      have c4 := bR.cell (j := 4) rfl
      have c5 := bR.cell (j := 5) rfl
      have c6 := bR.cell (j := 6) rfl
      have c7 := bR.cell (j := 7) rfl
      have c8 := bR.cell (j := 8) rfl
      have c9 := bR.cell (j := 9) rfl
      have c10 := bR.cell (j := 10) rfl
      clear bR
      go_enter Try.func39, Try.ntmps39
      go_upto_region 1 with fail
      rw [← hw1]
      clear hw1
      go_wp2_with fail
      refine (hb _).mono ?_
      rintro e wq ⟨rfl, rfl⟩
      go_wp2_with fail
      refine (hp _).mono ?_
      rintro e wq ⟨rfl, rfl⟩
      have RK := @hideH _ K1
      go_wp2
      go_ret
      exact ⟨by rw [eQ.out]; rfl, RK.out⟩
  · have eQ := @hideH _ (show Q = false by rw [HQ.out]; exact bl_f (fun hR => by have q := HRI.out.1 hR; exact h0 (q.1.1)))
    simp only [bl_f h0] at hb
    clear h0
    obtain ⟨w1, hw1⟩ : ∃ w1, w1 = w.alloc (.cells #[.int .i64 4, .int .i64 birth, .int .i64 prev, .int .i64 id, .int .i64 page, .int .i64 frm, .slice pb nb cb, .slice pa na ca, .int .i64 next, .slice pr nr cr, .slice pd nd cd] 26) := ⟨_, rfl⟩
    have K1 : Kept [] w w1 := by rw [hw1]; exact (Kept.refl [] w).alloc _
    have bR : Blk w1 w.heap.size 26 [.int .i64 4, .int .i64 birth, .int .i64 prev, .int .i64 id, .int .i64 page, .int .i64 frm, .slice pb nb cb, .slice pa na ca, .int .i64 next, .slice pr nr cr, .slice pd nd cd] := by rw [hw1]; exact Blk.new w _ _
    have c0 := bR.cell (j := 0) rfl
    have c1 := bR.cell (j := 1) rfl
    have c2 := bR.cell (j := 2) rfl
    have c3 := bR.cell (j := 3) rfl
    have c4 := bR.cell (j := 4) rfl
    have c5 := bR.cell (j := 5) rfl
    have c6 := bR.cell (j := 6) rfl
    have c7 := bR.cell (j := 7) rfl
    have c8 := bR.cell (j := 8) rfl
    have c9 := bR.cell (j := 9) rfl
    have c10 := bR.cell (j := 10) rfl
    clear bR
    go_enter Try.func39, Try.ntmps39
    go_upto_region 1 with fail
    rw [← hw1]
    clear hw1
    go_wp2_with fail
    refine (hb _).mono ?_
    rintro e wq ⟨rfl, rfl⟩
    have RK := @hideH _ K1
    go_wp2
    go_ret
    exact ⟨by rw [eQ.out]; rfl, RK.out⟩
end Go.Proofs.Ytebcmcmboomgfaa

/-
  OWN WORK (by mkrec4.py). The document's records (tidemarkref09): Right, of one kind.
-/
namespace Go.Proofs.Ytebcmcmboomgfaa
open Go.RowKit
set_option linter.unusedVariables false
set_option linter.unusedSimpArgs false

set_option maxRecDepth 20000 in
set_option maxHeartbeats 12800000 in
theorem rRight_5 (V : RV) (birth prev id page frm : Int) (before after : List UInt8) (next : Int) (rows : List RowR) (dirty : List RecR) (w : World) (h : SeeR w V (⟨5, birth, prev, id, page, frm, before, after, next, rows, dirty⟩ : Rcd)) : Calls Try.prog 39 #[(⟨5, birth, prev, id, page, frm, before, after, next, rows, dirty⟩ : Rcd).agg V] w fun e w' => e = .returned (.bool (bl (⟨5, birth, prev, id, page, frm, before, after, next, rows, dirty⟩ : Rcd).Right)) ∧ Kept [] w w' := by
  haveI HNE : ∀ w2, Nonempty (Calm w2) := calmNe
  obtain ⟨pb, cb, pa, ca, pr, cr, pd, cd, rfl⟩ := h.shapes
  have HRI := @hideH _ (show (⟨5, birth, prev, id, page, frm, before, after, next, rows, dirty⟩ : Rcd).Right ↔ (lsnOk birth ∧ lsnOk prev) ∧ id = 0 ∧ (rows = [] ∧ dirty = []) ∧ next = 0 ∧ (page = 0 ∧ frm = 0 ∧ after = []) ∧ before = [] by unfold Rcd.Right; simp)
  have hb := fun w => rIsLsn birth w
  have hp := fun w => rIsLsn prev w
  have hn := fun w => rIsNext next w
  have hu := fun (wz : World) (kz : Kept [] w wz) => rUnranged _ (⟨5, birth, prev, id, page, frm, before, after, next, rows, dirty⟩ : Rcd) wz (h.kept kz)
  have hr := fun (wz : World) (kz : Kept [] w wz) => rRanged _ (⟨5, birth, prev, id, page, frm, before, after, next, rows, dirty⟩ : Rcd) wz (h.kept kz)
  have hl := fun (wz : World) (kz : Kept [] w wz) => rLists _ (⟨5, birth, prev, id, page, frm, before, after, next, rows, dirty⟩ : Rcd) wz (h.kept kz)
  have hBS := @hideH _ h.before
  have hAS := @hideH _ h.after
  have hmx := @hideH _ (show after.length ≤ maxLen from (by obtain ⟨_, _, e, h1, h2, _⟩ := h.after; cases e; exact Nat.le_trans h1 h2))
  clear h
  unfold Rcd.agg at hu hr hl ⊢
  dsimp only at hu hr hl hBS hAS ⊢
  obtain ⟨Q, hQ⟩ : ∃ Q, Q = bl (⟨5, birth, prev, id, page, frm, before, after, next, rows, dirty⟩ : Rcd).Right := ⟨_, rfl⟩
  rw [← hQ]
  have HQ := @hideH _ hQ
  clear hQ
  obtain ⟨nb, hnb⟩ : ∃ nb, nb = before.length := ⟨_, rfl⟩
  obtain ⟨na, hna⟩ : ∃ na, na = after.length := ⟨_, rfl⟩
  obtain ⟨nr, hnr⟩ : ∃ nr, nr = rows.length := ⟨_, rfl⟩
  obtain ⟨nd, hnd⟩ : ∃ nd, nd = dirty.length := ⟨_, rfl⟩
  simp only [← hnb, ← hna, ← hnr, ← hnd] at hu hr hl ⊢
  have HNB := @hideH _ hnb
  have HNA := @hideH _ hna
  have HNR := @hideH _ hnr
  have HND := @hideH _ hnd
  clear hnb hna hnr hnd
  clear hn
  clear hr
  clear hl
  by_cases h0 : lsnOk birth
  · simp only [bl_t h0] at hb
    have k0 := @hideH _ h0
    clear h0
    by_cases h1 : lsnOk prev
    · simp only [bl_t h1] at hp
      have k1 := @hideH _ h1
      clear h1
      by_cases h2 : id = 0
      · subst h2
        by_cases h3 : nr = 0
        · subst h3
          by_cases h4 : nd = 0
          · subst h4
            by_cases h5 : next = 0
            · subst h5
              by_cases h6 : (page = 0 ∧ frm = 0 ∧ after = [])
              · simp only [bl_t h6] at hu
                have k6 := @hideH _ h6
                clear h6
                by_cases h7 : nb = 0
                · subst h7
                  have eQ := @hideH _ (show Q = true by rw [HQ.out]; exact bl_t (HRI.out.2 ⟨⟨k0.out, k1.out⟩, rfl, ⟨(List.eq_nil_of_length_eq_zero HNR.out.symm), (List.eq_nil_of_length_eq_zero HND.out.symm)⟩, rfl, k6.out, (List.eq_nil_of_length_eq_zero HNB.out.symm)⟩))
                  obtain ⟨w1, hw1⟩ : ∃ w1, w1 = w.alloc (.cells #[.int .i64 5, .int .i64 birth, .int .i64 prev, .int .i64 0, .int .i64 page, .int .i64 frm, .slice pb 0 cb, .slice pa na ca, .int .i64 0, .slice pr 0 cr, .slice pd 0 cd] 26) := ⟨_, rfl⟩
                  have K1 : Kept [] w w1 := by rw [hw1]; exact (Kept.refl [] w).alloc _
                  have bR : Blk w1 w.heap.size 26 [.int .i64 5, .int .i64 birth, .int .i64 prev, .int .i64 0, .int .i64 page, .int .i64 frm, .slice pb 0 cb, .slice pa na ca, .int .i64 0, .slice pr 0 cr, .slice pd 0 cd] := by rw [hw1]; exact Blk.new w _ _
                  have c0 := bR.cell (j := 0) rfl
                  have c1 := bR.cell (j := 1) rfl
                  have c2 := bR.cell (j := 2) rfl
                  have c3 := bR.cell (j := 3) rfl
                  have c4 := bR.cell (j := 4) rfl
                  have c5 := bR.cell (j := 5) rfl
                  have c6 := bR.cell (j := 6) rfl
                  have c7 := bR.cell (j := 7) rfl
                  have c8 := bR.cell (j := 8) rfl
                  have c9 := bR.cell (j := 9) rfl
                  have c10 := bR.cell (j := 10) rfl
                  clear bR
                  go_enter Try.func39, Try.ntmps39
                  go_upto_region 1 with fail
                  rw [← hw1]
                  clear hw1
                  go_wp2_with fail
                  refine (hb _).mono ?_
                  rintro e wq ⟨rfl, rfl⟩
                  go_wp2_with fail
                  refine (hp _).mono ?_
                  rintro e wq ⟨rfl, rfl⟩
                  go_wp2_with fail
                  refine (hu _ K1).mono ?_
                  rintro e w2 ⟨rfl, kn⟩
                  have K2 := K1.then kn
                  replace c0 := kn.cell c0 (by simp)
                  replace c1 := kn.cell c1 (by simp)
                  replace c2 := kn.cell c2 (by simp)
                  replace c3 := kn.cell c3 (by simp)
                  replace c4 := kn.cell c4 (by simp)
                  replace c5 := kn.cell c5 (by simp)
                  replace c6 := kn.cell c6 (by simp)
                  replace c7 := kn.cell c7 (by simp)
                  replace c8 := kn.cell c8 (by simp)
                  replace c9 := kn.cell c9 (by simp)
                  replace c10 := kn.cell c10 (by simp)
                  clear kn
                  have RK := @hideH _ K2
                  go_wp2
                  go_ret
                  exact ⟨by rw [eQ.out]; rfl, RK.out⟩
                · have eQ := @hideH _ (show Q = false by rw [HQ.out]; exact bl_f (fun hR => by have q := HRI.out.1 hR; exact h7 (by rw [HNB.out, q.2.2.2.2.2]; rfl)))
                  have g_nb : 0 < nb := by omega
                  have e_nb : ((nb : Int) == 0) = false := by simp [h7]
                  obtain ⟨w1, hw1⟩ : ∃ w1, w1 = w.alloc (.cells #[.int .i64 5, .int .i64 birth, .int .i64 prev, .int .i64 0, .int .i64 page, .int .i64 frm, .slice pb nb cb, .slice pa na ca, .int .i64 0, .slice pr 0 cr, .slice pd 0 cd] 26) := ⟨_, rfl⟩
                  have K1 : Kept [] w w1 := by rw [hw1]; exact (Kept.refl [] w).alloc _
                  have bR : Blk w1 w.heap.size 26 [.int .i64 5, .int .i64 birth, .int .i64 prev, .int .i64 0, .int .i64 page, .int .i64 frm, .slice pb nb cb, .slice pa na ca, .int .i64 0, .slice pr 0 cr, .slice pd 0 cd] := by rw [hw1]; exact Blk.new w _ _
                  have c0 := bR.cell (j := 0) rfl
                  have c1 := bR.cell (j := 1) rfl
                  have c2 := bR.cell (j := 2) rfl
                  have c3 := bR.cell (j := 3) rfl
                  have c4 := bR.cell (j := 4) rfl
                  have c5 := bR.cell (j := 5) rfl
                  have c6 := bR.cell (j := 6) rfl
                  have c7 := bR.cell (j := 7) rfl
                  have c8 := bR.cell (j := 8) rfl
                  have c9 := bR.cell (j := 9) rfl
                  have c10 := bR.cell (j := 10) rfl
                  clear bR
                  go_enter Try.func39, Try.ntmps39
                  go_upto_region 1 with fail
                  rw [← hw1]
                  clear hw1
                  go_wp2_with fail
                  refine (hb _).mono ?_
                  rintro e wq ⟨rfl, rfl⟩
                  go_wp2_with fail
                  refine (hp _).mono ?_
                  rintro e wq ⟨rfl, rfl⟩
                  go_wp2_with fail
                  refine (hu _ K1).mono ?_
                  rintro e w2 ⟨rfl, kn⟩
                  have K2 := K1.then kn
                  replace c0 := kn.cell c0 (by simp)
                  replace c1 := kn.cell c1 (by simp)
                  replace c2 := kn.cell c2 (by simp)
                  replace c3 := kn.cell c3 (by simp)
                  replace c4 := kn.cell c4 (by simp)
                  replace c5 := kn.cell c5 (by simp)
                  replace c6 := kn.cell c6 (by simp)
                  replace c7 := kn.cell c7 (by simp)
                  replace c8 := kn.cell c8 (by simp)
                  replace c9 := kn.cell c9 (by simp)
                  replace c10 := kn.cell c10 (by simp)
                  clear kn
                  have RK := @hideH _ K2
                  go_wp2
                  go_ret
                  exact ⟨by rw [eQ.out]; rfl, RK.out⟩
              · have eQ := @hideH _ (show Q = false by rw [HQ.out]; exact bl_f (fun hR => by have q := HRI.out.1 hR; exact h6 (q.2.2.2.2.1)))
                simp only [bl_f h6] at hu
                clear h6
                obtain ⟨w1, hw1⟩ : ∃ w1, w1 = w.alloc (.cells #[.int .i64 5, .int .i64 birth, .int .i64 prev, .int .i64 0, .int .i64 page, .int .i64 frm, .slice pb nb cb, .slice pa na ca, .int .i64 0, .slice pr 0 cr, .slice pd 0 cd] 26) := ⟨_, rfl⟩
                have K1 : Kept [] w w1 := by rw [hw1]; exact (Kept.refl [] w).alloc _
                have bR : Blk w1 w.heap.size 26 [.int .i64 5, .int .i64 birth, .int .i64 prev, .int .i64 0, .int .i64 page, .int .i64 frm, .slice pb nb cb, .slice pa na ca, .int .i64 0, .slice pr 0 cr, .slice pd 0 cd] := by rw [hw1]; exact Blk.new w _ _
                have c0 := bR.cell (j := 0) rfl
                have c1 := bR.cell (j := 1) rfl
                have c2 := bR.cell (j := 2) rfl
                have c3 := bR.cell (j := 3) rfl
                have c4 := bR.cell (j := 4) rfl
                have c5 := bR.cell (j := 5) rfl
                have c6 := bR.cell (j := 6) rfl
                have c7 := bR.cell (j := 7) rfl
                have c8 := bR.cell (j := 8) rfl
                have c9 := bR.cell (j := 9) rfl
                have c10 := bR.cell (j := 10) rfl
                clear bR
                go_enter Try.func39, Try.ntmps39
                go_upto_region 1 with fail
                rw [← hw1]
                clear hw1
                go_wp2_with fail
                refine (hb _).mono ?_
                rintro e wq ⟨rfl, rfl⟩
                go_wp2_with fail
                refine (hp _).mono ?_
                rintro e wq ⟨rfl, rfl⟩
                go_wp2_with fail
                refine (hu _ K1).mono ?_
                rintro e w2 ⟨rfl, kn⟩
                have K2 := K1.then kn
                replace c0 := kn.cell c0 (by simp)
                replace c1 := kn.cell c1 (by simp)
                replace c2 := kn.cell c2 (by simp)
                replace c3 := kn.cell c3 (by simp)
                replace c4 := kn.cell c4 (by simp)
                replace c5 := kn.cell c5 (by simp)
                replace c6 := kn.cell c6 (by simp)
                replace c7 := kn.cell c7 (by simp)
                replace c8 := kn.cell c8 (by simp)
                replace c9 := kn.cell c9 (by simp)
                replace c10 := kn.cell c10 (by simp)
                clear kn
                have RK := @hideH _ K2
                go_wp2
                go_ret
                exact ⟨by rw [eQ.out]; rfl, RK.out⟩
            · have eQ := @hideH _ (show Q = false by rw [HQ.out]; exact bl_f (fun hR => by have q := HRI.out.1 hR; exact h5 (q.2.2.2.1)))
              have e_next : (next != 0) = true := by simp [h5]
              have g_next : (next == 0) = false := by simp [h5]
              obtain ⟨w1, hw1⟩ : ∃ w1, w1 = w.alloc (.cells #[.int .i64 5, .int .i64 birth, .int .i64 prev, .int .i64 0, .int .i64 page, .int .i64 frm, .slice pb nb cb, .slice pa na ca, .int .i64 next, .slice pr 0 cr, .slice pd 0 cd] 26) := ⟨_, rfl⟩
              have K1 : Kept [] w w1 := by rw [hw1]; exact (Kept.refl [] w).alloc _
              have bR : Blk w1 w.heap.size 26 [.int .i64 5, .int .i64 birth, .int .i64 prev, .int .i64 0, .int .i64 page, .int .i64 frm, .slice pb nb cb, .slice pa na ca, .int .i64 next, .slice pr 0 cr, .slice pd 0 cd] := by rw [hw1]; exact Blk.new w _ _
              have c0 := bR.cell (j := 0) rfl
              have c1 := bR.cell (j := 1) rfl
              have c2 := bR.cell (j := 2) rfl
              have c3 := bR.cell (j := 3) rfl
              have c4 := bR.cell (j := 4) rfl
              have c5 := bR.cell (j := 5) rfl
              have c6 := bR.cell (j := 6) rfl
              have c7 := bR.cell (j := 7) rfl
              have c8 := bR.cell (j := 8) rfl
              have c9 := bR.cell (j := 9) rfl
              have c10 := bR.cell (j := 10) rfl
              clear bR
              go_enter Try.func39, Try.ntmps39
              go_upto_region 1 with fail
              rw [← hw1]
              clear hw1
              go_wp2_with fail
              refine (hb _).mono ?_
              rintro e wq ⟨rfl, rfl⟩
              go_wp2_with fail
              refine (hp _).mono ?_
              rintro e wq ⟨rfl, rfl⟩
              have RK := @hideH _ K1
              go_wp2
              go_ret
              exact ⟨by rw [eQ.out]; rfl, RK.out⟩
          · have eQ := @hideH _ (show Q = false by rw [HQ.out]; exact bl_f (fun hR => by have q := HRI.out.1 hR; exact h4 (by rw [HND.out, q.2.2.1.2]; rfl)))
            have g_nd : 0 < nd := by omega
            have e_nd : ((nd : Int) == 0) = false := by simp [h4]
            obtain ⟨w1, hw1⟩ : ∃ w1, w1 = w.alloc (.cells #[.int .i64 5, .int .i64 birth, .int .i64 prev, .int .i64 0, .int .i64 page, .int .i64 frm, .slice pb nb cb, .slice pa na ca, .int .i64 next, .slice pr 0 cr, .slice pd nd cd] 26) := ⟨_, rfl⟩
            have K1 : Kept [] w w1 := by rw [hw1]; exact (Kept.refl [] w).alloc _
            have bR : Blk w1 w.heap.size 26 [.int .i64 5, .int .i64 birth, .int .i64 prev, .int .i64 0, .int .i64 page, .int .i64 frm, .slice pb nb cb, .slice pa na ca, .int .i64 next, .slice pr 0 cr, .slice pd nd cd] := by rw [hw1]; exact Blk.new w _ _
            have c0 := bR.cell (j := 0) rfl
            have c1 := bR.cell (j := 1) rfl
            have c2 := bR.cell (j := 2) rfl
            have c3 := bR.cell (j := 3) rfl
            have c4 := bR.cell (j := 4) rfl
            have c5 := bR.cell (j := 5) rfl
            have c6 := bR.cell (j := 6) rfl
            have c7 := bR.cell (j := 7) rfl
            have c8 := bR.cell (j := 8) rfl
            have c9 := bR.cell (j := 9) rfl
            have c10 := bR.cell (j := 10) rfl
            clear bR
            go_enter Try.func39, Try.ntmps39
            go_upto_region 1 with fail
            rw [← hw1]
            clear hw1
            go_wp2_with fail
            refine (hb _).mono ?_
            rintro e wq ⟨rfl, rfl⟩
            go_wp2_with fail
            refine (hp _).mono ?_
            rintro e wq ⟨rfl, rfl⟩
            have RK := @hideH _ K1
            go_wp2
            go_ret
            exact ⟨by rw [eQ.out]; rfl, RK.out⟩
        · have eQ := @hideH _ (show Q = false by rw [HQ.out]; exact bl_f (fun hR => by have q := HRI.out.1 hR; exact h3 (by rw [HNR.out, q.2.2.1.1]; rfl)))
          have g_nr : 0 < nr := by omega
          have e_nr : ((nr : Int) == 0) = false := by simp [h3]
          obtain ⟨w1, hw1⟩ : ∃ w1, w1 = w.alloc (.cells #[.int .i64 5, .int .i64 birth, .int .i64 prev, .int .i64 0, .int .i64 page, .int .i64 frm, .slice pb nb cb, .slice pa na ca, .int .i64 next, .slice pr nr cr, .slice pd nd cd] 26) := ⟨_, rfl⟩
          have K1 : Kept [] w w1 := by rw [hw1]; exact (Kept.refl [] w).alloc _
          have bR : Blk w1 w.heap.size 26 [.int .i64 5, .int .i64 birth, .int .i64 prev, .int .i64 0, .int .i64 page, .int .i64 frm, .slice pb nb cb, .slice pa na ca, .int .i64 next, .slice pr nr cr, .slice pd nd cd] := by rw [hw1]; exact Blk.new w _ _
          have c0 := bR.cell (j := 0) rfl
          have c1 := bR.cell (j := 1) rfl
          have c2 := bR.cell (j := 2) rfl
          have c3 := bR.cell (j := 3) rfl
          have c4 := bR.cell (j := 4) rfl
          have c5 := bR.cell (j := 5) rfl
          have c6 := bR.cell (j := 6) rfl
          have c7 := bR.cell (j := 7) rfl
          have c8 := bR.cell (j := 8) rfl
          have c9 := bR.cell (j := 9) rfl
          have c10 := bR.cell (j := 10) rfl
          clear bR
          go_enter Try.func39, Try.ntmps39
          go_upto_region 1 with fail
          rw [← hw1]
          clear hw1
          go_wp2_with fail
          refine (hb _).mono ?_
          rintro e wq ⟨rfl, rfl⟩
          go_wp2_with fail
          refine (hp _).mono ?_
          rintro e wq ⟨rfl, rfl⟩
          have RK := @hideH _ K1
          go_wp2
          go_ret
          exact ⟨by rw [eQ.out]; rfl, RK.out⟩
      · have eQ := @hideH _ (show Q = false by rw [HQ.out]; exact bl_f (fun hR => by have q := HRI.out.1 hR; exact h2 (q.2.1)))
        have e_id : (id != 0) = true := by simp [h2]
        have g_id : (id == 0) = false := by simp [h2]
        obtain ⟨w1, hw1⟩ : ∃ w1, w1 = w.alloc (.cells #[.int .i64 5, .int .i64 birth, .int .i64 prev, .int .i64 id, .int .i64 page, .int .i64 frm, .slice pb nb cb, .slice pa na ca, .int .i64 next, .slice pr nr cr, .slice pd nd cd] 26) := ⟨_, rfl⟩
        have K1 : Kept [] w w1 := by rw [hw1]; exact (Kept.refl [] w).alloc _
        have bR : Blk w1 w.heap.size 26 [.int .i64 5, .int .i64 birth, .int .i64 prev, .int .i64 id, .int .i64 page, .int .i64 frm, .slice pb nb cb, .slice pa na ca, .int .i64 next, .slice pr nr cr, .slice pd nd cd] := by rw [hw1]; exact Blk.new w _ _
        have c0 := bR.cell (j := 0) rfl
        have c1 := bR.cell (j := 1) rfl
        have c2 := bR.cell (j := 2) rfl
        have c3 := bR.cell (j := 3) rfl
        have c4 := bR.cell (j := 4) rfl
        have c5 := bR.cell (j := 5) rfl
        have c6 := bR.cell (j := 6) rfl
        have c7 := bR.cell (j := 7) rfl
        have c8 := bR.cell (j := 8) rfl
        have c9 := bR.cell (j := 9) rfl
        have c10 := bR.cell (j := 10) rfl
        clear bR
        go_enter Try.func39, Try.ntmps39
        go_upto_region 1 with fail
        rw [← hw1]
        clear hw1
        go_wp2_with fail
        refine (hb _).mono ?_
        rintro e wq ⟨rfl, rfl⟩
        go_wp2_with fail
        refine (hp _).mono ?_
        rintro e wq ⟨rfl, rfl⟩
        have RK := @hideH _ K1
        go_wp2
        go_ret
        exact ⟨by rw [eQ.out]; rfl, RK.out⟩
    · have eQ := @hideH _ (show Q = false by rw [HQ.out]; exact bl_f (fun hR => by have q := HRI.out.1 hR; exact h1 (q.1.2)))
      simp only [bl_f h1] at hp
      clear h1
      obtain ⟨w1, hw1⟩ : ∃ w1, w1 = w.alloc (.cells #[.int .i64 5, .int .i64 birth, .int .i64 prev, .int .i64 id, .int .i64 page, .int .i64 frm, .slice pb nb cb, .slice pa na ca, .int .i64 next, .slice pr nr cr, .slice pd nd cd] 26) := ⟨_, rfl⟩
      have K1 : Kept [] w w1 := by rw [hw1]; exact (Kept.refl [] w).alloc _
      have bR : Blk w1 w.heap.size 26 [.int .i64 5, .int .i64 birth, .int .i64 prev, .int .i64 id, .int .i64 page, .int .i64 frm, .slice pb nb cb, .slice pa na ca, .int .i64 next, .slice pr nr cr, .slice pd nd cd] := by rw [hw1]; exact Blk.new w _ _
      have c0 := bR.cell (j := 0) rfl
      have c1 := bR.cell (j := 1) rfl
      have c2 := bR.cell (j := 2) rfl
      have c3 := bR.cell (j := 3) rfl
      have c4 := bR.cell (j := 4) rfl
      have c5 := bR.cell (j := 5) rfl
      have c6 := bR.cell (j := 6) rfl
      have c7 := bR.cell (j := 7) rfl
      have c8 := bR.cell (j := 8) rfl
      have c9 := bR.cell (j := 9) rfl
      have c10 := bR.cell (j := 10) rfl
      clear bR
      go_enter Try.func39, Try.ntmps39
      go_upto_region 1 with fail
      rw [← hw1]
      clear hw1
      go_wp2_with fail
      refine (hb _).mono ?_
      rintro e wq ⟨rfl, rfl⟩
      go_wp2_with fail
      refine (hp _).mono ?_
      rintro e wq ⟨rfl, rfl⟩
      have RK := @hideH _ K1
      go_wp2
      go_ret
      exact ⟨by rw [eQ.out]; rfl, RK.out⟩
  · have eQ := @hideH _ (show Q = false by rw [HQ.out]; exact bl_f (fun hR => by have q := HRI.out.1 hR; exact h0 (q.1.1)))
    simp only [bl_f h0] at hb
    clear h0
    obtain ⟨w1, hw1⟩ : ∃ w1, w1 = w.alloc (.cells #[.int .i64 5, .int .i64 birth, .int .i64 prev, .int .i64 id, .int .i64 page, .int .i64 frm, .slice pb nb cb, .slice pa na ca, .int .i64 next, .slice pr nr cr, .slice pd nd cd] 26) := ⟨_, rfl⟩
    have K1 : Kept [] w w1 := by rw [hw1]; exact (Kept.refl [] w).alloc _
    have bR : Blk w1 w.heap.size 26 [.int .i64 5, .int .i64 birth, .int .i64 prev, .int .i64 id, .int .i64 page, .int .i64 frm, .slice pb nb cb, .slice pa na ca, .int .i64 next, .slice pr nr cr, .slice pd nd cd] := by rw [hw1]; exact Blk.new w _ _
    have c0 := bR.cell (j := 0) rfl
    have c1 := bR.cell (j := 1) rfl
    have c2 := bR.cell (j := 2) rfl
    have c3 := bR.cell (j := 3) rfl
    have c4 := bR.cell (j := 4) rfl
    have c5 := bR.cell (j := 5) rfl
    have c6 := bR.cell (j := 6) rfl
    have c7 := bR.cell (j := 7) rfl
    have c8 := bR.cell (j := 8) rfl
    have c9 := bR.cell (j := 9) rfl
    have c10 := bR.cell (j := 10) rfl
    clear bR
    go_enter Try.func39, Try.ntmps39
    go_upto_region 1 with fail
    rw [← hw1]
    clear hw1
    go_wp2_with fail
    refine (hb _).mono ?_
    rintro e wq ⟨rfl, rfl⟩
    have RK := @hideH _ K1
    go_wp2
    go_ret
    exact ⟨by rw [eQ.out]; rfl, RK.out⟩
end Go.Proofs.Ytebcmcmboomgfaa

/-
  OWN WORK (by mkrec4.py). The document's records (tidemarkref09): Right, of one kind.
-/
namespace Go.Proofs.Ytebcmcmboomgfaa
open Go.RowKit
set_option linter.unusedVariables false
set_option linter.unusedSimpArgs false

set_option maxRecDepth 20000 in
set_option maxHeartbeats 12800000 in
theorem rRight_6 (V : RV) (birth prev id page frm : Int) (before after : List UInt8) (next : Int) (rows : List RowR) (dirty : List RecR) (w : World) (h : SeeR w V (⟨6, birth, prev, id, page, frm, before, after, next, rows, dirty⟩ : Rcd)) : Calls Try.prog 39 #[(⟨6, birth, prev, id, page, frm, before, after, next, rows, dirty⟩ : Rcd).agg V] w fun e w' => e = .returned (.bool (bl (⟨6, birth, prev, id, page, frm, before, after, next, rows, dirty⟩ : Rcd).Right)) ∧ Kept [] w w' := by
  haveI HNE : ∀ w2, Nonempty (Calm w2) := calmNe
  obtain ⟨pb, cb, pa, ca, pr, cr, pd, cd, rfl⟩ := h.shapes
  have HRI := @hideH _ (show (⟨6, birth, prev, id, page, frm, before, after, next, rows, dirty⟩ : Rcd).Right ↔ (lsnOk birth ∧ lsnOk prev) ∧ id = 0 ∧ (rows = [] ∧ dirty = []) ∧ next = 0 ∧ (page = 0 ∧ frm = 0 ∧ after = []) ∧ before = [] by unfold Rcd.Right; simp)
  have hb := fun w => rIsLsn birth w
  have hp := fun w => rIsLsn prev w
  have hn := fun w => rIsNext next w
  have hu := fun (wz : World) (kz : Kept [] w wz) => rUnranged _ (⟨6, birth, prev, id, page, frm, before, after, next, rows, dirty⟩ : Rcd) wz (h.kept kz)
  have hr := fun (wz : World) (kz : Kept [] w wz) => rRanged _ (⟨6, birth, prev, id, page, frm, before, after, next, rows, dirty⟩ : Rcd) wz (h.kept kz)
  have hl := fun (wz : World) (kz : Kept [] w wz) => rLists _ (⟨6, birth, prev, id, page, frm, before, after, next, rows, dirty⟩ : Rcd) wz (h.kept kz)
  have hBS := @hideH _ h.before
  have hAS := @hideH _ h.after
  have hmx := @hideH _ (show after.length ≤ maxLen from (by obtain ⟨_, _, e, h1, h2, _⟩ := h.after; cases e; exact Nat.le_trans h1 h2))
  clear h
  unfold Rcd.agg at hu hr hl ⊢
  dsimp only at hu hr hl hBS hAS ⊢
  obtain ⟨Q, hQ⟩ : ∃ Q, Q = bl (⟨6, birth, prev, id, page, frm, before, after, next, rows, dirty⟩ : Rcd).Right := ⟨_, rfl⟩
  rw [← hQ]
  have HQ := @hideH _ hQ
  clear hQ
  obtain ⟨nb, hnb⟩ : ∃ nb, nb = before.length := ⟨_, rfl⟩
  obtain ⟨na, hna⟩ : ∃ na, na = after.length := ⟨_, rfl⟩
  obtain ⟨nr, hnr⟩ : ∃ nr, nr = rows.length := ⟨_, rfl⟩
  obtain ⟨nd, hnd⟩ : ∃ nd, nd = dirty.length := ⟨_, rfl⟩
  simp only [← hnb, ← hna, ← hnr, ← hnd] at hu hr hl ⊢
  have HNB := @hideH _ hnb
  have HNA := @hideH _ hna
  have HNR := @hideH _ hnr
  have HND := @hideH _ hnd
  clear hnb hna hnr hnd
  clear hn
  clear hr
  clear hl
  by_cases h0 : lsnOk birth
  · simp only [bl_t h0] at hb
    have k0 := @hideH _ h0
    clear h0
    by_cases h1 : lsnOk prev
    · simp only [bl_t h1] at hp
      have k1 := @hideH _ h1
      clear h1
      by_cases h2 : id = 0
      · subst h2
        by_cases h3 : nr = 0
        · subst h3
          by_cases h4 : nd = 0
          · subst h4
            by_cases h5 : next = 0
            · subst h5
              by_cases h6 : (page = 0 ∧ frm = 0 ∧ after = [])
              · simp only [bl_t h6] at hu
                have k6 := @hideH _ h6
                clear h6
                by_cases h7 : nb = 0
                · subst h7
                  have eQ := @hideH _ (show Q = true by rw [HQ.out]; exact bl_t (HRI.out.2 ⟨⟨k0.out, k1.out⟩, rfl, ⟨(List.eq_nil_of_length_eq_zero HNR.out.symm), (List.eq_nil_of_length_eq_zero HND.out.symm)⟩, rfl, k6.out, (List.eq_nil_of_length_eq_zero HNB.out.symm)⟩))
                  obtain ⟨w1, hw1⟩ : ∃ w1, w1 = w.alloc (.cells #[.int .i64 6, .int .i64 birth, .int .i64 prev, .int .i64 0, .int .i64 page, .int .i64 frm, .slice pb 0 cb, .slice pa na ca, .int .i64 0, .slice pr 0 cr, .slice pd 0 cd] 26) := ⟨_, rfl⟩
                  have K1 : Kept [] w w1 := by rw [hw1]; exact (Kept.refl [] w).alloc _
                  have bR : Blk w1 w.heap.size 26 [.int .i64 6, .int .i64 birth, .int .i64 prev, .int .i64 0, .int .i64 page, .int .i64 frm, .slice pb 0 cb, .slice pa na ca, .int .i64 0, .slice pr 0 cr, .slice pd 0 cd] := by rw [hw1]; exact Blk.new w _ _
                  have c0 := bR.cell (j := 0) rfl
                  have c1 := bR.cell (j := 1) rfl
                  have c2 := bR.cell (j := 2) rfl
                  have c3 := bR.cell (j := 3) rfl
                  have c4 := bR.cell (j := 4) rfl
                  have c5 := bR.cell (j := 5) rfl
                  have c6 := bR.cell (j := 6) rfl
                  have c7 := bR.cell (j := 7) rfl
                  have c8 := bR.cell (j := 8) rfl
                  have c9 := bR.cell (j := 9) rfl
                  have c10 := bR.cell (j := 10) rfl
                  clear bR
                  go_enter Try.func39, Try.ntmps39
                  go_upto_region 1 with fail
                  rw [← hw1]
                  clear hw1
                  go_wp2_with fail
                  refine (hb _).mono ?_
                  rintro e wq ⟨rfl, rfl⟩
                  go_wp2_with fail
                  refine (hp _).mono ?_
                  rintro e wq ⟨rfl, rfl⟩
                  go_wp2_with fail
                  refine (hu _ K1).mono ?_
                  rintro e w2 ⟨rfl, kn⟩
                  have K2 := K1.then kn
                  replace c0 := kn.cell c0 (by simp)
                  replace c1 := kn.cell c1 (by simp)
                  replace c2 := kn.cell c2 (by simp)
                  replace c3 := kn.cell c3 (by simp)
                  replace c4 := kn.cell c4 (by simp)
                  replace c5 := kn.cell c5 (by simp)
                  replace c6 := kn.cell c6 (by simp)
                  replace c7 := kn.cell c7 (by simp)
                  replace c8 := kn.cell c8 (by simp)
                  replace c9 := kn.cell c9 (by simp)
                  replace c10 := kn.cell c10 (by simp)
                  clear kn
                  have RK := @hideH _ K2
                  go_wp2
                  go_ret
                  exact ⟨by rw [eQ.out]; rfl, RK.out⟩
                · have eQ := @hideH _ (show Q = false by rw [HQ.out]; exact bl_f (fun hR => by have q := HRI.out.1 hR; exact h7 (by rw [HNB.out, q.2.2.2.2.2]; rfl)))
                  have g_nb : 0 < nb := by omega
                  have e_nb : ((nb : Int) == 0) = false := by simp [h7]
                  obtain ⟨w1, hw1⟩ : ∃ w1, w1 = w.alloc (.cells #[.int .i64 6, .int .i64 birth, .int .i64 prev, .int .i64 0, .int .i64 page, .int .i64 frm, .slice pb nb cb, .slice pa na ca, .int .i64 0, .slice pr 0 cr, .slice pd 0 cd] 26) := ⟨_, rfl⟩
                  have K1 : Kept [] w w1 := by rw [hw1]; exact (Kept.refl [] w).alloc _
                  have bR : Blk w1 w.heap.size 26 [.int .i64 6, .int .i64 birth, .int .i64 prev, .int .i64 0, .int .i64 page, .int .i64 frm, .slice pb nb cb, .slice pa na ca, .int .i64 0, .slice pr 0 cr, .slice pd 0 cd] := by rw [hw1]; exact Blk.new w _ _
                  have c0 := bR.cell (j := 0) rfl
                  have c1 := bR.cell (j := 1) rfl
                  have c2 := bR.cell (j := 2) rfl
                  have c3 := bR.cell (j := 3) rfl
                  have c4 := bR.cell (j := 4) rfl
                  have c5 := bR.cell (j := 5) rfl
                  have c6 := bR.cell (j := 6) rfl
                  have c7 := bR.cell (j := 7) rfl
                  have c8 := bR.cell (j := 8) rfl
                  have c9 := bR.cell (j := 9) rfl
                  have c10 := bR.cell (j := 10) rfl
                  clear bR
                  go_enter Try.func39, Try.ntmps39
                  go_upto_region 1 with fail
                  rw [← hw1]
                  clear hw1
                  go_wp2_with fail
                  refine (hb _).mono ?_
                  rintro e wq ⟨rfl, rfl⟩
                  go_wp2_with fail
                  refine (hp _).mono ?_
                  rintro e wq ⟨rfl, rfl⟩
                  go_wp2_with fail
                  refine (hu _ K1).mono ?_
                  rintro e w2 ⟨rfl, kn⟩
                  have K2 := K1.then kn
                  replace c0 := kn.cell c0 (by simp)
                  replace c1 := kn.cell c1 (by simp)
                  replace c2 := kn.cell c2 (by simp)
                  replace c3 := kn.cell c3 (by simp)
                  replace c4 := kn.cell c4 (by simp)
                  replace c5 := kn.cell c5 (by simp)
                  replace c6 := kn.cell c6 (by simp)
                  replace c7 := kn.cell c7 (by simp)
                  replace c8 := kn.cell c8 (by simp)
                  replace c9 := kn.cell c9 (by simp)
                  replace c10 := kn.cell c10 (by simp)
                  clear kn
                  have RK := @hideH _ K2
                  go_wp2
                  go_ret
                  exact ⟨by rw [eQ.out]; rfl, RK.out⟩
              · have eQ := @hideH _ (show Q = false by rw [HQ.out]; exact bl_f (fun hR => by have q := HRI.out.1 hR; exact h6 (q.2.2.2.2.1)))
                simp only [bl_f h6] at hu
                clear h6
                obtain ⟨w1, hw1⟩ : ∃ w1, w1 = w.alloc (.cells #[.int .i64 6, .int .i64 birth, .int .i64 prev, .int .i64 0, .int .i64 page, .int .i64 frm, .slice pb nb cb, .slice pa na ca, .int .i64 0, .slice pr 0 cr, .slice pd 0 cd] 26) := ⟨_, rfl⟩
                have K1 : Kept [] w w1 := by rw [hw1]; exact (Kept.refl [] w).alloc _
                have bR : Blk w1 w.heap.size 26 [.int .i64 6, .int .i64 birth, .int .i64 prev, .int .i64 0, .int .i64 page, .int .i64 frm, .slice pb nb cb, .slice pa na ca, .int .i64 0, .slice pr 0 cr, .slice pd 0 cd] := by rw [hw1]; exact Blk.new w _ _
                have c0 := bR.cell (j := 0) rfl
                have c1 := bR.cell (j := 1) rfl
                have c2 := bR.cell (j := 2) rfl
                have c3 := bR.cell (j := 3) rfl
                have c4 := bR.cell (j := 4) rfl
                have c5 := bR.cell (j := 5) rfl
                have c6 := bR.cell (j := 6) rfl
                have c7 := bR.cell (j := 7) rfl
                have c8 := bR.cell (j := 8) rfl
                have c9 := bR.cell (j := 9) rfl
                have c10 := bR.cell (j := 10) rfl
                clear bR
                go_enter Try.func39, Try.ntmps39
                go_upto_region 1 with fail
                rw [← hw1]
                clear hw1
                go_wp2_with fail
                refine (hb _).mono ?_
                rintro e wq ⟨rfl, rfl⟩
                go_wp2_with fail
                refine (hp _).mono ?_
                rintro e wq ⟨rfl, rfl⟩
                go_wp2_with fail
                refine (hu _ K1).mono ?_
                rintro e w2 ⟨rfl, kn⟩
                have K2 := K1.then kn
                replace c0 := kn.cell c0 (by simp)
                replace c1 := kn.cell c1 (by simp)
                replace c2 := kn.cell c2 (by simp)
                replace c3 := kn.cell c3 (by simp)
                replace c4 := kn.cell c4 (by simp)
                replace c5 := kn.cell c5 (by simp)
                replace c6 := kn.cell c6 (by simp)
                replace c7 := kn.cell c7 (by simp)
                replace c8 := kn.cell c8 (by simp)
                replace c9 := kn.cell c9 (by simp)
                replace c10 := kn.cell c10 (by simp)
                clear kn
                have RK := @hideH _ K2
                go_wp2
                go_ret
                exact ⟨by rw [eQ.out]; rfl, RK.out⟩
            · have eQ := @hideH _ (show Q = false by rw [HQ.out]; exact bl_f (fun hR => by have q := HRI.out.1 hR; exact h5 (q.2.2.2.1)))
              have e_next : (next != 0) = true := by simp [h5]
              have g_next : (next == 0) = false := by simp [h5]
              obtain ⟨w1, hw1⟩ : ∃ w1, w1 = w.alloc (.cells #[.int .i64 6, .int .i64 birth, .int .i64 prev, .int .i64 0, .int .i64 page, .int .i64 frm, .slice pb nb cb, .slice pa na ca, .int .i64 next, .slice pr 0 cr, .slice pd 0 cd] 26) := ⟨_, rfl⟩
              have K1 : Kept [] w w1 := by rw [hw1]; exact (Kept.refl [] w).alloc _
              have bR : Blk w1 w.heap.size 26 [.int .i64 6, .int .i64 birth, .int .i64 prev, .int .i64 0, .int .i64 page, .int .i64 frm, .slice pb nb cb, .slice pa na ca, .int .i64 next, .slice pr 0 cr, .slice pd 0 cd] := by rw [hw1]; exact Blk.new w _ _
              have c0 := bR.cell (j := 0) rfl
              have c1 := bR.cell (j := 1) rfl
              have c2 := bR.cell (j := 2) rfl
              have c3 := bR.cell (j := 3) rfl
              have c4 := bR.cell (j := 4) rfl
              have c5 := bR.cell (j := 5) rfl
              have c6 := bR.cell (j := 6) rfl
              have c7 := bR.cell (j := 7) rfl
              have c8 := bR.cell (j := 8) rfl
              have c9 := bR.cell (j := 9) rfl
              have c10 := bR.cell (j := 10) rfl
              clear bR
              go_enter Try.func39, Try.ntmps39
              go_upto_region 1 with fail
              rw [← hw1]
              clear hw1
              go_wp2_with fail
              refine (hb _).mono ?_
              rintro e wq ⟨rfl, rfl⟩
              go_wp2_with fail
              refine (hp _).mono ?_
              rintro e wq ⟨rfl, rfl⟩
              have RK := @hideH _ K1
              go_wp2
              go_ret
              exact ⟨by rw [eQ.out]; rfl, RK.out⟩
          · have eQ := @hideH _ (show Q = false by rw [HQ.out]; exact bl_f (fun hR => by have q := HRI.out.1 hR; exact h4 (by rw [HND.out, q.2.2.1.2]; rfl)))
            have g_nd : 0 < nd := by omega
            have e_nd : ((nd : Int) == 0) = false := by simp [h4]
            obtain ⟨w1, hw1⟩ : ∃ w1, w1 = w.alloc (.cells #[.int .i64 6, .int .i64 birth, .int .i64 prev, .int .i64 0, .int .i64 page, .int .i64 frm, .slice pb nb cb, .slice pa na ca, .int .i64 next, .slice pr 0 cr, .slice pd nd cd] 26) := ⟨_, rfl⟩
            have K1 : Kept [] w w1 := by rw [hw1]; exact (Kept.refl [] w).alloc _
            have bR : Blk w1 w.heap.size 26 [.int .i64 6, .int .i64 birth, .int .i64 prev, .int .i64 0, .int .i64 page, .int .i64 frm, .slice pb nb cb, .slice pa na ca, .int .i64 next, .slice pr 0 cr, .slice pd nd cd] := by rw [hw1]; exact Blk.new w _ _
            have c0 := bR.cell (j := 0) rfl
            have c1 := bR.cell (j := 1) rfl
            have c2 := bR.cell (j := 2) rfl
            have c3 := bR.cell (j := 3) rfl
            have c4 := bR.cell (j := 4) rfl
            have c5 := bR.cell (j := 5) rfl
            have c6 := bR.cell (j := 6) rfl
            have c7 := bR.cell (j := 7) rfl
            have c8 := bR.cell (j := 8) rfl
            have c9 := bR.cell (j := 9) rfl
            have c10 := bR.cell (j := 10) rfl
            clear bR
            go_enter Try.func39, Try.ntmps39
            go_upto_region 1 with fail
            rw [← hw1]
            clear hw1
            go_wp2_with fail
            refine (hb _).mono ?_
            rintro e wq ⟨rfl, rfl⟩
            go_wp2_with fail
            refine (hp _).mono ?_
            rintro e wq ⟨rfl, rfl⟩
            have RK := @hideH _ K1
            go_wp2
            go_ret
            exact ⟨by rw [eQ.out]; rfl, RK.out⟩
        · have eQ := @hideH _ (show Q = false by rw [HQ.out]; exact bl_f (fun hR => by have q := HRI.out.1 hR; exact h3 (by rw [HNR.out, q.2.2.1.1]; rfl)))
          have g_nr : 0 < nr := by omega
          have e_nr : ((nr : Int) == 0) = false := by simp [h3]
          obtain ⟨w1, hw1⟩ : ∃ w1, w1 = w.alloc (.cells #[.int .i64 6, .int .i64 birth, .int .i64 prev, .int .i64 0, .int .i64 page, .int .i64 frm, .slice pb nb cb, .slice pa na ca, .int .i64 next, .slice pr nr cr, .slice pd nd cd] 26) := ⟨_, rfl⟩
          have K1 : Kept [] w w1 := by rw [hw1]; exact (Kept.refl [] w).alloc _
          have bR : Blk w1 w.heap.size 26 [.int .i64 6, .int .i64 birth, .int .i64 prev, .int .i64 0, .int .i64 page, .int .i64 frm, .slice pb nb cb, .slice pa na ca, .int .i64 next, .slice pr nr cr, .slice pd nd cd] := by rw [hw1]; exact Blk.new w _ _
          have c0 := bR.cell (j := 0) rfl
          have c1 := bR.cell (j := 1) rfl
          have c2 := bR.cell (j := 2) rfl
          have c3 := bR.cell (j := 3) rfl
          have c4 := bR.cell (j := 4) rfl
          have c5 := bR.cell (j := 5) rfl
          have c6 := bR.cell (j := 6) rfl
          have c7 := bR.cell (j := 7) rfl
          have c8 := bR.cell (j := 8) rfl
          have c9 := bR.cell (j := 9) rfl
          have c10 := bR.cell (j := 10) rfl
          clear bR
          go_enter Try.func39, Try.ntmps39
          go_upto_region 1 with fail
          rw [← hw1]
          clear hw1
          go_wp2_with fail
          refine (hb _).mono ?_
          rintro e wq ⟨rfl, rfl⟩
          go_wp2_with fail
          refine (hp _).mono ?_
          rintro e wq ⟨rfl, rfl⟩
          have RK := @hideH _ K1
          go_wp2
          go_ret
          exact ⟨by rw [eQ.out]; rfl, RK.out⟩
      · have eQ := @hideH _ (show Q = false by rw [HQ.out]; exact bl_f (fun hR => by have q := HRI.out.1 hR; exact h2 (q.2.1)))
        have e_id : (id != 0) = true := by simp [h2]
        have g_id : (id == 0) = false := by simp [h2]
        obtain ⟨w1, hw1⟩ : ∃ w1, w1 = w.alloc (.cells #[.int .i64 6, .int .i64 birth, .int .i64 prev, .int .i64 id, .int .i64 page, .int .i64 frm, .slice pb nb cb, .slice pa na ca, .int .i64 next, .slice pr nr cr, .slice pd nd cd] 26) := ⟨_, rfl⟩
        have K1 : Kept [] w w1 := by rw [hw1]; exact (Kept.refl [] w).alloc _
        have bR : Blk w1 w.heap.size 26 [.int .i64 6, .int .i64 birth, .int .i64 prev, .int .i64 id, .int .i64 page, .int .i64 frm, .slice pb nb cb, .slice pa na ca, .int .i64 next, .slice pr nr cr, .slice pd nd cd] := by rw [hw1]; exact Blk.new w _ _
        have c0 := bR.cell (j := 0) rfl
        have c1 := bR.cell (j := 1) rfl
        have c2 := bR.cell (j := 2) rfl
        have c3 := bR.cell (j := 3) rfl
        have c4 := bR.cell (j := 4) rfl
        have c5 := bR.cell (j := 5) rfl
        have c6 := bR.cell (j := 6) rfl
        have c7 := bR.cell (j := 7) rfl
        have c8 := bR.cell (j := 8) rfl
        have c9 := bR.cell (j := 9) rfl
        have c10 := bR.cell (j := 10) rfl
        clear bR
        go_enter Try.func39, Try.ntmps39
        go_upto_region 1 with fail
        rw [← hw1]
        clear hw1
        go_wp2_with fail
        refine (hb _).mono ?_
        rintro e wq ⟨rfl, rfl⟩
        go_wp2_with fail
        refine (hp _).mono ?_
        rintro e wq ⟨rfl, rfl⟩
        have RK := @hideH _ K1
        go_wp2
        go_ret
        exact ⟨by rw [eQ.out]; rfl, RK.out⟩
    · have eQ := @hideH _ (show Q = false by rw [HQ.out]; exact bl_f (fun hR => by have q := HRI.out.1 hR; exact h1 (q.1.2)))
      simp only [bl_f h1] at hp
      clear h1
      obtain ⟨w1, hw1⟩ : ∃ w1, w1 = w.alloc (.cells #[.int .i64 6, .int .i64 birth, .int .i64 prev, .int .i64 id, .int .i64 page, .int .i64 frm, .slice pb nb cb, .slice pa na ca, .int .i64 next, .slice pr nr cr, .slice pd nd cd] 26) := ⟨_, rfl⟩
      have K1 : Kept [] w w1 := by rw [hw1]; exact (Kept.refl [] w).alloc _
      have bR : Blk w1 w.heap.size 26 [.int .i64 6, .int .i64 birth, .int .i64 prev, .int .i64 id, .int .i64 page, .int .i64 frm, .slice pb nb cb, .slice pa na ca, .int .i64 next, .slice pr nr cr, .slice pd nd cd] := by rw [hw1]; exact Blk.new w _ _
      have c0 := bR.cell (j := 0) rfl
      have c1 := bR.cell (j := 1) rfl
      have c2 := bR.cell (j := 2) rfl
      have c3 := bR.cell (j := 3) rfl
      have c4 := bR.cell (j := 4) rfl
      have c5 := bR.cell (j := 5) rfl
      have c6 := bR.cell (j := 6) rfl
      have c7 := bR.cell (j := 7) rfl
      have c8 := bR.cell (j := 8) rfl
      have c9 := bR.cell (j := 9) rfl
      have c10 := bR.cell (j := 10) rfl
      clear bR
      go_enter Try.func39, Try.ntmps39
      go_upto_region 1 with fail
      rw [← hw1]
      clear hw1
      go_wp2_with fail
      refine (hb _).mono ?_
      rintro e wq ⟨rfl, rfl⟩
      go_wp2_with fail
      refine (hp _).mono ?_
      rintro e wq ⟨rfl, rfl⟩
      have RK := @hideH _ K1
      go_wp2
      go_ret
      exact ⟨by rw [eQ.out]; rfl, RK.out⟩
  · have eQ := @hideH _ (show Q = false by rw [HQ.out]; exact bl_f (fun hR => by have q := HRI.out.1 hR; exact h0 (q.1.1)))
    simp only [bl_f h0] at hb
    clear h0
    obtain ⟨w1, hw1⟩ : ∃ w1, w1 = w.alloc (.cells #[.int .i64 6, .int .i64 birth, .int .i64 prev, .int .i64 id, .int .i64 page, .int .i64 frm, .slice pb nb cb, .slice pa na ca, .int .i64 next, .slice pr nr cr, .slice pd nd cd] 26) := ⟨_, rfl⟩
    have K1 : Kept [] w w1 := by rw [hw1]; exact (Kept.refl [] w).alloc _
    have bR : Blk w1 w.heap.size 26 [.int .i64 6, .int .i64 birth, .int .i64 prev, .int .i64 id, .int .i64 page, .int .i64 frm, .slice pb nb cb, .slice pa na ca, .int .i64 next, .slice pr nr cr, .slice pd nd cd] := by rw [hw1]; exact Blk.new w _ _
    have c0 := bR.cell (j := 0) rfl
    have c1 := bR.cell (j := 1) rfl
    have c2 := bR.cell (j := 2) rfl
    have c3 := bR.cell (j := 3) rfl
    have c4 := bR.cell (j := 4) rfl
    have c5 := bR.cell (j := 5) rfl
    have c6 := bR.cell (j := 6) rfl
    have c7 := bR.cell (j := 7) rfl
    have c8 := bR.cell (j := 8) rfl
    have c9 := bR.cell (j := 9) rfl
    have c10 := bR.cell (j := 10) rfl
    clear bR
    go_enter Try.func39, Try.ntmps39
    go_upto_region 1 with fail
    rw [← hw1]
    clear hw1
    go_wp2_with fail
    refine (hb _).mono ?_
    rintro e wq ⟨rfl, rfl⟩
    have RK := @hideH _ K1
    go_wp2
    go_ret
    exact ⟨by rw [eQ.out]; rfl, RK.out⟩
end Go.Proofs.Ytebcmcmboomgfaa

/-
  OWN WORK (by mkrec4.py). The document's records (tidemarkref09): Right, of one kind.
-/
namespace Go.Proofs.Ytebcmcmboomgfaa
open Go.RowKit
set_option linter.unusedVariables false
set_option linter.unusedSimpArgs false

set_option maxRecDepth 20000 in
set_option maxHeartbeats 12800000 in
theorem rRight_7 (V : RV) (birth prev id page frm : Int) (before after : List UInt8) (next : Int) (rows : List RowR) (dirty : List RecR) (w : World) (h : SeeR w V (⟨7, birth, prev, id, page, frm, before, after, next, rows, dirty⟩ : Rcd)) : Calls Try.prog 39 #[(⟨7, birth, prev, id, page, frm, before, after, next, rows, dirty⟩ : Rcd).agg V] w fun e w' => e = .returned (.bool (bl (⟨7, birth, prev, id, page, frm, before, after, next, rows, dirty⟩ : Rcd).Right)) ∧ Kept [] w w' := by
  haveI HNE : ∀ w2, Nonempty (Calm w2) := calmNe
  obtain ⟨pb, cb, pa, ca, pr, cr, pd, cd, rfl⟩ := h.shapes
  have RI : (⟨7, birth, prev, id, page, frm, before, after, next, rows, dirty⟩ : Rcd).Right ↔ (birth = 0 ∧ prev = 0) ∧ id = 0 ∧ listsOk (⟨7, birth, prev, id, page, frm, before, after, next, rows, dirty⟩ : Rcd) ∧ next = 0 ∧ (page = 0 ∧ frm = 0 ∧ after = []) ∧ before = [] := by unfold Rcd.Right; simp
  obtain ⟨PL, hPL⟩ : ∃ PL : Prop, PL = listsOk (⟨7, birth, prev, id, page, frm, before, after, next, rows, dirty⟩ : Rcd) := ⟨_, rfl⟩
  obtain ⟨PR, hPR⟩ : ∃ PR : Prop, PR = rangedOk (⟨7, birth, prev, id, page, frm, before, after, next, rows, dirty⟩ : Rcd) := ⟨_, rfl⟩
  obtain ⟨PP, hPP⟩ : ∃ PP : Prop, PP = partsOk (⟨7, birth, prev, id, page, frm, before, after, next, rows, dirty⟩ : Rcd) := ⟨_, rfl⟩
  have hb := fun w => rIsLsn birth w
  have hp := fun w => rIsLsn prev w
  have hn := fun w => rIsNext next w
  have hu := fun (wz : World) (kz : Kept [] w wz) => rUnranged _ (⟨7, birth, prev, id, page, frm, before, after, next, rows, dirty⟩ : Rcd) wz (h.kept kz)
  have hr := fun (wz : World) (kz : Kept [] w wz) => rRanged _ (⟨7, birth, prev, id, page, frm, before, after, next, rows, dirty⟩ : Rcd) wz (h.kept kz)
  have hl := fun (wz : World) (kz : Kept [] w wz) => rLists _ (⟨7, birth, prev, id, page, frm, before, after, next, rows, dirty⟩ : Rcd) wz (h.kept kz)
  rw [← hPL] at RI
  simp only [← hPL] at hl
  have HPL := @hideH _ hPL
  have HPR := @hideH _ hPR
  have HPP := @hideH _ hPP
  have HRI := @hideH _ RI
  clear hPL hPR hPP RI
  have hBS := @hideH _ h.before
  have hAS := @hideH _ h.after
  have hmx := @hideH _ (show after.length ≤ maxLen from (by obtain ⟨_, _, e, h1, h2, _⟩ := h.after; cases e; exact Nat.le_trans h1 h2))
  clear h
  unfold Rcd.agg at hu hr hl ⊢
  dsimp only at hu hr hl hBS hAS ⊢
  obtain ⟨Q, hQ⟩ : ∃ Q, Q = bl (⟨7, birth, prev, id, page, frm, before, after, next, rows, dirty⟩ : Rcd).Right := ⟨_, rfl⟩
  rw [← hQ]
  have HQ := @hideH _ hQ
  clear hQ
  obtain ⟨nb, hnb⟩ : ∃ nb, nb = before.length := ⟨_, rfl⟩
  obtain ⟨na, hna⟩ : ∃ na, na = after.length := ⟨_, rfl⟩
  obtain ⟨nr, hnr⟩ : ∃ nr, nr = rows.length := ⟨_, rfl⟩
  obtain ⟨nd, hnd⟩ : ∃ nd, nd = dirty.length := ⟨_, rfl⟩
  simp only [← hnb, ← hna, ← hnr, ← hnd] at hu hr hl ⊢
  have HNB := @hideH _ hnb
  have HNA := @hideH _ hna
  have HNR := @hideH _ hnr
  have HND := @hideH _ hnd
  clear hnb hna hnr hnd
  clear hb
  clear hp
  clear hn
  clear hr
  by_cases h0 : birth = 0
  · subst h0
    by_cases h1 : prev = 0
    · subst h1
      by_cases h2 : id = 0
      · subst h2
        by_cases h3 : PL
        · simp only [bl_t h3] at hl
          have k3 := @hideH _ h3
          clear h3
          by_cases h4 : next = 0
          · subst h4
            by_cases h5 : (page = 0 ∧ frm = 0 ∧ after = [])
            · simp only [bl_t h5] at hu
              have k5 := @hideH _ h5
              clear h5
              by_cases h6 : nb = 0
              · subst h6
                have eQ := @hideH _ (show Q = true by rw [HQ.out]; exact bl_t (HRI.out.2 ⟨⟨rfl, rfl⟩, rfl, k3.out, rfl, k5.out, (List.eq_nil_of_length_eq_zero HNB.out.symm)⟩))
                obtain ⟨w1, hw1⟩ : ∃ w1, w1 = w.alloc (.cells #[.int .i64 7, .int .i64 0, .int .i64 0, .int .i64 0, .int .i64 page, .int .i64 frm, .slice pb 0 cb, .slice pa na ca, .int .i64 0, .slice pr nr cr, .slice pd nd cd] 26) := ⟨_, rfl⟩
                have K1 : Kept [] w w1 := by rw [hw1]; exact (Kept.refl [] w).alloc _
                have bR : Blk w1 w.heap.size 26 [.int .i64 7, .int .i64 0, .int .i64 0, .int .i64 0, .int .i64 page, .int .i64 frm, .slice pb 0 cb, .slice pa na ca, .int .i64 0, .slice pr nr cr, .slice pd nd cd] := by rw [hw1]; exact Blk.new w _ _
                have c0 := bR.cell (j := 0) rfl
                have c1 := bR.cell (j := 1) rfl
                have c2 := bR.cell (j := 2) rfl
                have c3 := bR.cell (j := 3) rfl
                have c4 := bR.cell (j := 4) rfl
                have c5 := bR.cell (j := 5) rfl
                have c6 := bR.cell (j := 6) rfl
                have c7 := bR.cell (j := 7) rfl
                have c8 := bR.cell (j := 8) rfl
                have c9 := bR.cell (j := 9) rfl
                have c10 := bR.cell (j := 10) rfl
                clear bR
                go_enter Try.func39, Try.ntmps39
                go_upto_region 1 with fail
                rw [← hw1]
                clear hw1
                go_wp2_with fail
                refine (hl _ K1).mono ?_
                rintro e w2 ⟨rfl, kn⟩
                have K2 := K1.then kn
                replace c0 := kn.cell c0 (by simp)
                replace c1 := kn.cell c1 (by simp)
                replace c2 := kn.cell c2 (by simp)
                replace c3 := kn.cell c3 (by simp)
                replace c4 := kn.cell c4 (by simp)
                replace c5 := kn.cell c5 (by simp)
                replace c6 := kn.cell c6 (by simp)
                replace c7 := kn.cell c7 (by simp)
                replace c8 := kn.cell c8 (by simp)
                replace c9 := kn.cell c9 (by simp)
                replace c10 := kn.cell c10 (by simp)
                clear kn
                go_wp2_with fail
                refine (hu _ K2).mono ?_
                rintro e w3 ⟨rfl, kn⟩
                have K3 := K2.then kn
                replace c0 := kn.cell c0 (by simp)
                replace c1 := kn.cell c1 (by simp)
                replace c2 := kn.cell c2 (by simp)
                replace c3 := kn.cell c3 (by simp)
                replace c4 := kn.cell c4 (by simp)
                replace c5 := kn.cell c5 (by simp)
                replace c6 := kn.cell c6 (by simp)
                replace c7 := kn.cell c7 (by simp)
                replace c8 := kn.cell c8 (by simp)
                replace c9 := kn.cell c9 (by simp)
                replace c10 := kn.cell c10 (by simp)
                clear kn
                have RK := @hideH _ K3
                go_wp2
                go_ret
                exact ⟨by rw [eQ.out]; rfl, RK.out⟩
              · have eQ := @hideH _ (show Q = false by rw [HQ.out]; exact bl_f (fun hR => by have q := HRI.out.1 hR; exact h6 (by rw [HNB.out, q.2.2.2.2.2]; rfl)))
                have g_nb : 0 < nb := by omega
                have e_nb : ((nb : Int) == 0) = false := by simp [h6]
                obtain ⟨w1, hw1⟩ : ∃ w1, w1 = w.alloc (.cells #[.int .i64 7, .int .i64 0, .int .i64 0, .int .i64 0, .int .i64 page, .int .i64 frm, .slice pb nb cb, .slice pa na ca, .int .i64 0, .slice pr nr cr, .slice pd nd cd] 26) := ⟨_, rfl⟩
                have K1 : Kept [] w w1 := by rw [hw1]; exact (Kept.refl [] w).alloc _
                have bR : Blk w1 w.heap.size 26 [.int .i64 7, .int .i64 0, .int .i64 0, .int .i64 0, .int .i64 page, .int .i64 frm, .slice pb nb cb, .slice pa na ca, .int .i64 0, .slice pr nr cr, .slice pd nd cd] := by rw [hw1]; exact Blk.new w _ _
                have c0 := bR.cell (j := 0) rfl
                have c1 := bR.cell (j := 1) rfl
                have c2 := bR.cell (j := 2) rfl
                have c3 := bR.cell (j := 3) rfl
                have c4 := bR.cell (j := 4) rfl
                have c5 := bR.cell (j := 5) rfl
                have c6 := bR.cell (j := 6) rfl
                have c7 := bR.cell (j := 7) rfl
                have c8 := bR.cell (j := 8) rfl
                have c9 := bR.cell (j := 9) rfl
                have c10 := bR.cell (j := 10) rfl
                clear bR
                go_enter Try.func39, Try.ntmps39
                go_upto_region 1 with fail
                rw [← hw1]
                clear hw1
                go_wp2_with fail
                refine (hl _ K1).mono ?_
                rintro e w2 ⟨rfl, kn⟩
                have K2 := K1.then kn
                replace c0 := kn.cell c0 (by simp)
                replace c1 := kn.cell c1 (by simp)
                replace c2 := kn.cell c2 (by simp)
                replace c3 := kn.cell c3 (by simp)
                replace c4 := kn.cell c4 (by simp)
                replace c5 := kn.cell c5 (by simp)
                replace c6 := kn.cell c6 (by simp)
                replace c7 := kn.cell c7 (by simp)
                replace c8 := kn.cell c8 (by simp)
                replace c9 := kn.cell c9 (by simp)
                replace c10 := kn.cell c10 (by simp)
                clear kn
                go_wp2_with fail
                refine (hu _ K2).mono ?_
                rintro e w3 ⟨rfl, kn⟩
                have K3 := K2.then kn
                replace c0 := kn.cell c0 (by simp)
                replace c1 := kn.cell c1 (by simp)
                replace c2 := kn.cell c2 (by simp)
                replace c3 := kn.cell c3 (by simp)
                replace c4 := kn.cell c4 (by simp)
                replace c5 := kn.cell c5 (by simp)
                replace c6 := kn.cell c6 (by simp)
                replace c7 := kn.cell c7 (by simp)
                replace c8 := kn.cell c8 (by simp)
                replace c9 := kn.cell c9 (by simp)
                replace c10 := kn.cell c10 (by simp)
                clear kn
                have RK := @hideH _ K3
                go_wp2
                go_ret
                exact ⟨by rw [eQ.out]; rfl, RK.out⟩
            · have eQ := @hideH _ (show Q = false by rw [HQ.out]; exact bl_f (fun hR => by have q := HRI.out.1 hR; exact h5 (q.2.2.2.2.1)))
              simp only [bl_f h5] at hu
              clear h5
              obtain ⟨w1, hw1⟩ : ∃ w1, w1 = w.alloc (.cells #[.int .i64 7, .int .i64 0, .int .i64 0, .int .i64 0, .int .i64 page, .int .i64 frm, .slice pb nb cb, .slice pa na ca, .int .i64 0, .slice pr nr cr, .slice pd nd cd] 26) := ⟨_, rfl⟩
              have K1 : Kept [] w w1 := by rw [hw1]; exact (Kept.refl [] w).alloc _
              have bR : Blk w1 w.heap.size 26 [.int .i64 7, .int .i64 0, .int .i64 0, .int .i64 0, .int .i64 page, .int .i64 frm, .slice pb nb cb, .slice pa na ca, .int .i64 0, .slice pr nr cr, .slice pd nd cd] := by rw [hw1]; exact Blk.new w _ _
              have c0 := bR.cell (j := 0) rfl
              have c1 := bR.cell (j := 1) rfl
              have c2 := bR.cell (j := 2) rfl
              have c3 := bR.cell (j := 3) rfl
              have c4 := bR.cell (j := 4) rfl
              have c5 := bR.cell (j := 5) rfl
              have c6 := bR.cell (j := 6) rfl
              have c7 := bR.cell (j := 7) rfl
              have c8 := bR.cell (j := 8) rfl
              have c9 := bR.cell (j := 9) rfl
              have c10 := bR.cell (j := 10) rfl
              clear bR
              go_enter Try.func39, Try.ntmps39
              go_upto_region 1 with fail
              rw [← hw1]
              clear hw1
              go_wp2_with fail
              refine (hl _ K1).mono ?_
              rintro e w2 ⟨rfl, kn⟩
              have K2 := K1.then kn
              replace c0 := kn.cell c0 (by simp)
              replace c1 := kn.cell c1 (by simp)
              replace c2 := kn.cell c2 (by simp)
              replace c3 := kn.cell c3 (by simp)
              replace c4 := kn.cell c4 (by simp)
              replace c5 := kn.cell c5 (by simp)
              replace c6 := kn.cell c6 (by simp)
              replace c7 := kn.cell c7 (by simp)
              replace c8 := kn.cell c8 (by simp)
              replace c9 := kn.cell c9 (by simp)
              replace c10 := kn.cell c10 (by simp)
              clear kn
              go_wp2_with fail
              refine (hu _ K2).mono ?_
              rintro e w3 ⟨rfl, kn⟩
              have K3 := K2.then kn
              replace c0 := kn.cell c0 (by simp)
              replace c1 := kn.cell c1 (by simp)
              replace c2 := kn.cell c2 (by simp)
              replace c3 := kn.cell c3 (by simp)
              replace c4 := kn.cell c4 (by simp)
              replace c5 := kn.cell c5 (by simp)
              replace c6 := kn.cell c6 (by simp)
              replace c7 := kn.cell c7 (by simp)
              replace c8 := kn.cell c8 (by simp)
              replace c9 := kn.cell c9 (by simp)
              replace c10 := kn.cell c10 (by simp)
              clear kn
              have RK := @hideH _ K3
              go_wp2
              go_ret
              exact ⟨by rw [eQ.out]; rfl, RK.out⟩
          · have eQ := @hideH _ (show Q = false by rw [HQ.out]; exact bl_f (fun hR => by have q := HRI.out.1 hR; exact h4 (q.2.2.2.1)))
            have e_next : (next != 0) = true := by simp [h4]
            have g_next : (next == 0) = false := by simp [h4]
            obtain ⟨w1, hw1⟩ : ∃ w1, w1 = w.alloc (.cells #[.int .i64 7, .int .i64 0, .int .i64 0, .int .i64 0, .int .i64 page, .int .i64 frm, .slice pb nb cb, .slice pa na ca, .int .i64 next, .slice pr nr cr, .slice pd nd cd] 26) := ⟨_, rfl⟩
            have K1 : Kept [] w w1 := by rw [hw1]; exact (Kept.refl [] w).alloc _
            have bR : Blk w1 w.heap.size 26 [.int .i64 7, .int .i64 0, .int .i64 0, .int .i64 0, .int .i64 page, .int .i64 frm, .slice pb nb cb, .slice pa na ca, .int .i64 next, .slice pr nr cr, .slice pd nd cd] := by rw [hw1]; exact Blk.new w _ _
            have c0 := bR.cell (j := 0) rfl
            have c1 := bR.cell (j := 1) rfl
            have c2 := bR.cell (j := 2) rfl
            have c3 := bR.cell (j := 3) rfl
            have c4 := bR.cell (j := 4) rfl
            have c5 := bR.cell (j := 5) rfl
            have c6 := bR.cell (j := 6) rfl
            have c7 := bR.cell (j := 7) rfl
            have c8 := bR.cell (j := 8) rfl
            have c9 := bR.cell (j := 9) rfl
            have c10 := bR.cell (j := 10) rfl
            clear bR
            go_enter Try.func39, Try.ntmps39
            go_upto_region 1 with fail
            rw [← hw1]
            clear hw1
            go_wp2_with fail
            refine (hl _ K1).mono ?_
            rintro e w2 ⟨rfl, kn⟩
            have K2 := K1.then kn
            replace c0 := kn.cell c0 (by simp)
            replace c1 := kn.cell c1 (by simp)
            replace c2 := kn.cell c2 (by simp)
            replace c3 := kn.cell c3 (by simp)
            replace c4 := kn.cell c4 (by simp)
            replace c5 := kn.cell c5 (by simp)
            replace c6 := kn.cell c6 (by simp)
            replace c7 := kn.cell c7 (by simp)
            replace c8 := kn.cell c8 (by simp)
            replace c9 := kn.cell c9 (by simp)
            replace c10 := kn.cell c10 (by simp)
            clear kn
            have RK := @hideH _ K2
            go_wp2
            go_ret
            exact ⟨by rw [eQ.out]; rfl, RK.out⟩
        · have eQ := @hideH _ (show Q = false by rw [HQ.out]; exact bl_f (fun hR => by have q := HRI.out.1 hR; exact h3 (q.2.2.1)))
          simp only [bl_f h3] at hl
          clear h3
          obtain ⟨w1, hw1⟩ : ∃ w1, w1 = w.alloc (.cells #[.int .i64 7, .int .i64 0, .int .i64 0, .int .i64 0, .int .i64 page, .int .i64 frm, .slice pb nb cb, .slice pa na ca, .int .i64 next, .slice pr nr cr, .slice pd nd cd] 26) := ⟨_, rfl⟩
          have K1 : Kept [] w w1 := by rw [hw1]; exact (Kept.refl [] w).alloc _
          have bR : Blk w1 w.heap.size 26 [.int .i64 7, .int .i64 0, .int .i64 0, .int .i64 0, .int .i64 page, .int .i64 frm, .slice pb nb cb, .slice pa na ca, .int .i64 next, .slice pr nr cr, .slice pd nd cd] := by rw [hw1]; exact Blk.new w _ _
          have c0 := bR.cell (j := 0) rfl
          have c1 := bR.cell (j := 1) rfl
          have c2 := bR.cell (j := 2) rfl
          have c3 := bR.cell (j := 3) rfl
          have c4 := bR.cell (j := 4) rfl
          have c5 := bR.cell (j := 5) rfl
          have c6 := bR.cell (j := 6) rfl
          have c7 := bR.cell (j := 7) rfl
          have c8 := bR.cell (j := 8) rfl
          have c9 := bR.cell (j := 9) rfl
          have c10 := bR.cell (j := 10) rfl
          clear bR
          go_enter Try.func39, Try.ntmps39
          go_upto_region 1 with fail
          rw [← hw1]
          clear hw1
          go_wp2_with fail
          refine (hl _ K1).mono ?_
          rintro e w2 ⟨rfl, kn⟩
          have K2 := K1.then kn
          replace c0 := kn.cell c0 (by simp)
          replace c1 := kn.cell c1 (by simp)
          replace c2 := kn.cell c2 (by simp)
          replace c3 := kn.cell c3 (by simp)
          replace c4 := kn.cell c4 (by simp)
          replace c5 := kn.cell c5 (by simp)
          replace c6 := kn.cell c6 (by simp)
          replace c7 := kn.cell c7 (by simp)
          replace c8 := kn.cell c8 (by simp)
          replace c9 := kn.cell c9 (by simp)
          replace c10 := kn.cell c10 (by simp)
          clear kn
          have RK := @hideH _ K2
          go_wp2
          go_ret
          exact ⟨by rw [eQ.out]; rfl, RK.out⟩
      · have eQ := @hideH _ (show Q = false by rw [HQ.out]; exact bl_f (fun hR => by have q := HRI.out.1 hR; exact h2 (q.2.1)))
        have e_id : (id != 0) = true := by simp [h2]
        have g_id : (id == 0) = false := by simp [h2]
        obtain ⟨w1, hw1⟩ : ∃ w1, w1 = w.alloc (.cells #[.int .i64 7, .int .i64 0, .int .i64 0, .int .i64 id, .int .i64 page, .int .i64 frm, .slice pb nb cb, .slice pa na ca, .int .i64 next, .slice pr nr cr, .slice pd nd cd] 26) := ⟨_, rfl⟩
        have K1 : Kept [] w w1 := by rw [hw1]; exact (Kept.refl [] w).alloc _
        have bR : Blk w1 w.heap.size 26 [.int .i64 7, .int .i64 0, .int .i64 0, .int .i64 id, .int .i64 page, .int .i64 frm, .slice pb nb cb, .slice pa na ca, .int .i64 next, .slice pr nr cr, .slice pd nd cd] := by rw [hw1]; exact Blk.new w _ _
        have c0 := bR.cell (j := 0) rfl
        have c1 := bR.cell (j := 1) rfl
        have c2 := bR.cell (j := 2) rfl
        have c3 := bR.cell (j := 3) rfl
        have c4 := bR.cell (j := 4) rfl
        have c5 := bR.cell (j := 5) rfl
        have c6 := bR.cell (j := 6) rfl
        have c7 := bR.cell (j := 7) rfl
        have c8 := bR.cell (j := 8) rfl
        have c9 := bR.cell (j := 9) rfl
        have c10 := bR.cell (j := 10) rfl
        clear bR
        go_enter Try.func39, Try.ntmps39
        go_upto_region 1 with fail
        rw [← hw1]
        clear hw1
        have RK := @hideH _ K1
        go_wp2
        go_ret
        exact ⟨by rw [eQ.out]; rfl, RK.out⟩
    · have eQ := @hideH _ (show Q = false by rw [HQ.out]; exact bl_f (fun hR => by have q := HRI.out.1 hR; exact h1 (q.1.2)))
      have e_prev : (prev != 0) = true := by simp [h1]
      have g_prev : (prev == 0) = false := by simp [h1]
      obtain ⟨w1, hw1⟩ : ∃ w1, w1 = w.alloc (.cells #[.int .i64 7, .int .i64 0, .int .i64 prev, .int .i64 id, .int .i64 page, .int .i64 frm, .slice pb nb cb, .slice pa na ca, .int .i64 next, .slice pr nr cr, .slice pd nd cd] 26) := ⟨_, rfl⟩
      have K1 : Kept [] w w1 := by rw [hw1]; exact (Kept.refl [] w).alloc _
      have bR : Blk w1 w.heap.size 26 [.int .i64 7, .int .i64 0, .int .i64 prev, .int .i64 id, .int .i64 page, .int .i64 frm, .slice pb nb cb, .slice pa na ca, .int .i64 next, .slice pr nr cr, .slice pd nd cd] := by rw [hw1]; exact Blk.new w _ _
      have c0 := bR.cell (j := 0) rfl
      have c1 := bR.cell (j := 1) rfl
      have c2 := bR.cell (j := 2) rfl
      have c3 := bR.cell (j := 3) rfl
      have c4 := bR.cell (j := 4) rfl
      have c5 := bR.cell (j := 5) rfl
      have c6 := bR.cell (j := 6) rfl
      have c7 := bR.cell (j := 7) rfl
      have c8 := bR.cell (j := 8) rfl
      have c9 := bR.cell (j := 9) rfl
      have c10 := bR.cell (j := 10) rfl
      clear bR
      go_enter Try.func39, Try.ntmps39
      go_upto_region 1 with fail
      rw [← hw1]
      clear hw1
      have RK := @hideH _ K1
      go_wp2
      go_ret
      exact ⟨by rw [eQ.out]; rfl, RK.out⟩
  · have eQ := @hideH _ (show Q = false by rw [HQ.out]; exact bl_f (fun hR => by have q := HRI.out.1 hR; exact h0 (q.1.1)))
    have e_birth : (birth != 0) = true := by simp [h0]
    have g_birth : (birth == 0) = false := by simp [h0]
    obtain ⟨w1, hw1⟩ : ∃ w1, w1 = w.alloc (.cells #[.int .i64 7, .int .i64 birth, .int .i64 prev, .int .i64 id, .int .i64 page, .int .i64 frm, .slice pb nb cb, .slice pa na ca, .int .i64 next, .slice pr nr cr, .slice pd nd cd] 26) := ⟨_, rfl⟩
    have K1 : Kept [] w w1 := by rw [hw1]; exact (Kept.refl [] w).alloc _
    have bR : Blk w1 w.heap.size 26 [.int .i64 7, .int .i64 birth, .int .i64 prev, .int .i64 id, .int .i64 page, .int .i64 frm, .slice pb nb cb, .slice pa na ca, .int .i64 next, .slice pr nr cr, .slice pd nd cd] := by rw [hw1]; exact Blk.new w _ _
    have c0 := bR.cell (j := 0) rfl
    have c1 := bR.cell (j := 1) rfl
    have c2 := bR.cell (j := 2) rfl
    have c3 := bR.cell (j := 3) rfl
    have c4 := bR.cell (j := 4) rfl
    have c5 := bR.cell (j := 5) rfl
    have c6 := bR.cell (j := 6) rfl
    have c7 := bR.cell (j := 7) rfl
    have c8 := bR.cell (j := 8) rfl
    have c9 := bR.cell (j := 9) rfl
    have c10 := bR.cell (j := 10) rfl
    clear bR
    go_enter Try.func39, Try.ntmps39
    go_upto_region 1 with fail
    rw [← hw1]
    clear hw1
    have RK := @hideH _ K1
    go_wp2
    go_ret
    exact ⟨by rw [eQ.out]; rfl, RK.out⟩
end Go.Proofs.Ytebcmcmboomgfaa

/-
  OWN WORK. The document's records (tidemarkref09): Right.
-/
namespace Go.Proofs.Ytebcmcmboomgfaa
open Go.RowKit
set_option linter.unusedVariables false
set_option linter.unusedSimpArgs false

set_option maxRecDepth 20000 in
set_option maxHeartbeats 1600000 in
theorem rRight_out (V : RV) (r : Rcd) (w : World) (h : SeeR w V r) (hk : ¬ (1 ≤ r.kind ∧ r.kind ≤ 7)) : Calls Try.prog 39 #[r.agg V] w fun e w' => e = .returned (.bool (bl r.Right)) ∧ Kept [] w w' := by
  have eQ := @hideH _ (show bl r.Right = false from bl_f (fun q => hk q.1))
  obtain ⟨Q, hQ⟩ : ∃ Q, Q = bl r.Right := ⟨_, rfl⟩
  rw [← hQ] at eQ ⊢
  clear hQ
  obtain ⟨pb, cb, pa, ca, pr, cr, pd, cd, rfl⟩ := h.shapes
  obtain ⟨kind, birth, prev, id, page, frm, before, after, next, rows, dirty⟩ := r
  clear h
  unfold Rcd.agg
  dsimp only at hk ⊢
  by_cases h1 : kind < 1
  · clear hk
    go_enter Try.func39, Try.ntmps39
    go_wp2
    go_ret
    exact ⟨by rw [eQ.out]; rfl, (Kept.refl [] w).alloc _⟩
  · have h7 : 7 < kind := by omega
    clear hk
    go_enter Try.func39, Try.ntmps39
    go_wp2
    go_ret
    exact ⟨by rw [eQ.out]; rfl, (Kept.refl [] w).alloc _⟩
theorem rRight (V : RV) (r : Rcd) (w : World) (h : SeeR w V r) : Calls Try.prog 39 #[r.agg V] w fun e w' => e = .returned (.bool (bl r.Right)) ∧ Kept [] w w' := by
  by_cases hk : 1 ≤ r.kind ∧ r.kind ≤ 7
  · obtain ⟨kind, birth, prev, id, page, frm, before, after, next, rows, dirty⟩ := r
    dsimp only at hk
    have hc : kind = 1 ∨ kind = 2 ∨ kind = 3 ∨ kind = 4 ∨ kind = 5 ∨ kind = 6 ∨ kind = 7 := by omega
    rcases hc with rfl | rfl | rfl | rfl | rfl | rfl | rfl
    · exact rRight_1 V _ _ _ _ _ _ _ _ _ _ w h
    · exact rRight_2 V _ _ _ _ _ _ _ _ _ _ w h
    · exact rRight_3 V _ _ _ _ _ _ _ _ _ _ w h
    · exact rRight_4 V _ _ _ _ _ _ _ _ _ _ w h
    · exact rRight_5 V _ _ _ _ _ _ _ _ _ _ w h
    · exact rRight_6 V _ _ _ _ _ _ _ _ _ _ w h
    · exact rRight_7 V _ _ _ _ _ _ _ _ _ _ w h
  · exact rRight_out V r w h hk
end Go.Proofs.Ytebcmcmboomgfaa

/-
  OWN WORK (by mkrec5.py). The document's records (tidemarkref09): Bytes, of a right record of one kind.
-/
namespace Go.Proofs.Ytebcmcmboomgfaa
open Go.RowKit
set_option linter.unusedVariables false
set_option linter.unusedSimpArgs false

set_option maxRecDepth 20000 in
set_option maxHeartbeats 12800000 in
theorem rBytes_1 (V : RV) (birth prev id page frm : Int) (before after : List UInt8) (next : Int) (rows : List RowR) (dirty : List RecR) (w : World) (h : SeeR w V (⟨1, birth, prev, id, page, frm, before, after, next, rows, dirty⟩ : Rcd)) (hR : (⟨1, birth, prev, id, page, frm, before, after, next, rows, dirty⟩ : Rcd).Right) : Calls Try.prog 25 #[(⟨1, birth, prev, id, page, frm, before, after, next, rows, dirty⟩ : Rcd).agg V] w fun e w' => ∃ u acc, e = .returned (.tuple #[u, .int .i64 0]) ∧ acc = bytesR (⟨1, birth, prev, id, page, frm, before, after, next, rows, dirty⟩ : Rcd) ∧ Acc w w' u acc := by
  obtain ⟨pb, cb, pa, ca, pr, cr, pd, cd, rfl⟩ := h.shapes
  have hr := fun (wz : World) (kz : Kept [] w wz) => rRight _ (⟨1, birth, prev, id, page, frm, before, after, next, rows, dirty⟩ : Rcd) wz (h.kept kz)
  simp only [bl_t hR] at hr
  have HSE := @hideH _ h
  have HRR := @hideH _ hR
  obtain ⟨⟨-, -⟩, q2, q3, q4, q5, q6, q7⟩ := hR
  simp [lsnOk, nextOk, rangedOk, partsOk, listsOk] at q2 q3 q4 q5 q6 q7
  have HB1 := @hideH _ (show (0 ≤ birth ∧ birth ≤ 1152921504606846976) ∧ 0 ≤ prev ∧ prev ≤ 1152921504606846976 by omega)
  have HB2 := @hideH _ (show 0 ≤ id ∧ id ≤ 1152921504606846976 by omega)
  clear h q2 q3 q4 q5 q6 q7
  unfold Rcd.agg at hr ⊢
  dsimp only at hr ⊢
  obtain ⟨RB, hRB⟩ : ∃ RB, RB = bytesR (⟨1, birth, prev, id, page, frm, before, after, next, rows, dirty⟩ : Rcd) := ⟨_, rfl⟩
  rw [← hRB]
  have HRB := @hideH _ hRB
  clear hRB
  obtain ⟨nb, hnb⟩ : ∃ nb, nb = before.length := ⟨_, rfl⟩
  obtain ⟨na, hna⟩ : ∃ na, na = after.length := ⟨_, rfl⟩
  obtain ⟨nr, hnr⟩ : ∃ nr, nr = rows.length := ⟨_, rfl⟩
  obtain ⟨nd, hnd⟩ : ∃ nd, nd = dirty.length := ⟨_, rfl⟩
  simp only [← hnb, ← hna, ← hnr, ← hnd] at hr ⊢
  have HNB := @hideH _ hnb
  have HNA := @hideH _ hna
  have HNR := @hideH _ hnr
  have HND := @hideH _ hnd
  clear hnb hna hnr hnd
  obtain ⟨w1, hw1⟩ : ∃ w1, w1 = w.alloc (.cells #[.int .i64 1, .int .i64 birth, .int .i64 prev, .int .i64 id, .int .i64 page, .int .i64 frm, .slice pb nb cb, .slice pa na ca, .int .i64 next, .slice pr nr cr, .slice pd nd cd] 26) := ⟨_, rfl⟩
  have k1 : Kept [] w w1 := by rw [hw1]; exact (Kept.refl [] w).alloc _
  have bR : Blk w1 w.heap.size 26 [.int .i64 1, .int .i64 birth, .int .i64 prev, .int .i64 id, .int .i64 page, .int .i64 frm, .slice pb nb cb, .slice pa na ca, .int .i64 next, .slice pr nr cr, .slice pd nd cd] := by rw [hw1]; exact Blk.new w _ _
  have K1 := @hideH _ k1
  have HBR := @hideH _ bR
  have c0 := bR.cell (j := 0) rfl
  have c1 := bR.cell (j := 1) rfl
  have c2 := bR.cell (j := 2) rfl
  have c3 := bR.cell (j := 3) rfl
  have c4 := bR.cell (j := 4) rfl
  have c5 := bR.cell (j := 5) rfl
  have c6 := bR.cell (j := 6) rfl
  have c7 := bR.cell (j := 7) rfl
  have c8 := bR.cell (j := 8) rfl
  have c9 := bR.cell (j := 9) rfl
  have c10 := bR.cell (j := 10) rfl
  clear bR k1
  go_enter Try.func25, Try.ntmps25
  go_upto_region 1 with fail
  rw [← hw1]
  clear hw1
  go_wp2_with fail
  refine (hr _ K1.out).mono ?_
  clear hr
  rintro e w2 ⟨rfl, k2⟩
  have A2 := @hideH _ (Acc.nil k2)
  replace c0 := k2.cell c0 (by simp)
  replace c1 := k2.cell c1 (by simp)
  replace c2 := k2.cell c2 (by simp)
  replace c3 := k2.cell c3 (by simp)
  replace c4 := k2.cell c4 (by simp)
  replace c5 := k2.cell c5 (by simp)
  replace c6 := k2.cell c6 (by simp)
  replace c7 := k2.cell c7 (by simp)
  replace c8 := k2.cell c8 (by simp)
  replace c9 := k2.cell c9 (by simp)
  replace c10 := k2.cell c10 (by simp)
  clear k2
  have L2 := @hideH _ (show ([] : List UInt8).length ≤ 0 from Nat.le_refl _)
  have hq := A2.out.put 1 1 (by omega) (by omega) (by omega) (Nat.le_trans L2.out (by decide))
  go_wp2_with fail
  refine hq.mono ?_
  clear hq
  rintro e w3 ⟨u3, a3, rfl, E3, R3⟩
  obtain ⟨p3, d3, rfl⟩ := own_shape2 R3.1
  have A3 := @hideH _ R3
  have L3 := @hideH _ (show a3.length ≤ 1 by rw [E3.out.2]; exact Nat.add_le_add_right L2.out 1)
  have kz := R3.2
  have n0 := (HBR.out.kept kz (by simp)).cell (j := 0) rfl
  have n1 := (HBR.out.kept kz (by simp)).cell (j := 1) rfl
  have n2 := (HBR.out.kept kz (by simp)).cell (j := 2) rfl
  have n3 := (HBR.out.kept kz (by simp)).cell (j := 3) rfl
  have n4 := (HBR.out.kept kz (by simp)).cell (j := 4) rfl
  have n5 := (HBR.out.kept kz (by simp)).cell (j := 5) rfl
  have n6 := (HBR.out.kept kz (by simp)).cell (j := 6) rfl
  have n7 := (HBR.out.kept kz (by simp)).cell (j := 7) rfl
  have n8 := (HBR.out.kept kz (by simp)).cell (j := 8) rfl
  have n9 := (HBR.out.kept kz (by simp)).cell (j := 9) rfl
  have n10 := (HBR.out.kept kz (by simp)).cell (j := 10) rfl
  clear kz R3 A2 c0 c1 c2 c3 c4 c5 c6 c7 c8 c9 c10
  have c0 := n0
  have c1 := n1
  have c2 := n2
  have c3 := n3
  have c4 := n4
  have c5 := n5
  have c6 := n6
  have c7 := n7
  have c8 := n8
  have c9 := n9
  have c10 := n10
  clear n0 n1 n2 n3 n4 n5 n6 n7 n8 n9 n10
  have hq := A3.out.put birth 8 HB1.out.1.1 HB1.out.1.2 (by omega) (Nat.le_trans L3.out (by decide))
  go_wp2_with fail
  refine hq.mono ?_
  clear hq
  rintro e w4 ⟨u4, a4, rfl, E4, R4⟩
  obtain ⟨p4, d4, rfl⟩ := own_shape2 R4.1
  have A4 := @hideH _ R4
  have L4 := @hideH _ (show a4.length ≤ 9 by rw [E4.out.2]; exact Nat.add_le_add_right L3.out 8)
  have kz := R4.2
  have n0 := (HBR.out.kept kz (by simp)).cell (j := 0) rfl
  have n1 := (HBR.out.kept kz (by simp)).cell (j := 1) rfl
  have n2 := (HBR.out.kept kz (by simp)).cell (j := 2) rfl
  have n3 := (HBR.out.kept kz (by simp)).cell (j := 3) rfl
  have n4 := (HBR.out.kept kz (by simp)).cell (j := 4) rfl
  have n5 := (HBR.out.kept kz (by simp)).cell (j := 5) rfl
  have n6 := (HBR.out.kept kz (by simp)).cell (j := 6) rfl
  have n7 := (HBR.out.kept kz (by simp)).cell (j := 7) rfl
  have n8 := (HBR.out.kept kz (by simp)).cell (j := 8) rfl
  have n9 := (HBR.out.kept kz (by simp)).cell (j := 9) rfl
  have n10 := (HBR.out.kept kz (by simp)).cell (j := 10) rfl
  clear kz R4 A3 c0 c1 c2 c3 c4 c5 c6 c7 c8 c9 c10
  have c0 := n0
  have c1 := n1
  have c2 := n2
  have c3 := n3
  have c4 := n4
  have c5 := n5
  have c6 := n6
  have c7 := n7
  have c8 := n8
  have c9 := n9
  have c10 := n10
  clear n0 n1 n2 n3 n4 n5 n6 n7 n8 n9 n10
  have hq := A4.out.put prev 8 HB1.out.2.1 HB1.out.2.2 (by omega) (Nat.le_trans L4.out (by decide))
  go_wp2_with fail
  refine hq.mono ?_
  clear hq
  rintro e w5 ⟨u5, a5, rfl, E5, R5⟩
  obtain ⟨p5, d5, rfl⟩ := own_shape2 R5.1
  have A5 := @hideH _ R5
  have L5 := @hideH _ (show a5.length ≤ 17 by rw [E5.out.2]; exact Nat.add_le_add_right L4.out 8)
  have kz := R5.2
  have n0 := (HBR.out.kept kz (by simp)).cell (j := 0) rfl
  have n1 := (HBR.out.kept kz (by simp)).cell (j := 1) rfl
  have n2 := (HBR.out.kept kz (by simp)).cell (j := 2) rfl
  have n3 := (HBR.out.kept kz (by simp)).cell (j := 3) rfl
  have n4 := (HBR.out.kept kz (by simp)).cell (j := 4) rfl
  have n5 := (HBR.out.kept kz (by simp)).cell (j := 5) rfl
  have n6 := (HBR.out.kept kz (by simp)).cell (j := 6) rfl
  have n7 := (HBR.out.kept kz (by simp)).cell (j := 7) rfl
  have n8 := (HBR.out.kept kz (by simp)).cell (j := 8) rfl
  have n9 := (HBR.out.kept kz (by simp)).cell (j := 9) rfl
  have n10 := (HBR.out.kept kz (by simp)).cell (j := 10) rfl
  clear kz R5 A4 c0 c1 c2 c3 c4 c5 c6 c7 c8 c9 c10
  have c0 := n0
  have c1 := n1
  have c2 := n2
  have c3 := n3
  have c4 := n4
  have c5 := n5
  have c6 := n6
  have c7 := n7
  have c8 := n8
  have c9 := n9
  have c10 := n10
  clear n0 n1 n2 n3 n4 n5 n6 n7 n8 n9 n10
  have hq := A5.out.put id 1 HB2.out.1 HB2.out.2 (by omega) (Nat.le_trans L5.out (by decide))
  go_wp2_with fail
  refine hq.mono ?_
  clear hq
  rintro e w6 ⟨u6, a6, rfl, E6, R6⟩
  obtain ⟨p6, d6, rfl⟩ := own_shape2 R6.1
  have A6 := @hideH _ R6
  have L6 := @hideH _ (show a6.length ≤ 18 by rw [E6.out.2]; exact Nat.add_le_add_right L5.out 1)
  have kz := R6.2
  have n0 := (HBR.out.kept kz (by simp)).cell (j := 0) rfl
  have n1 := (HBR.out.kept kz (by simp)).cell (j := 1) rfl
  have n2 := (HBR.out.kept kz (by simp)).cell (j := 2) rfl
  have n3 := (HBR.out.kept kz (by simp)).cell (j := 3) rfl
  have n4 := (HBR.out.kept kz (by simp)).cell (j := 4) rfl
  have n5 := (HBR.out.kept kz (by simp)).cell (j := 5) rfl
  have n6 := (HBR.out.kept kz (by simp)).cell (j := 6) rfl
  have n7 := (HBR.out.kept kz (by simp)).cell (j := 7) rfl
  have n8 := (HBR.out.kept kz (by simp)).cell (j := 8) rfl
  have n9 := (HBR.out.kept kz (by simp)).cell (j := 9) rfl
  have n10 := (HBR.out.kept kz (by simp)).cell (j := 10) rfl
  clear kz R6 A5 c0 c1 c2 c3 c4 c5 c6 c7 c8 c9 c10
  have c0 := n0
  have c1 := n1
  have c2 := n2
  have c3 := n3
  have c4 := n4
  have c5 := n5
  have c6 := n6
  have c7 := n7
  have c8 := n8
  have c9 := n9
  have c10 := n10
  clear n0 n1 n2 n3 n4 n5 n6 n7 n8 n9 n10
  have FIN := @hideH _ (show a6 = RB ∧ Acc w w6 (.slice p6 a6.length d6) a6 from ⟨by rw [HRB.out, E6.out.1, E5.out.1, E4.out.1, E3.out.1]; simp [bytesR, tailB], own_baseK A6.out.1 K1.out.size, K1.out.then A6.out.2⟩)
  skip
  go_wp2
  go_ret2
  exact ⟨_, _, rfl, FIN.out⟩
end Go.Proofs.Ytebcmcmboomgfaa

/-
  OWN WORK (by mkrec5.py). The document's records (tidemarkref09): Bytes, of a right record of one kind.
-/
namespace Go.Proofs.Ytebcmcmboomgfaa
open Go.RowKit
set_option linter.unusedVariables false
set_option linter.unusedSimpArgs false

set_option maxRecDepth 20000 in
set_option maxHeartbeats 12800000 in
theorem rBytes_2 (V : RV) (birth prev id page frm : Int) (before after : List UInt8) (next : Int) (rows : List RowR) (dirty : List RecR) (w : World) (h : SeeR w V (⟨2, birth, prev, id, page, frm, before, after, next, rows, dirty⟩ : Rcd)) (hR : (⟨2, birth, prev, id, page, frm, before, after, next, rows, dirty⟩ : Rcd).Right) : Calls Try.prog 25 #[(⟨2, birth, prev, id, page, frm, before, after, next, rows, dirty⟩ : Rcd).agg V] w fun e w' => ∃ u acc, e = .returned (.tuple #[u, .int .i64 0]) ∧ acc = bytesR (⟨2, birth, prev, id, page, frm, before, after, next, rows, dirty⟩ : Rcd) ∧ Acc w w' u acc := by
  obtain ⟨pb, cb, pa, ca, pr, cr, pd, cd, rfl⟩ := h.shapes
  have hr := fun (wz : World) (kz : Kept [] w wz) => rRight _ (⟨2, birth, prev, id, page, frm, before, after, next, rows, dirty⟩ : Rcd) wz (h.kept kz)
  simp only [bl_t hR] at hr
  have HSE := @hideH _ h
  have HRR := @hideH _ hR
  obtain ⟨⟨-, -⟩, q2, q3, q4, q5, q6, q7⟩ := hR
  simp [lsnOk, nextOk, rangedOk, partsOk, listsOk] at q2 q3 q4 q5 q6 q7
  have HB1 := @hideH _ (show (0 ≤ birth ∧ birth ≤ 1152921504606846976) ∧ 0 ≤ prev ∧ prev ≤ 1152921504606846976 by omega)
  have HB2 := @hideH _ (show (0 ≤ page ∧ page ≤ 1152921504606846976) ∧ (0 ≤ frm ∧ frm ≤ 1152921504606846976) ∧ after.length ≤ 128 by omega)
  have HB4 := @hideH _ q7.1
  have HBL := @hideH _ (show before.length ≤ 128 ∧ after.length ≤ 128 from ⟨by rw [q7.1]; exact HB2.out.2.2, HB2.out.2.2⟩)
  clear h q2 q3 q4 q5 q6 q7
  unfold Rcd.agg at hr ⊢
  dsimp only at hr ⊢
  obtain ⟨RB, hRB⟩ : ∃ RB, RB = bytesR (⟨2, birth, prev, id, page, frm, before, after, next, rows, dirty⟩ : Rcd) := ⟨_, rfl⟩
  rw [← hRB]
  have HRB := @hideH _ hRB
  clear hRB
  obtain ⟨nb, hnb⟩ : ∃ nb, nb = before.length := ⟨_, rfl⟩
  obtain ⟨na, hna⟩ : ∃ na, na = after.length := ⟨_, rfl⟩
  obtain ⟨nr, hnr⟩ : ∃ nr, nr = rows.length := ⟨_, rfl⟩
  obtain ⟨nd, hnd⟩ : ∃ nd, nd = dirty.length := ⟨_, rfl⟩
  simp only [← hnb, ← hna, ← hnr, ← hnd] at hr ⊢
  have HNB := @hideH _ hnb
  have HNA := @hideH _ hna
  have HNR := @hideH _ hnr
  have HND := @hideH _ hnd
  clear hnb hna hnr hnd
  obtain ⟨w1, hw1⟩ : ∃ w1, w1 = w.alloc (.cells #[.int .i64 2, .int .i64 birth, .int .i64 prev, .int .i64 id, .int .i64 page, .int .i64 frm, .slice pb nb cb, .slice pa na ca, .int .i64 next, .slice pr nr cr, .slice pd nd cd] 26) := ⟨_, rfl⟩
  have k1 : Kept [] w w1 := by rw [hw1]; exact (Kept.refl [] w).alloc _
  have bR : Blk w1 w.heap.size 26 [.int .i64 2, .int .i64 birth, .int .i64 prev, .int .i64 id, .int .i64 page, .int .i64 frm, .slice pb nb cb, .slice pa na ca, .int .i64 next, .slice pr nr cr, .slice pd nd cd] := by rw [hw1]; exact Blk.new w _ _
  have K1 := @hideH _ k1
  have HBR := @hideH _ bR
  have c0 := bR.cell (j := 0) rfl
  have c1 := bR.cell (j := 1) rfl
  have c2 := bR.cell (j := 2) rfl
  have c3 := bR.cell (j := 3) rfl
  have c4 := bR.cell (j := 4) rfl
  have c5 := bR.cell (j := 5) rfl
  have c6 := bR.cell (j := 6) rfl
  have c7 := bR.cell (j := 7) rfl
  have c8 := bR.cell (j := 8) rfl
  have c9 := bR.cell (j := 9) rfl
  have c10 := bR.cell (j := 10) rfl
  clear bR k1
  go_enter Try.func25, Try.ntmps25
  go_upto_region 1 with fail
  rw [← hw1]
  clear hw1
  go_wp2_with fail
  refine (hr _ K1.out).mono ?_
  clear hr
  rintro e w2 ⟨rfl, k2⟩
  have A2 := @hideH _ (Acc.nil k2)
  replace c0 := k2.cell c0 (by simp)
  replace c1 := k2.cell c1 (by simp)
  replace c2 := k2.cell c2 (by simp)
  replace c3 := k2.cell c3 (by simp)
  replace c4 := k2.cell c4 (by simp)
  replace c5 := k2.cell c5 (by simp)
  replace c6 := k2.cell c6 (by simp)
  replace c7 := k2.cell c7 (by simp)
  replace c8 := k2.cell c8 (by simp)
  replace c9 := k2.cell c9 (by simp)
  replace c10 := k2.cell c10 (by simp)
  clear k2
  have L2 := @hideH _ (show ([] : List UInt8).length ≤ 0 from Nat.le_refl _)
  have hq := A2.out.put 2 1 (by omega) (by omega) (by omega) (Nat.le_trans L2.out (by decide))
  go_wp2_with fail
  refine hq.mono ?_
  clear hq
  rintro e w3 ⟨u3, a3, rfl, E3, R3⟩
  obtain ⟨p3, d3, rfl⟩ := own_shape2 R3.1
  have A3 := @hideH _ R3
  have L3 := @hideH _ (show a3.length ≤ 1 by rw [E3.out.2]; exact Nat.add_le_add_right L2.out 1)
  have kz := R3.2
  have n0 := (HBR.out.kept kz (by simp)).cell (j := 0) rfl
  have n1 := (HBR.out.kept kz (by simp)).cell (j := 1) rfl
  have n2 := (HBR.out.kept kz (by simp)).cell (j := 2) rfl
  have n3 := (HBR.out.kept kz (by simp)).cell (j := 3) rfl
  have n4 := (HBR.out.kept kz (by simp)).cell (j := 4) rfl
  have n5 := (HBR.out.kept kz (by simp)).cell (j := 5) rfl
  have n6 := (HBR.out.kept kz (by simp)).cell (j := 6) rfl
  have n7 := (HBR.out.kept kz (by simp)).cell (j := 7) rfl
  have n8 := (HBR.out.kept kz (by simp)).cell (j := 8) rfl
  have n9 := (HBR.out.kept kz (by simp)).cell (j := 9) rfl
  have n10 := (HBR.out.kept kz (by simp)).cell (j := 10) rfl
  clear kz R3 A2 c0 c1 c2 c3 c4 c5 c6 c7 c8 c9 c10
  have c0 := n0
  have c1 := n1
  have c2 := n2
  have c3 := n3
  have c4 := n4
  have c5 := n5
  have c6 := n6
  have c7 := n7
  have c8 := n8
  have c9 := n9
  have c10 := n10
  clear n0 n1 n2 n3 n4 n5 n6 n7 n8 n9 n10
  have hq := A3.out.put birth 8 HB1.out.1.1 HB1.out.1.2 (by omega) (Nat.le_trans L3.out (by decide))
  go_wp2_with fail
  refine hq.mono ?_
  clear hq
  rintro e w4 ⟨u4, a4, rfl, E4, R4⟩
  obtain ⟨p4, d4, rfl⟩ := own_shape2 R4.1
  have A4 := @hideH _ R4
  have L4 := @hideH _ (show a4.length ≤ 9 by rw [E4.out.2]; exact Nat.add_le_add_right L3.out 8)
  have kz := R4.2
  have n0 := (HBR.out.kept kz (by simp)).cell (j := 0) rfl
  have n1 := (HBR.out.kept kz (by simp)).cell (j := 1) rfl
  have n2 := (HBR.out.kept kz (by simp)).cell (j := 2) rfl
  have n3 := (HBR.out.kept kz (by simp)).cell (j := 3) rfl
  have n4 := (HBR.out.kept kz (by simp)).cell (j := 4) rfl
  have n5 := (HBR.out.kept kz (by simp)).cell (j := 5) rfl
  have n6 := (HBR.out.kept kz (by simp)).cell (j := 6) rfl
  have n7 := (HBR.out.kept kz (by simp)).cell (j := 7) rfl
  have n8 := (HBR.out.kept kz (by simp)).cell (j := 8) rfl
  have n9 := (HBR.out.kept kz (by simp)).cell (j := 9) rfl
  have n10 := (HBR.out.kept kz (by simp)).cell (j := 10) rfl
  clear kz R4 A3 c0 c1 c2 c3 c4 c5 c6 c7 c8 c9 c10
  have c0 := n0
  have c1 := n1
  have c2 := n2
  have c3 := n3
  have c4 := n4
  have c5 := n5
  have c6 := n6
  have c7 := n7
  have c8 := n8
  have c9 := n9
  have c10 := n10
  clear n0 n1 n2 n3 n4 n5 n6 n7 n8 n9 n10
  have hq := A4.out.put prev 8 HB1.out.2.1 HB1.out.2.2 (by omega) (Nat.le_trans L4.out (by decide))
  go_wp2_with fail
  refine hq.mono ?_
  clear hq
  rintro e w5 ⟨u5, a5, rfl, E5, R5⟩
  obtain ⟨p5, d5, rfl⟩ := own_shape2 R5.1
  have A5 := @hideH _ R5
  have L5 := @hideH _ (show a5.length ≤ 17 by rw [E5.out.2]; exact Nat.add_le_add_right L4.out 8)
  have kz := R5.2
  have n0 := (HBR.out.kept kz (by simp)).cell (j := 0) rfl
  have n1 := (HBR.out.kept kz (by simp)).cell (j := 1) rfl
  have n2 := (HBR.out.kept kz (by simp)).cell (j := 2) rfl
  have n3 := (HBR.out.kept kz (by simp)).cell (j := 3) rfl
  have n4 := (HBR.out.kept kz (by simp)).cell (j := 4) rfl
  have n5 := (HBR.out.kept kz (by simp)).cell (j := 5) rfl
  have n6 := (HBR.out.kept kz (by simp)).cell (j := 6) rfl
  have n7 := (HBR.out.kept kz (by simp)).cell (j := 7) rfl
  have n8 := (HBR.out.kept kz (by simp)).cell (j := 8) rfl
  have n9 := (HBR.out.kept kz (by simp)).cell (j := 9) rfl
  have n10 := (HBR.out.kept kz (by simp)).cell (j := 10) rfl
  clear kz R5 A4 c0 c1 c2 c3 c4 c5 c6 c7 c8 c9 c10
  have c0 := n0
  have c1 := n1
  have c2 := n2
  have c3 := n3
  have c4 := n4
  have c5 := n5
  have c6 := n6
  have c7 := n7
  have c8 := n8
  have c9 := n9
  have c10 := n10
  clear n0 n1 n2 n3 n4 n5 n6 n7 n8 n9 n10
  have hq := A5.out.put page 1 HB2.out.1.1 HB2.out.1.2 (by omega) (Nat.le_trans L5.out (by decide))
  go_wp2_with fail
  refine hq.mono ?_
  clear hq
  rintro e w6 ⟨u6, a6, rfl, E6, R6⟩
  obtain ⟨p6, d6, rfl⟩ := own_shape2 R6.1
  have A6 := @hideH _ R6
  have L6 := @hideH _ (show a6.length ≤ 18 by rw [E6.out.2]; exact Nat.add_le_add_right L5.out 1)
  have kz := R6.2
  have n0 := (HBR.out.kept kz (by simp)).cell (j := 0) rfl
  have n1 := (HBR.out.kept kz (by simp)).cell (j := 1) rfl
  have n2 := (HBR.out.kept kz (by simp)).cell (j := 2) rfl
  have n3 := (HBR.out.kept kz (by simp)).cell (j := 3) rfl
  have n4 := (HBR.out.kept kz (by simp)).cell (j := 4) rfl
  have n5 := (HBR.out.kept kz (by simp)).cell (j := 5) rfl
  have n6 := (HBR.out.kept kz (by simp)).cell (j := 6) rfl
  have n7 := (HBR.out.kept kz (by simp)).cell (j := 7) rfl
  have n8 := (HBR.out.kept kz (by simp)).cell (j := 8) rfl
  have n9 := (HBR.out.kept kz (by simp)).cell (j := 9) rfl
  have n10 := (HBR.out.kept kz (by simp)).cell (j := 10) rfl
  clear kz R6 A5 c0 c1 c2 c3 c4 c5 c6 c7 c8 c9 c10
  have c0 := n0
  have c1 := n1
  have c2 := n2
  have c3 := n3
  have c4 := n4
  have c5 := n5
  have c6 := n6
  have c7 := n7
  have c8 := n8
  have c9 := n9
  have c10 := n10
  clear n0 n1 n2 n3 n4 n5 n6 n7 n8 n9 n10
  have hq := A6.out.put frm 2 HB2.out.2.1.1 HB2.out.2.1.2 (by omega) (Nat.le_trans L6.out (by decide))
  go_wp2_with fail
  refine hq.mono ?_
  clear hq
  rintro e w7 ⟨u7, a7, rfl, E7, R7⟩
  obtain ⟨p7, d7, rfl⟩ := own_shape2 R7.1
  have A7 := @hideH _ R7
  have L7 := @hideH _ (show a7.length ≤ 20 by rw [E7.out.2]; exact Nat.add_le_add_right L6.out 2)
  have kz := R7.2
  have n0 := (HBR.out.kept kz (by simp)).cell (j := 0) rfl
  have n1 := (HBR.out.kept kz (by simp)).cell (j := 1) rfl
  have n2 := (HBR.out.kept kz (by simp)).cell (j := 2) rfl
  have n3 := (HBR.out.kept kz (by simp)).cell (j := 3) rfl
  have n4 := (HBR.out.kept kz (by simp)).cell (j := 4) rfl
  have n5 := (HBR.out.kept kz (by simp)).cell (j := 5) rfl
  have n6 := (HBR.out.kept kz (by simp)).cell (j := 6) rfl
  have n7 := (HBR.out.kept kz (by simp)).cell (j := 7) rfl
  have n8 := (HBR.out.kept kz (by simp)).cell (j := 8) rfl
  have n9 := (HBR.out.kept kz (by simp)).cell (j := 9) rfl
  have n10 := (HBR.out.kept kz (by simp)).cell (j := 10) rfl
  clear kz R7 A6 c0 c1 c2 c3 c4 c5 c6 c7 c8 c9 c10
  have c0 := n0
  have c1 := n1
  have c2 := n2
  have c3 := n3
  have c4 := n4
  have c5 := n5
  have c6 := n6
  have c7 := n7
  have c8 := n8
  have c9 := n9
  have c10 := n10
  clear n0 n1 n2 n3 n4 n5 n6 n7 n8 n9 n10
  have hq := A7.out.put (na : Int) 2 (by omega) (by have := HB2.out; have ly := HNA.out; omega) (by omega) (Nat.le_trans L7.out (by decide))
  go_wp2_with fail
  refine hq.mono ?_
  clear hq
  rintro e w8 ⟨u8, a8, rfl, E8, R8⟩
  obtain ⟨p8, d8, rfl⟩ := own_shape2 R8.1
  have A8 := @hideH _ R8
  have L8 := @hideH _ (show a8.length ≤ 22 by rw [E8.out.2]; exact Nat.add_le_add_right L7.out 2)
  have kz := R8.2
  have n0 := (HBR.out.kept kz (by simp)).cell (j := 0) rfl
  have n1 := (HBR.out.kept kz (by simp)).cell (j := 1) rfl
  have n2 := (HBR.out.kept kz (by simp)).cell (j := 2) rfl
  have n3 := (HBR.out.kept kz (by simp)).cell (j := 3) rfl
  have n4 := (HBR.out.kept kz (by simp)).cell (j := 4) rfl
  have n5 := (HBR.out.kept kz (by simp)).cell (j := 5) rfl
  have n6 := (HBR.out.kept kz (by simp)).cell (j := 6) rfl
  have n7 := (HBR.out.kept kz (by simp)).cell (j := 7) rfl
  have n8 := (HBR.out.kept kz (by simp)).cell (j := 8) rfl
  have n9 := (HBR.out.kept kz (by simp)).cell (j := 9) rfl
  have n10 := (HBR.out.kept kz (by simp)).cell (j := 10) rfl
  clear kz R8 A7 c0 c1 c2 c3 c4 c5 c6 c7 c8 c9 c10
  have c0 := n0
  have c1 := n1
  have c2 := n2
  have c3 := n3
  have c4 := n4
  have c5 := n5
  have c6 := n6
  have c7 := n7
  have c8 := n8
  have c9 := n9
  have c10 := n10
  clear n0 n1 n2 n3 n4 n5 n6 n7 n8 n9 n10
  have hsrc := HSE.out.before.kept (K1.out.then A8.out.2)
  dsimp only at hsrc
  rw [← HNB.out] at hsrc
  go_upto_region 16 with (at_builtin; refine wpList_append_bs rfl (.tmp 46) (.tmp 48) 22 rfl w1.heap.size 5 Try.underlying22 (by kernel_rfl) _ _ _ (by rfl) A8.out.1 _ before (by rfl) hsrc (Nat.le_trans (Nat.add_le_add L8.out HBL.out.1) (by decide)) A8.out.2.size ?_; intro v9 w9 o9 g9 at9; have kk9 : Kept [] w1 w9 := A8.out.2.grown g9 (fun x hx => .inr (own_ge A8.out.1 x hx)); obtain ⟨a9, ha9⟩ : ∃ a, a = a8 ++ before := ⟨_, rfl⟩; have R9 : Acc w1 w9 v9 a9 := ⟨(by rw [ha9, List.length_append, show u8s (a8 ++ before) = u8s a8 ++ u8s before from (by simp [u8s])]; exact o9), kk9⟩; have E9 : Hid (a9 = a8 ++ before ∧ a9.length = a8.length + before.length) := ⟨ha9, (by rw [ha9, List.length_append])⟩; obtain ⟨p9, d9, rfl⟩ := own_shape2 R9.1; clear o9 g9 at9 ha9)
  clear hsrc
  have A9 := @hideH _ R9
  have L9 := @hideH _ (show a9.length ≤ 150 by rw [E9.out.2]; exact Nat.add_le_add L8.out HBL.out.1)
  have kz := R9.2
  have n0 := (HBR.out.kept kz (by simp)).cell (j := 0) rfl
  have n1 := (HBR.out.kept kz (by simp)).cell (j := 1) rfl
  have n2 := (HBR.out.kept kz (by simp)).cell (j := 2) rfl
  have n3 := (HBR.out.kept kz (by simp)).cell (j := 3) rfl
  have n4 := (HBR.out.kept kz (by simp)).cell (j := 4) rfl
  have n5 := (HBR.out.kept kz (by simp)).cell (j := 5) rfl
  have n6 := (HBR.out.kept kz (by simp)).cell (j := 6) rfl
  have n7 := (HBR.out.kept kz (by simp)).cell (j := 7) rfl
  have n8 := (HBR.out.kept kz (by simp)).cell (j := 8) rfl
  have n9 := (HBR.out.kept kz (by simp)).cell (j := 9) rfl
  have n10 := (HBR.out.kept kz (by simp)).cell (j := 10) rfl
  clear kz R9 kk9 A8 c0 c1 c2 c3 c4 c5 c6 c7 c8 c9 c10
  have c0 := n0
  have c1 := n1
  have c2 := n2
  have c3 := n3
  have c4 := n4
  have c5 := n5
  have c6 := n6
  have c7 := n7
  have c8 := n8
  have c9 := n9
  have c10 := n10
  clear n0 n1 n2 n3 n4 n5 n6 n7 n8 n9 n10
  have hsrc := HSE.out.after.kept (K1.out.then A9.out.2)
  dsimp only at hsrc
  rw [← HNA.out] at hsrc
  go_upto_region 17 with (at_builtin; refine wpList_append_bs rfl (.tmp 50) (.tmp 52) 22 rfl w1.heap.size 5 Try.underlying22 (by kernel_rfl) _ _ _ (by rfl) A9.out.1 _ after (by rfl) hsrc (Nat.le_trans (Nat.add_le_add L9.out HBL.out.2) (by decide)) A9.out.2.size ?_; intro v10 w10 o10 g10 at10; have kk10 : Kept [] w1 w10 := A9.out.2.grown g10 (fun x hx => .inr (own_ge A9.out.1 x hx)); obtain ⟨a10, ha10⟩ : ∃ a, a = a9 ++ after := ⟨_, rfl⟩; have R10 : Acc w1 w10 v10 a10 := ⟨(by rw [ha10, List.length_append, show u8s (a9 ++ after) = u8s a9 ++ u8s after from (by simp [u8s])]; exact o10), kk10⟩; have E10 : Hid (a10 = a9 ++ after ∧ a10.length = a9.length + after.length) := ⟨ha10, (by rw [ha10, List.length_append])⟩; obtain ⟨p10, d10, rfl⟩ := own_shape2 R10.1; clear o10 g10 at10 ha10)
  clear hsrc
  have A10 := @hideH _ R10
  have L10 := @hideH _ (show a10.length ≤ 278 by rw [E10.out.2]; exact Nat.add_le_add L9.out HBL.out.2)
  have kz := R10.2
  have n0 := (HBR.out.kept kz (by simp)).cell (j := 0) rfl
  have n1 := (HBR.out.kept kz (by simp)).cell (j := 1) rfl
  have n2 := (HBR.out.kept kz (by simp)).cell (j := 2) rfl
  have n3 := (HBR.out.kept kz (by simp)).cell (j := 3) rfl
  have n4 := (HBR.out.kept kz (by simp)).cell (j := 4) rfl
  have n5 := (HBR.out.kept kz (by simp)).cell (j := 5) rfl
  have n6 := (HBR.out.kept kz (by simp)).cell (j := 6) rfl
  have n7 := (HBR.out.kept kz (by simp)).cell (j := 7) rfl
  have n8 := (HBR.out.kept kz (by simp)).cell (j := 8) rfl
  have n9 := (HBR.out.kept kz (by simp)).cell (j := 9) rfl
  have n10 := (HBR.out.kept kz (by simp)).cell (j := 10) rfl
  clear kz R10 kk10 A9 c0 c1 c2 c3 c4 c5 c6 c7 c8 c9 c10
  have c0 := n0
  have c1 := n1
  have c2 := n2
  have c3 := n3
  have c4 := n4
  have c5 := n5
  have c6 := n6
  have c7 := n7
  have c8 := n8
  have c9 := n9
  have c10 := n10
  clear n0 n1 n2 n3 n4 n5 n6 n7 n8 n9 n10
  have FIN := @hideH _ (show a10 = RB ∧ Acc w w10 (.slice p10 a10.length d10) a10 from ⟨by rw [HRB.out, E10.out.1, E9.out.1, E8.out.1, E7.out.1, E6.out.1, E5.out.1, E4.out.1, E3.out.1]; simp [bytesR, tailB, HNA.out], own_baseK A10.out.1 K1.out.size, K1.out.then A10.out.2⟩)
  skip
  go_wp2
  go_ret2
  exact ⟨_, _, rfl, FIN.out⟩
end Go.Proofs.Ytebcmcmboomgfaa

