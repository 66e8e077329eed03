import Derived.Test.YtebcmcmboomgfaaRows
import Derived.Deep.QuietTactic
import Derived.BigQuiet
import Derived.Test.YtebcmcmboomgfaaC9
/-
  OWN WORK (by mklw1.py). RecordReads.
-/
namespace Go.Proofs.Ytebcmcmboomgfaa
open Go.RowKit
set_option linter.unusedVariables false
set_option linter.unusedSimpArgs false

def zeroR : Rcd := ⟨0, 0, 0, 0, 0, 0, [], [], 0, [], []⟩
/-- both answers of Parse in one form -/
theorem qParse1 (v : Value) (l : List UInt8) (w : World) (hv : Bs w v l) (hl : l.length ≤ 140737488355328) : Calls Try.prog 12 #[v] w fun e w' => ∃ (V : RV) (r : Rcd) (E : Int), e = .returned (.tuple #[r.agg V, .int .i64 E]) ∧ OwnR w.heap.size w' V r ∧ Kept [] w w' ∧ Hid ((parseR l = some r ∧ E = 0) ∨ (parseR l = none ∧ r = zeroR ∧ E = 90)) := by
  refine (qParse v l w hv hl).mono ?_
  rintro e w' (⟨x, V, hp, rfl, ow, k⟩ | ⟨hp, rfl, k⟩)
  · exact ⟨V, x, 0, rfl, ow, k, .inl ⟨hp, rfl⟩⟩
  · exact ⟨nilV, zeroR, 90, rfl, OwnR.bare _ _ _ _ _ _ _ _ _, k, .inr ⟨hp, rfl, rfl⟩⟩
theorem parse_same {l : List UInt8} {r s : Rcd} {E F : Int} (h1 : (parseR l = some r ∧ E = 0) ∨ (parseR l = none ∧ r = zeroR ∧ E = 90)) (h2 : (parseR l = some s ∧ F = 0) ∨ (parseR l = none ∧ s = zeroR ∧ F = 90)) : r = s ∧ E = F := by
  rcases h1 with ⟨a, rfl⟩ | ⟨a, rfl, rfl⟩ <;> rcases h2 with ⟨b, rfl⟩ | ⟨b, rfl, rfl⟩
  · rw [a] at b; cases b; exact ⟨rfl, rfl⟩
  · rw [a] at b; cases b
  · rw [a] at b; cases b
  · exact ⟨rfl, rfl⟩
set_option maxRecDepth 20000 in
set_option maxHeartbeats 6400000 in
theorem recordReads_walk (v : Value) (l : List UInt8) (w : World) (hv : Bs w v l) (hcap : l.length + 120 ≤ 140737488355328) : Calls Try.prog 7 #[v] w fun e w' => e = .returned (.bool true) ∧ Kept [] w w' := by
  have hLent := lent_any v l w hv hcap
  have HV := @hideH _ hv
  have HC := @hideH _ hcap
  obtain ⟨pv, cv, rfl, -⟩ := id hv
  clear hcap hv
  go_enter Try.func7, Try.ntmps7
  go_wp2_with fail
  refine hLent.mono ?_
  clear hLent
  rintro e w1 ⟨vl, rfl, o1, k1⟩
  obtain ⟨p1, c1, rfl⟩ := own_shape2 o1
  have b1 := Bs.ofOwn o1
  have hlen : (l ++ lent9).length = l.length + 120 := by rw [List.length_append, lent9_length]
  obtain ⟨p2, hcut, -, b2, -⟩ := b1.cuts (P := Try.prog) 22 5 Try.underlying22 sz8 l.length (by omega)
  rw [List.take_left' rfl] at b2
  have hP := qParse1 _ l w1 b2 (by have := HC.out; omega)
  have HB1 := @hideH _ b1
  clear o1 b1 b2
  go_wp2_with fail
  refine hP.mono ?_
  clear hP hcut
  rintro e w2 ⟨Va, xa, Ea, rfl, owa, k2, ha⟩
  have sa := owa.see
  obtain ⟨pba, cba, paa, caa, pra, cra, pda, cda, hVa⟩ := sa.shapes
  subst hVa
  obtain ⟨kinda, birtha, preva, ida, pagea, frma, beforea, aftera, nexta, rowsa, dirtya⟩ := xa
  unfold Rcd.agg
  dsimp only
  obtain ⟨w3, hw3⟩ : ∃ wx, wx = w2.alloc (.cells #[.int .i64 kinda, .int .i64 birtha, .int .i64 preva, .int .i64 ida, .int .i64 pagea, .int .i64 frma, .slice pba beforea.length cba, .slice paa aftera.length caa, .int .i64 nexta, .slice pra rowsa.length cra, .slice pda dirtya.length cda] 26) := ⟨_, rfl⟩
  have k3 : Kept [] w2 w3 := by rw [hw3]; exact (Kept.refl [] w2).alloc _
  have Ba : Blk w3 w2.heap.size 26 [.int .i64 kinda, .int .i64 birtha, .int .i64 preva, .int .i64 ida, .int .i64 pagea, .int .i64 frma, .slice pba beforea.length cba, .slice paa aftera.length caa, .int .i64 nexta, .slice pra rowsa.length cra, .slice pda dirtya.length cda] := by rw [hw3]; exact Blk.new w2 _ _
  go_upto_region 3 with fail
  rw [← hw3]
  clear hw3
  have hQ := rParse _ l w3 (HV.out.kept ((k1.then k2).then k3))
  go_wp2_with fail
  refine hQ.mono ?_
  clear hQ
  rintro e w4 ⟨Vb, xb, Eb, rfl, sb, k4, hb⟩
  obtain ⟨hx, rfl⟩ := parse_same ha.out hb.out
  subst hx
  clear ha hb
  obtain ⟨pbb, cbb, pab, cab, prb, crb, pdb, cdb, hVb⟩ := sb.shapes
  subst hVb
  unfold Rcd.agg
  dsimp only
  obtain ⟨w5, hw5⟩ : ∃ wx, wx = w4.alloc (.cells #[.int .i64 kinda, .int .i64 birtha, .int .i64 preva, .int .i64 ida, .int .i64 pagea, .int .i64 frma, .slice pbb beforea.length cbb, .slice pab aftera.length cab, .int .i64 nexta, .slice prb rowsa.length crb, .slice pdb dirtya.length cdb] 26) := ⟨_, rfl⟩
  have k5 : Kept [] w4 w5 := by rw [hw5]; exact (Kept.refl [] w4).alloc _
  have Bb : Blk w5 w4.heap.size 26 [.int .i64 kinda, .int .i64 birtha, .int .i64 preva, .int .i64 ida, .int .i64 pagea, .int .i64 frma, .slice pbb beforea.length cbb, .slice pab aftera.length cab, .int .i64 nexta, .slice prb rowsa.length crb, .slice pdb dirtya.length cdb] := by rw [hw5]; exact Blk.new w4 _ _
  go_upto_region 4 with fail
  rw [← hw5]
  clear hw5
  go_wp2_with fail
  refine (alive_any _).mono ?_
  rintro e w6 ⟨rfl, k6⟩
  have hSm := rSame _ _ _ _ w6 (((sa.kept k3).kept k4).kept (k5.then k6)) (sb.kept (k5.then k6))
  rw [bl_t rfl] at hSm
  unfold Rcd.agg at hSm
  dsimp only at hSm
  have Ba6 := (Ba.kept k4 (by simp)).kept (k5.then k6) (by simp)
  have Bb6 := Bb.kept k6 (by simp)
  have ca0 := Ba6.cell (j := 0) rfl
  have ca1 := Ba6.cell (j := 1) rfl
  have ca2 := Ba6.cell (j := 2) rfl
  have ca3 := Ba6.cell (j := 3) rfl
  have ca4 := Ba6.cell (j := 4) rfl
  have ca5 := Ba6.cell (j := 5) rfl
  have ca6 := Ba6.cell (j := 6) rfl
  have ca7 := Ba6.cell (j := 7) rfl
  have ca8 := Ba6.cell (j := 8) rfl
  have ca9 := Ba6.cell (j := 9) rfl
  have ca10 := Ba6.cell (j := 10) rfl
  have cb0 := Bb6.cell (j := 0) rfl
  have cb1 := Bb6.cell (j := 1) rfl
  have cb2 := Bb6.cell (j := 2) rfl
  have cb3 := Bb6.cell (j := 3) rfl
  have cb4 := Bb6.cell (j := 4) rfl
  have cb5 := Bb6.cell (j := 5) rfl
  have cb6 := Bb6.cell (j := 6) rfl
  have cb7 := Bb6.cell (j := 7) rfl
  have cb8 := Bb6.cell (j := 8) rfl
  have cb9 := Bb6.cell (j := 9) rfl
  have cb10 := Bb6.cell (j := 10) rfl
  have K6 := @hideH _ ((((((k1.then k2).then k3).then k4).then k5).then k6))
  have K16 := @hideH _ (((((k2.then k3).then k4).then k5).then k6))
  clear k1 k2 k3 k4 k5 k6 sa sb owa Ba Bb Ba6 Bb6
  go_wp2_with fail
  refine hSm.mono ?_
  clear hSm
  rintro e w7 ⟨rfl, k7⟩
  clear ca0 cb0 ca1 cb1 ca2 cb2 ca3 cb3 ca4 cb4 ca5 cb5 ca6 cb6 ca7 cb7 ca8 cb8 ca9 cb9 ca10 cb10
  go_wp2_with fail
  refine (rNum _ _).mono ?_
  rintro e w8 ⟨rfl, rfl⟩
  have hW := whole_any _ _ (l ++ lent9) l _ (HB1.out.kept (K16.out.then k7)) (HV.out.kept (K6.out.then k7)) HC.out
  rw [bl_t rfl] at hW
  skip
  go_wp2_with fail
  refine hW.mono ?_
  clear hW
  rintro e w9 ⟨rfl, k9⟩
  have KE := @hideH _ ((K6.out.then k7).then k9)
  clear k7 k9
  go_wp2
  go_ret
  exact ⟨by simp, KE.out⟩
end Go.Proofs.Ytebcmcmboomgfaa

/-
  OWN WORK. Small things that several laws of record want: a row of one's own at a place, the rest of a division, a byte turned.
-/
namespace Go.Proofs.Ytebcmcmboomgfaa
open Go.RowKit
theorem own_at9 {w : World} {base e n : Nat} {v : Value} {xs : List Value} (h : w.ownsRow base e 1 v n xs) (hn : 0 < n) : ∃ g c, v = .slice (some ⟨g, 0, none⟩) n c ∧ base ≤ g ∧ ∀ (j : Nat) u, xs[j]? = some u → w.cell? ⟨g, j, none⟩ = some u ∧ w.frozen? ⟨g, j, none⟩ = false := by
  rcases h.2 with ⟨-, e0⟩ | ⟨g, cap, cur, rfl, h1, h2, h3, h4, -, h5⟩
  · omega
  · refine ⟨g, cap, rfl, h1, fun j u hj => ?_⟩
    rw [← h5, List.getElem?_take] at hj
    split at hj
    · refine ⟨?_, by simp [World.frozen?, h2]⟩
      simp [World.cell?, h2]
      simpa using hj
    · cases hj
theorem wrap_u8d {x : Nat} (h : x < 2 ^ 8) : IntKind.u8.wrap (x : Int) = (x : Int) := by
  simp only [IntKind.wrap, IntKind.bits, IntKind.signed]
  have : 2 ^ 8 = 256 := by decide
  simp
  omega
theorem xorB (y x : UInt8) : bits .xor .u8 (y.toNat : Int) (x.toNat : Int) = ((y ^^^ x).toNat : Int) := by
  have h1 : ∀ z : UInt8, (BitVec.ofInt 8 (z.toNat : Int)).toNat = z.toNat := fun z => by
    rw [BitVec.ofInt_natCast, BitVec.toNat_ofNat]; exact Nat.mod_eq_of_lt z.toNat_lt
  show IntKind.u8.wrap ((BitVec.ofInt 8 (y.toNat : Int) ^^^ BitVec.ofInt 8 (x.toNat : Int)).toNat : Int) = _
  rw [BitVec.toNat_xor, h1, h1, UInt8.toNat_xor]
  have hx : y.toNat ^^^ x.toNat < 2 ^ 8 := Nat.xor_lt_two_pow y.toNat_lt x.toNat_lt
  exact wrap_u8d hx
/-- where the rest of a division points -/
theorem rest_at (n : Int) (m : Nat) (hm : 0 < m) (hm2 : m ≤ 1000000) : ∃ N : Nat, N < m ∧ IntKind.i64.wrap (n.tmod (m : Int)) = n.tmod (m : Int) ∧ ((n.tmod (m : Int) < 0 ∧ IntKind.i64.wrap (n.tmod (m : Int) + (m : Int)) = (N : Int)) ∨ (¬ n.tmod (m : Int) < 0 ∧ n.tmod (m : Int) = (N : Int))) := by
  have hp : (0 : Int) < (m : Int) := by omega
  have b1 := Int.tmod_lt_of_pos n hp
  have b2 := Int.lt_tmod_of_pos n hp
  generalize n.tmod (m : Int) = z at b1 b2 ⊢
  by_cases c : z < 0
  · exact ⟨(z + m).toNat, by omega, wrap_i64_of (by omega) (by omega), .inl ⟨c, by rw [wrap_i64_of (by omega) (by omega)]; omega⟩⟩
  · exact ⟨z.toNat, by omega, wrap_i64_of (by omega) (by omega), .inr ⟨c, by omega⟩⟩
end Go.Proofs.Ytebcmcmboomgfaa

/-
  OWN WORK (by mklw6.py). The document: Copied.
-/
namespace Go.Proofs.Ytebcmcmboomgfaa
open Go.RowKit
set_option linter.unusedVariables false
set_option linter.unusedSimpArgs false

def CopyCap (r : Rcd) : Prop := r.before.length ≤ 140737488355328 ∧ r.after.length ≤ 140737488355328 ∧ r.rows.length * 40 ≤ 140737488355328 ∧ r.dirty.length * 16 ≤ 140737488355328
set_option maxRecDepth 20000 in
set_option maxHeartbeats 6400000 in
theorem copied_any (Va : RV) (xa : Rcd) (w : World) (sa : SeeR w Va xa) (hcap : CopyCap xa) : Calls Try.prog 21 #[xa.agg Va] w fun e w' => ∃ V, e = .returned (xa.agg V) ∧ OwnR w.heap.size w' V xa ∧ Kept [] w w' := by
  obtain ⟨pba, cba, paa, caa, pra, cra, pda, cda, hVa⟩ := sa.shapes
  subst hVa
  have HSA := @hideH _ sa
  have HCAP := @hideH _ hcap
  clear sa hcap
  unfold Rcd.agg
  dsimp only
  obtain ⟨inf, hin1, hin2, hin3, hin4⟩ := info_parts3 (show (Try.prog.info? 66).map (fun i => (i.zero, i.size, i.bytes)) = some (some (.agg #[.int .i64 0, .int .i64 0, .int .i64 0, .int .i64 0, .int .i64 0]), 5, 40) by kernel_rfl)
  have HI := @hideH _ (And.intro hin1 (And.intro hin2 (And.intro hin3 hin4)))
  obtain ⟨inf2, hjn1, hjn2, hjn3, hjn4⟩ := info_parts3 (show (Try.prog.info? 68).map (fun i => (i.zero, i.size, i.bytes)) = some (some (.agg #[.int .i64 0, .int .i64 0]), 2, 16) by kernel_rfl)
  have HI2 := @hideH _ (And.intro hjn1 (And.intro hjn2 (And.intro hjn3 hjn4)))
  clear hin1 hin2 hin3 hin4 hjn1 hjn2 hjn3 hjn4
  obtain ⟨wa, hwa⟩ : ∃ wa, wa = ((w.alloc (.cells #[.int .i64 xa.kind, .int .i64 xa.birth, .int .i64 xa.prev, .int .i64 xa.id, .int .i64 xa.page, .int .i64 xa.frm, .slice pba xa.before.length cba, .slice paa xa.after.length caa, .int .i64 xa.next, .slice pra xa.rows.length cra, .slice pda xa.dirty.length cda] 26)).alloc (.cells #[.int .i64 0, .int .i64 0, .int .i64 0, .int .i64 0, .int .i64 0, .int .i64 0, .slice none 0 0, .slice none 0 0, .int .i64 0, .slice none 0 0, .slice none 0 0] 26)).alloc (.cells #[.int .i64 xa.kind, .int .i64 xa.birth, .int .i64 xa.prev, .int .i64 xa.id, .int .i64 xa.page, .int .i64 xa.frm, .slice none 0 0, .slice none 0 0, .int .i64 xa.next, .slice none 0 0, .slice none 0 0] 26) := ⟨_, rfl⟩
  have KA : Kept [] w wa := by rw [hwa]; exact (((Kept.refl [] w).alloc _).alloc _).alloc _
  have Ba : Blk wa w.heap.size 26 [.int .i64 xa.kind, .int .i64 xa.birth, .int .i64 xa.prev, .int .i64 xa.id, .int .i64 xa.page, .int .i64 xa.frm, .slice pba xa.before.length cba, .slice paa xa.after.length caa, .int .i64 xa.next, .slice pra xa.rows.length cra, .slice pda xa.dirty.length cda] := by rw [hwa]; exact (Blk.new w _ _).kept (((Kept.refl [] _).alloc _).alloc _) (by simp)
  have BO : Blk wa (w.heap.size + 1) 26 [.int .i64 0, .int .i64 0, .int .i64 0, .int .i64 0, .int .i64 0, .int .i64 0, .slice none 0 0, .slice none 0 0, .int .i64 0, .slice none 0 0, .slice none 0 0] := by rw [hwa]; have q := Blk.new (w.alloc (.cells #[.int .i64 xa.kind, .int .i64 xa.birth, .int .i64 xa.prev, .int .i64 xa.id, .int .i64 xa.page, .int .i64 xa.frm, .slice pba xa.before.length cba, .slice paa xa.after.length caa, .int .i64 xa.next, .slice pra xa.rows.length cra, .slice pda xa.dirty.length cda] 26)) 26 [.int .i64 0, .int .i64 0, .int .i64 0, .int .i64 0, .int .i64 0, .int .i64 0, .slice none 0 0, .slice none 0 0, .int .i64 0, .slice none 0 0, .slice none 0 0]; rw [World.size_alloc] at q; exact q.kept ((Kept.refl [] _).alloc _) (by simp)
  have BC : Blk wa (w.heap.size + 2) 26 [.int .i64 xa.kind, .int .i64 xa.birth, .int .i64 xa.prev, .int .i64 xa.id, .int .i64 xa.page, .int .i64 xa.frm, .slice none 0 0, .slice none 0 0, .int .i64 xa.next, .slice none 0 0, .slice none 0 0] := by rw [hwa]; have q := Blk.new ((w.alloc (.cells #[.int .i64 xa.kind, .int .i64 xa.birth, .int .i64 xa.prev, .int .i64 xa.id, .int .i64 xa.page, .int .i64 xa.frm, .slice pba xa.before.length cba, .slice paa xa.after.length caa, .int .i64 xa.next, .slice pra xa.rows.length cra, .slice pda xa.dirty.length cda] 26)).alloc (.cells #[.int .i64 0, .int .i64 0, .int .i64 0, .int .i64 0, .int .i64 0, .int .i64 0, .slice none 0 0, .slice none 0 0, .int .i64 0, .slice none 0 0, .slice none 0 0] 26)) 26 [.int .i64 xa.kind, .int .i64 xa.birth, .int .i64 xa.prev, .int .i64 xa.id, .int .i64 xa.page, .int .i64 xa.frm, .slice none 0 0, .slice none 0 0, .int .i64 xa.next, .slice none 0 0, .slice none 0 0]; rw [World.size_alloc, World.size_alloc] at q; exact q
  have sC : w.heap.size + 2 < wa.heap.size := BC.lt
  go_enter Try.func21, Try.ntmps21
  go_upto_region 6 with fail
  rw [← hwa]
  clear hwa
  have K0 : Kept [] wa wa := Kept.refl _ _
  have cb := Ba.cell (j := 6) rfl
  have cc : wa.cell? ⟨w.heap.size + 2, 6, none⟩ = some (.slice none 0 0) := BC.cell (j := 6) rfl
  have hs := HSA.out.before.kept KA
  go_upto_region 7 with (at_builtin; refine wpList_append_bs rfl (.tmp 10) (.tmp 12) 22 rfl wa.heap.size 5 Try.underlying22 (by kernel_rfl) _ _ _ (by rfl) (own_nil wa wa.heap.size) _ xa.before (by rfl) hs (by have := HCAP.out; unfold CopyCap at this; omega) (Nat.le_refl _) ?_; intro v1 y1 o1 g1 at1; have ky1 : Kept [] wa y1 := (Kept.refl [] wa).grown g1 (fun y hy => by cases hy); rw [Nat.zero_add, show u8s [] ++ u8s xa.before = u8s xa.before from rfl] at o1; obtain ⟨p1, q1, hv1⟩ := own_shape2 o1; subst hv1; have bc1 := BC.kept ky1 (by simp); have cw := bc1.cell (j := 6) rfl; have fw := bc1.free 6; obtain ⟨x1, hx1⟩ : ∃ wx, wx = y1.setCell ⟨w.heap.size + 2, 6, none⟩ (.slice p1 xa.before.length q1) := ⟨_, rfl⟩)
  rw [← hx1]
  obtain ⟨bs1, ks1⟩ := bc1.set 6 (.slice p1 xa.before.length q1)
  rw [← hx1] at bs1 ks1
  dsimp only [List.set] at bs1
  have lt1 := fun y hy => own_lt o1 y hy
  have sy1 := ky1.size
  have sx1 := ks1.size
  have nC1 : ∀ y, wa.heap.size ≤ y → y ∉ [w.heap.size + 2] := fun y hy hm => by simp at hm; have e1 := Nat.le_refl wa.heap.size; omega
  have f1 := own_of_kept o1 ks1 (fun y hy => nC1 y (own_ge o1 y hy))
  have Ba1 := (Ba.kept ky1 (by simp)).kept ks1 (by simp)
  have BO1 := (BO.kept ky1 (by simp)).kept ks1 (by simp)
  have KK1 := (KA.then ky1).trans ks1 (fun y hy => .inr (by simp at hy; omega))
  have szz1 : wa.heap.size ≤ x1.heap.size := by have e1 := Nat.le_refl wa.heap.size; omega
  have ge1 := fun y hy => own_ge o1 y hy
  clear hx1 cw fw cb cc hs bc1 ky1 ks1 g1 at1 o1
  have cb := Ba1.cell (j := 7) rfl
  have cc : x1.cell? ⟨w.heap.size + 2, 7, none⟩ = some (.slice none 0 0) := bs1.cell (j := 7) rfl
  have hs := HSA.out.after.kept KK1
  go_upto_region 8 with (at_builtin; refine wpList_append_bs rfl (.tmp 16) (.tmp 18) 22 rfl x1.heap.size 5 Try.underlying22 (by kernel_rfl) _ _ _ (by rfl) (own_nil x1 x1.heap.size) _ xa.after (by rfl) hs (by have := HCAP.out; unfold CopyCap at this; omega) (Nat.le_refl _) ?_; intro v2 y2 o2 g2 at2; have ky2 : Kept [] x1 y2 := (Kept.refl [] x1).grown g2 (fun y hy => by cases hy); rw [Nat.zero_add, show u8s [] ++ u8s xa.after = u8s xa.after from rfl] at o2; obtain ⟨p2, q2, hv2⟩ := own_shape2 o2; subst hv2; have bc2 := bs1.kept ky2 (by simp); have cw := bc2.cell (j := 7) rfl; have fw := bc2.free 7; obtain ⟨x2, hx2⟩ : ∃ wx, wx = y2.setCell ⟨w.heap.size + 2, 7, none⟩ (.slice p2 xa.after.length q2) := ⟨_, rfl⟩)
  rw [← hx2]
  obtain ⟨bs2, ks2⟩ := bc2.set 7 (.slice p2 xa.after.length q2)
  rw [← hx2] at bs2 ks2
  dsimp only [List.set] at bs2
  have lt2 := fun y hy => own_lt o2 y hy
  have sy2 := ky2.size
  have sx2 := ks2.size
  have nC2 : ∀ y, x1.heap.size ≤ y → y ∉ [w.heap.size + 2] := fun y hy hm => by simp at hm; have e1 := szz1; omega
  have f2 := own_of_kept o2 ks2 (fun y hy => nC2 y (own_ge o2 y hy))
  have Ba2 := (Ba1.kept ky2 (by simp)).kept ks2 (by simp)
  have BO2 := (BO1.kept ky2 (by simp)).kept ks2 (by simp)
  have KK2 := (KK1.then ky2).trans ks2 (fun y hy => .inr (by simp at hy; omega))
  have szz2 : wa.heap.size ≤ x2.heap.size := by have e1 := szz1; omega
  replace f1 := own_of_kept (own_of_kept f1 ky2 (by simp)) ks2 (fun y hy => nC1 y (own_ge f1 y hy))
  have ge2 := fun y hy => own_ge o2 y hy
  clear hx2 cw fw cb cc hs bc2 ky2 ks2 g2 at2 o2
  have cb := Ba2.cell (j := 9) rfl
  have cc : x2.cell? ⟨w.heap.size + 2, 9, none⟩ = some (.slice none 0 0) := bs2.cell (j := 9) rfl
  have hs := Src.ofCs (P := Try.prog) Try.underlying23 (HSA.out.rows.kept KK2)
  go_upto_region 9 with (at_builtin; refine wpList_append_row rfl (.tmp 22) (.tmp 24) 23 rfl x2.heap.size 66 inf (.agg #[.int .i64 0, .int .i64 0, .int .i64 0, .int .i64 0, .int .i64 0]) 5 40 Try.underlying23 HI.out.1 HI.out.2.1 HI.out.2.2.1 HI.out.2.2.2 rfl _ 0 [] (by rfl) (Row.nil x2 x2.heap.size 5) _ xa.rows.length (rcells xa.rows) (by rfl) hs (by have := HCAP.out; unfold CopyCap at this; omega) (by have := HCAP.out; unfold CopyCap at this; unfold maxLen; omega) (by have := HCAP.out; unfold CopyCap at this; omega) (Nat.le_refl _) ?_; intro v3 y3 o3 g3 at3; have ky3 : Kept [] x2 y3 := g3; rw [Nat.zero_add, List.nil_append] at o3; obtain ⟨p3, q3, hv3, -⟩ := o3.shape; subst hv3; have bc3 := bs2.kept ky3 (by simp); have cw := bc3.cell (j := 9) rfl; have fw := bc3.free 9; obtain ⟨x3, hx3⟩ : ∃ wx, wx = y3.setCell ⟨w.heap.size + 2, 9, none⟩ (.slice p3 xa.rows.length q3) := ⟨_, rfl⟩)
  rw [← hx3]
  obtain ⟨bs3, ks3⟩ := bc3.set 9 (.slice p3 xa.rows.length q3)
  rw [← hx3] at bs3 ks3
  dsimp only [List.set] at bs3
  have lt3 := fun y hy => (o3.lt y hy).2
  have sy3 := ky3.size
  have sx3 := ks3.size
  have nC3 : ∀ y, x2.heap.size ≤ y → y ∉ [w.heap.size + 2] := fun y hy hm => by simp at hm; have e1 := szz2; omega
  have f3 := o3.kept ks3 (fun y hy => nC3 y (o3.lt y hy).1)
  have Ba3 := (Ba2.kept ky3 (by simp)).kept ks3 (by simp)
  have BO3 := (BO2.kept ky3 (by simp)).kept ks3 (by simp)
  have KK3 := (KK2.then ky3).trans ks3 (fun y hy => .inr (by simp at hy; omega))
  have szz3 : wa.heap.size ≤ x3.heap.size := by have e1 := szz2; omega
  replace f1 := own_of_kept (own_of_kept f1 ky3 (by simp)) ks3 (fun y hy => nC1 y (own_ge f1 y hy))
  replace f2 := own_of_kept (own_of_kept f2 ky3 (by simp)) ks3 (fun y hy => nC2 y (own_ge f2 y hy))
  have ge3 := fun y hy => (o3.lt y hy).1
  clear hx3 cw fw cb cc hs bc3 ky3 ks3 g3 at3 o3
  have cb := Ba3.cell (j := 10) rfl
  have cc : x3.cell? ⟨w.heap.size + 2, 10, none⟩ = some (.slice none 0 0) := bs3.cell (j := 10) rfl
  have hs := Src.ofCs (P := Try.prog) Try.underlying24 (HSA.out.dirty.kept KK3)
  go_upto_region 10 with (at_builtin; refine wpList_append_row rfl (.tmp 28) (.tmp 30) 24 rfl x3.heap.size 68 inf2 (.agg #[.int .i64 0, .int .i64 0]) 2 16 Try.underlying24 HI2.out.1 HI2.out.2.1 HI2.out.2.2.1 HI2.out.2.2.2 rfl _ 0 [] (by rfl) (Row.nil x3 x3.heap.size 2) _ xa.dirty.length (dcells xa.dirty) (by rfl) hs (by have := HCAP.out; unfold CopyCap at this; omega) (by have := HCAP.out; unfold CopyCap at this; unfold maxLen; omega) (by have := HCAP.out; unfold CopyCap at this; omega) (Nat.le_refl _) ?_; intro v4 y4 o4 g4 at4; have ky4 : Kept [] x3 y4 := g4; rw [Nat.zero_add, List.nil_append] at o4; obtain ⟨p4, q4, hv4, -⟩ := o4.shape; subst hv4; have bc4 := bs3.kept ky4 (by simp); have cw := bc4.cell (j := 10) rfl; have fw := bc4.free 10; obtain ⟨x4, hx4⟩ : ∃ wx, wx = y4.setCell ⟨w.heap.size + 2, 10, none⟩ (.slice p4 xa.dirty.length q4) := ⟨_, rfl⟩)
  rw [← hx4]
  obtain ⟨bs4, ks4⟩ := bc4.set 10 (.slice p4 xa.dirty.length q4)
  rw [← hx4] at bs4 ks4
  dsimp only [List.set] at bs4
  have lt4 := fun y hy => (o4.lt y hy).2
  have sy4 := ky4.size
  have sx4 := ks4.size
  have nC4 : ∀ y, x3.heap.size ≤ y → y ∉ [w.heap.size + 2] := fun y hy hm => by simp at hm; have e1 := szz3; omega
  have f4 := o4.kept ks4 (fun y hy => nC4 y (o4.lt y hy).1)
  have Ba4 := (Ba3.kept ky4 (by simp)).kept ks4 (by simp)
  have BO4 := (BO3.kept ky4 (by simp)).kept ks4 (by simp)
  have KK4 := (KK3.then ky4).trans ks4 (fun y hy => .inr (by simp at hy; omega))
  have szz4 : wa.heap.size ≤ x4.heap.size := by have e1 := szz3; omega
  replace f1 := own_of_kept (own_of_kept f1 ky4 (by simp)) ks4 (fun y hy => nC1 y (own_ge f1 y hy))
  replace f2 := own_of_kept (own_of_kept f2 ky4 (by simp)) ks4 (fun y hy => nC2 y (own_ge f2 y hy))
  replace f3 := (f3.kept ky4 (by simp)).kept ks4 (fun y hy => nC3 y (f3.lt y hy).1)
  have ge4 := fun y hy => (o4.lt y hy).1
  clear hx4 cw fw cb cc hs bc4 ky4 ks4 g4 at4 o4
  have z0 := bs4.cell (j := 0) rfl
  have z1 := bs4.cell (j := 1) rfl
  have z2 := bs4.cell (j := 2) rfl
  have z3 := bs4.cell (j := 3) rfl
  have z4 := bs4.cell (j := 4) rfl
  have z5 := bs4.cell (j := 5) rfl
  have z6 := bs4.cell (j := 6) rfl
  have z7 := bs4.cell (j := 7) rfl
  have z8 := bs4.cell (j := 8) rfl
  have z9 := bs4.cell (j := 9) rfl
  have z10 := bs4.cell (j := 10) rfl
  have a0 := BO4.cell (j := 0) rfl
  have a1 := BO4.cell (j := 1) rfl
  have a2 := BO4.cell (j := 2) rfl
  have a3 := BO4.cell (j := 3) rfl
  have a4 := BO4.cell (j := 4) rfl
  have a5 := BO4.cell (j := 5) rfl
  have a6 := BO4.cell (j := 6) rfl
  have a7 := BO4.cell (j := 7) rfl
  have a8 := BO4.cell (j := 8) rfl
  have a9 := BO4.cell (j := 9) rfl
  have a10 := BO4.cell (j := 10) rfl
  have t0 := BO4.free 0
  have t1 := BO4.free 1
  have t2 := BO4.free 2
  have t3 := BO4.free 3
  have t4 := BO4.free 4
  have t5 := BO4.free 5
  have t6 := BO4.free 6
  have t7 := BO4.free 7
  have t8 := BO4.free 8
  have t9 := BO4.free 9
  have t10 := BO4.free 10
  obtain ⟨bO, kO⟩ := BO4.fill11 (.int .i64 xa.kind) (.int .i64 xa.birth) (.int .i64 xa.prev) (.int .i64 xa.id) (.int .i64 xa.page) (.int .i64 xa.frm) (.slice p1 xa.before.length q1) (.slice p2 xa.after.length q2) (.int .i64 xa.next) (.slice p3 xa.rows.length q3) (.slice p4 xa.dirty.length q4)
  obtain ⟨xF, hxF⟩ : ∃ wx, wx = (((((((((((x4.setCell ⟨w.heap.size + 1, 0, none⟩ (.int .i64 xa.kind)).setCell ⟨w.heap.size + 1, 1, none⟩ (.int .i64 xa.birth)).setCell ⟨w.heap.size + 1, 2, none⟩ (.int .i64 xa.prev)).setCell ⟨w.heap.size + 1, 3, none⟩ (.int .i64 xa.id)).setCell ⟨w.heap.size + 1, 4, none⟩ (.int .i64 xa.page)).setCell ⟨w.heap.size + 1, 5, none⟩ (.int .i64 xa.frm)).setCell ⟨w.heap.size + 1, 6, none⟩ (.slice p1 xa.before.length q1)).setCell ⟨w.heap.size + 1, 7, none⟩ (.slice p2 xa.after.length q2)).setCell ⟨w.heap.size + 1, 8, none⟩ (.int .i64 xa.next)).setCell ⟨w.heap.size + 1, 9, none⟩ (.slice p3 xa.rows.length q3)).setCell ⟨w.heap.size + 1, 10, none⟩ (.slice p4 xa.dirty.length q4)) := ⟨_, rfl⟩
  rw [← hxF] at bO kO
  have nA : ∀ y, wa.heap.size ≤ y → y ∉ [w.heap.size + 1] := fun y hy hm => by simp at hm; omega
  have FIN := @hideH _ (And.intro (show OwnR w.heap.size xF ⟨.slice p1 xa.before.length q1, .slice p2 xa.after.length q2, .slice p3 xa.rows.length q3, .slice p4 xa.dirty.length q4⟩ xa from ⟨own_mono (own_of_kept f1 kO (fun y hy => nA y (ge1 y hy))) KA.size, own_mono (own_of_kept f2 kO (fun y hy => nA y (Nat.le_trans szz1 (ge2 y hy)))) (Nat.le_trans KA.size szz1), (f3.kept kO (fun y hy => nA y (Nat.le_trans szz2 (ge3 y hy)))).mono (Nat.le_trans KA.size szz2), (f4.kept kO (fun y hy => nA y (Nat.le_trans szz3 (ge4 y hy)))).mono (Nat.le_trans KA.size szz3), fun y h1 h2 => by have e1 := lt1 y h1; have e2 := ge2 y h2; omega, fun y h1 h2 => by have e1 := lt1 y h1; have e2 := ge3 y h2; omega, fun y h1 h2 => by have e1 := lt1 y h1; have e2 := ge4 y h2; omega, fun y h1 h2 => by have e1 := lt2 y h1; have e2 := ge3 y h2; omega, fun y h1 h2 => by have e1 := lt2 y h1; have e2 := ge4 y h2; omega, fun y h1 h2 => by have e1 := lt3 y h1; have e2 := ge4 y h2; omega⟩) (show Kept [] w xF from KK4.trans kO (fun y hy => .inr (by simp at hy; omega))))
  clear f1 f2 f3 f4 lt1 lt2 lt3 lt4 ge1 ge2 ge3 ge4 kO nA bs4 BO4 Ba1 KK1 nC1 Ba2 KK2 nC2 Ba3 KK3 nC3 Ba4 KK4 nC4
  go_wp2
  rw [← hxF]
  clear hxF z0 a0 t0 z1 a1 t1 z2 a2 t2 z3 a3 t3 z4 a4 t4 z5 a5 t5 z6 a6 t6 z7 a7 t7 z8 a8 t8 z9 a9 t9 z10 a10 t10
  have q0' := bO.cell (j := 0) rfl
  have q1' := bO.cell (j := 1) rfl
  have q2' := bO.cell (j := 2) rfl
  have q3' := bO.cell (j := 3) rfl
  have q4' := bO.cell (j := 4) rfl
  have q5' := bO.cell (j := 5) rfl
  have q6' := bO.cell (j := 6) rfl
  have q7' := bO.cell (j := 7) rfl
  have q8' := bO.cell (j := 8) rfl
  have q9' := bO.cell (j := 9) rfl
  have q10' := bO.cell (j := 10) rfl
  clear bO
  refine bodyPost_ret (by simp [results, Try.results21, go_sem, q0', q1', q2', q3', q4', q5', q6', q7', q8', q9', q10']; try rfl) rfl ?_
  exact ⟨_, rfl, FIN.out⟩
end Go.Proofs.Ytebcmcmboomgfaa

/-
  OWN WORK. 'append' of elements of several cells, as in Rows3, that says besides: on a new block the old one stays as it was.
-/
namespace Go.Proofs.Ytebcmcmboomgfaa
open Go.RowKit
/-- 'append(l, x...)' -/
theorem run_append_row2 {P : Program} (w : World) (base : Nat) (t ty e : TypeId) (i : TypeInfo) (z : Value) (sz bytes : Nat) (ht : P.underlying t = some (.slice e)) (hi : P.info? e = some i) (hz : i.zero = some z) (hsize : i.size = sz) (hby : i.bytes = bytes) (hzs : z.cells.size = sz)
    (v : Value) (n : Nat) (cs : List Value) (h : Row w base sz v n cs) (x : Value) (m : Nat) (news : List Value) (hs : Src P sz t x m news w) (h63 : n + m ≤ 9223372036854775807) (hmx : n + m ≤ maxLen) (hbytes : (n + m) * bytes ≤ 140737488355328) (hbase : base ≤ w.heap.size) :
    ∃ v' w', (Builtin.append_ #[t, t] ty #[v, x]).run P w = .ok v' w' ∧ Row w' base sz v' (n + m) (cs ++ news) ∧ Kept v.ownBlock.toList w w' ∧ (v'.ownBlock = v.ownBlock ∨ (v'.ownBlock = some w.heap.size ∧ Kept [] w w')) := by
  subst hsize
  subst hby
  have hnl := hs.newsLen
  have hall : ∀ u ∈ cs ++ news, u.oneCell' = true := by
    intro u hu
    rcases List.mem_append.1 hu with hu | hu
    · exact h.2.1 u hu
    · exact hs.one u hu
  have hlen : (cs ++ news).length = (n + m) * i.size := by rw [List.length_append, h.1, hnl, Nat.add_mul]
  obtain ⟨p, c, rfl, h3, h4⟩ := h.shape
  by_cases hfit : n + m ≤ c
  · cases p with
    | none =>
      obtain ⟨h1, h2, p', c', e', -, -, h5⟩ := id h
      cases e'
      rcases h5 with ⟨-, rfl⟩ | ⟨g, e, -⟩
      · obtain rfl : n = 0 := by omega
        obtain rfl : m = 0 := by omega
        obtain rfl : news = [] := List.eq_nil_of_length_eq_zero (by simpa using hnl)
        exact ⟨_, _, run_append_nothing (P := P) w t t ty e i ht hi none 0 0 (Nat.le_refl _) x hs, by simpa using h, Kept.refl _ _, .inl rfl⟩
      · cases e
    | some a =>
      obtain ⟨h1, h2, p', c', e', -, -, h5⟩ := id h
      cases e'
      rcases h5 with ⟨e, -⟩ | ⟨g, e, h6, h7, h8, h9⟩
      · cases e
      · cases e
        have hm : n * i.size + m * i.size ≤ c * i.size := by rw [← Nat.add_mul]; exact Nat.mul_le_mul_right _ hfit
        have hthere : ∀ j, j < news.length → (w.cell? ⟨g, 0 + n * i.size + j, none⟩).isSome = true := fun j hj => (h9 _ (by omega)).1
        have hrun := run_append_room_src (P := P) w t t ty e i ht hi g 0 n c x m news hs hfit hthere (fun j hj => (h9 _ (by omega)).2)
        have hk := kept_setCells g news (0 + n * i.size) w
        refine ⟨_, _, hrun, ⟨hlen, hall, _, _, rfl, hfit, h4, .inr ⟨g, rfl, h6, Nat.lt_of_lt_of_le h7 hk.size, fun j u hj => ?_, fun j hj => ⟨?_, by rw [World.frozen?_setCells]; exact (h9 j hj).2⟩⟩⟩, by simpa [Value.ownBlock] using hk, .inl rfl⟩
        · by_cases hjc : j < cs.length
          · rw [List.getElem?_append_left hjc] at hj
            rw [World.cell?_setCells_out g news _ w _ (fun _ _ => .inl (by simp; omega))]
            exact h8 j u hj
          · rw [List.getElem?_append_right (by omega)] at hj
            obtain ⟨hlt, rfl⟩ := List.getElem?_eq_some_iff.1 hj
            have := World.cell?_setCells_in g news (0 + n * i.size) w hthere (j - cs.length) hlt
            rw [show 0 + n * i.size + (j - cs.length) = j by omega] at this
            exact this
        · by_cases hjin : 0 + n * i.size ≤ j ∧ j < 0 + n * i.size + news.length
          · have := World.cell?_setCells_in g news (0 + n * i.size) w hthere (j - (0 + n * i.size)) (by omega)
            rw [show 0 + n * i.size + (j - (0 + n * i.size)) = j by omega] at this
            rw [this]; rfl
          · rw [World.cell?_setCells_out g news _ w _ (fun _ _ => by simp; omega)]
            exact (h9 j hj).1
  · have hold : (Builtin.firstCells i.size n (.slice p n c)).run P w.drew = .ok cs.toArray w.drew := by
      obtain ⟨h1, h2, p', c', e', -, -, h5⟩ := id h
      cases e'
      rcases h5 with ⟨rfl, rfl⟩ | ⟨g, rfl, h6, h7, h8, h9⟩
      · obtain rfl : n = 0 := by omega
        obtain rfl : cs = [] := List.eq_nil_of_length_eq_zero (by simpa using h1)
        exact run_firstCells_none w.drew i.size 0 0 0
      · exact run_firstCells_some w.drew i.size n ⟨g, 0, none⟩ n c cs h1 (fun j u hj => by rw [add_none rfl]; simpa using h8 j u hj)
    have hg : c < n + m := by omega
    have hrun := run_append_grow_src (P := P) w t t ty e i z ht hi hz p n c cs hold x m news hs hg (by omega) (growslice_fits hg hbytes)
    have hge := grownCap_ge w (n + m) c e
    have hcm := grownCap_le_maxLen w (n + m) c e hmx
    have hsz : ((cs ++ news).toArray ++ Builtin.zeroCells z.cells (grownCap w (n + m) c e - (n + m))).size = grownCap w (n + m) c e * i.size := by
      rw [Array.size_append, List.size_toArray, hlen, size_zeroCells, hzs, ← Nat.add_mul]
      congr 1
      omega
    have hk : Kept [] w (w.drew.alloc (.cells ((cs ++ news).toArray ++ Builtin.zeroCells z.cells (grownCap w (n + m) c e - (n + m))) e)) := ((Kept.refl [] w).drew).alloc _
    refine ⟨_, _, hrun, ⟨hlen, hall, _, _, rfl, hge, hcm, .inr ⟨w.heap.size, rfl, hbase, by simp, fun j u hj => ?_, fun j hj => ⟨?_, World.frozen?_alloc_new w.drew _ _ j⟩⟩⟩, hk.mono (by simp), .inr ⟨rfl, hk⟩⟩
    · have e1 : (w.drew.alloc (.cells ((cs ++ news).toArray ++ Builtin.zeroCells z.cells (grownCap w (n + m) c e - (n + m))) e)).cell? ⟨w.heap.size, j, none⟩ = _ := World.cell?_alloc_new w.drew _ _ j
      have hjl := (List.getElem?_eq_some_iff.1 hj).1
      rw [e1, Array.getElem?_append_left (by simpa using hjl), List.getElem?_toArray, hj]
    · have e1 : (w.drew.alloc (.cells ((cs ++ news).toArray ++ Builtin.zeroCells z.cells (grownCap w (n + m) c e - (n + m))) e)).cell? ⟨w.heap.size, j, none⟩ = _ := World.cell?_alloc_new w.drew _ _ j
      rw [e1, Array.getElem?_eq_getElem (by rw [hsz]; exact hj)]
      rfl
theorem wpList_append_row2 {P : Program} {w : World} {ops : Array Oper} {rest : List Oper} {o : Oper} {a : Act} {Q : Exit → Act → World → Prop} (hgd : o.guard = none) (s x : Operand) (t : TypeId)
    (ho : o.op = .call { callee := .builtin .append, args := #[s, x], argTypes := #[t, t] }) (base : Nat) (e : TypeId) (i : TypeInfo) (z : Value) (sz bytes : Nat) (ht : P.underlying t = some (.slice e)) (hi : P.info? e = some i) (hz : i.zero = some z) (hsize : i.size = sz) (hby : i.bytes = bytes) (hzs : z.cells.size = sz)
    (v : Value) (n : Nat) (cs : List Value) (hv : a.eval s = v) (h : Row w base sz v n cs) (xv : Value) (m : Nat) (news : List Value) (hx : a.eval x = xv) (hs : Src P sz t xv m news w) (h63 : n + m ≤ 9223372036854775807) (hmx : n + m ≤ maxLen) (hbytes : (n + m) * bytes ≤ 140737488355328) (hbase : base ≤ w.heap.size)
    (hgo : ∀ v' w', Row w' base sz v' (n + m) (cs ++ news) → Kept v.ownBlock.toList w w' → (v'.ownBlock = v.ownBlock ∨ (v'.ownBlock = some w.heap.size ∧ Kept [] w w')) → wpList P ops Q rest (a.put o.dst v') w') : wpList P ops Q (o :: rest) a w := by
  refine wpList_plain hgd fun K hK => ?_
  obtain ⟨v', w', hr, k1, k2, k3⟩ := run_append_row2 (P := P) w base t o.type e i z sz bytes ht hi hz hsize hby hzs v n cs h xv m news hs h63 hmx hbytes hbase
  unfold Oper.wp execOp
  simp only [ho, resolve, invoke, builtin, Sem.run_bind, Sem.run_pure, Result.andThen_ok, List.map_toArray, List.map_cons, List.map_nil, hv, hx, hr]
  exact hK _ _ (hgo v' w' k1 k2 k3)
theorem step_append_row2 {P : Program} {w : World} {ops : Array Oper} {o : Oper} {a : Act} {K : Act → World → Prop} {Q : Exit → Act → World → Prop} {E : Prop} (hgd : o.guard = none) (s x : Operand) (t : TypeId)
    (ho : o.op = .call { callee := .builtin .append, args := #[s, x], argTypes := #[t, t] }) (base : Nat) (e : TypeId) (i : TypeInfo) (z : Value) (sz bytes : Nat) (ht : P.underlying t = some (.slice e)) (hi : P.info? e = some i) (hz : i.zero = some z) (hsize : i.size = sz) (hby : i.bytes = bytes) (hzs : z.cells.size = sz)
    (v : Value) (n : Nat) (cs : List Value) (hv : a.eval s = v) (h : Row w base sz v n cs) (xv : Value) (m : Nat) (news : List Value) (hx : a.eval x = xv) (hs : Src P sz t xv m news w) (h63 : n + m ≤ 9223372036854775807) (hmx : n + m ≤ maxLen) (hbytes : (n + m) * bytes ≤ 140737488355328) (hbase : base ≤ w.heap.size)
    (hgo : ∀ v' w', Row w' base sz v' (n + m) (cs ++ news) → Kept v.ownBlock.toList w w' → (v'.ownBlock = v.ownBlock ∨ (v'.ownBlock = some w.heap.size ∧ Kept [] w w')) → K (a.put o.dst v') w') :
    if Region.wanted o (yielded ops a.tmps) = true then Oper.wp P o a w K Q else E := by
  have hw : Region.wanted o (yielded ops a.tmps) = true := by simp [Region.wanted, hgd]
  rw [if_pos hw]
  obtain ⟨v', w', hr, k1, k2, k3⟩ := run_append_row2 (P := P) w base t o.type e i z sz bytes ht hi hz hsize hby hzs v n cs h xv m news hs h63 hmx hbytes hbase
  unfold Oper.wp execOp
  simp only [ho, resolve, invoke, builtin, Sem.run_bind, Sem.run_pure, Result.andThen_ok, List.map_toArray, List.map_cons, List.map_nil, hv, hx, hr]
  exact hgo v' w' k1 k2 k3
end Go.Proofs.Ytebcmcmboomgfaa

/-
  OWN WORK. The law's 'tables': lists of elements of several cells whose first cell bears a mark, and that grow.
-/
namespace Go.Proofs.Ytebcmcmboomgfaa
open Go.RowKit
set_option linter.unusedVariables false
/-- a row of one's own: the first k elements bear the mark z -/
def Mrk (w : World) (base sz : Nat) (o : Value) (n k : Nat) (z : Int) : Prop := ∃ cs, Row w base sz o n cs ∧ ∀ i, i < k → cs[i * sz]? = some (.int .i64 z)
theorem Mrk.start {w : World} {base sz n : Nat} {o : Value} {cs : List Value} (h : Row w base sz o n cs) (z : Int) : Mrk w base sz o n 0 z := ⟨cs, h, fun i hi => absurd hi (Nat.not_lt_zero i)⟩
theorem Mrk.kept {w w' : World} {base sz n k : Nat} {o : Value} {z : Int} {S : List Nat} (h : Mrk w base sz o n k z) (kk : Kept S w w') (hS : ∀ x, o.ownBlock = some x → x ∉ S) : Mrk w' base sz o n k z := by
  obtain ⟨cs, h1, h2⟩ := h
  exact ⟨cs, h1.kept kk hS, h2⟩
theorem Mrk.lo {w : World} {base sz n k : Nat} {o : Value} {z : Int} (h : Mrk w base sz o n k z) {y : Nat} (hy : o.ownBlock = some y) : base ≤ y ∧ y < w.heap.size := by
  obtain ⟨cs, ⟨h1, h2, p, c, rfl, h3, h4, h5⟩, -⟩ := h
  rcases h5 with ⟨rfl, -⟩ | ⟨g, rfl, h6, h7, -⟩
  · cases hy
  · cases hy
    exact ⟨h6, h7⟩
/-- where it lies, and that it may be written -/
theorem Mrk.place {w : World} {base sz n k : Nat} {o : Value} {z : Int} (h : Mrk w base sz o n k z) (hn : 0 < n) : ∃ g c, o = .slice (some ⟨g, 0, none⟩) n c ∧ (∀ j, j < n * sz → ∃ u, w.cell? ⟨g, j, none⟩ = some u) ∧ (∀ j, j < n * sz → w.frozen? ⟨g, j, none⟩ = false) ∧ ∀ i, i < k → w.cell? ⟨g, i * sz, none⟩ = some (.int .i64 z) := by
  obtain ⟨cs, ⟨h1, h2, p, c, rfl, h3, h4, h5⟩, hm⟩ := h
  rcases h5 with ⟨rfl, rfl⟩ | ⟨g, rfl, h6, h7, h8, h9⟩
  · omega
  · have hc : n * sz ≤ c * sz := Nat.mul_le_mul_right _ h3
    exact ⟨g, c, rfl, fun j hj => Option.isSome_iff_exists.1 (h9 j (by omega)).1, fun j hj => (h9 j (by omega)).2, fun i hi => h8 _ _ (hm i hi)⟩
theorem Mrk.set5 {w : World} {base g n c k : Nat} {z : Int} (h : Mrk w base 5 (.slice (some ⟨g, 0, none⟩) n c) n k z) (hk : k < n) :
    Mrk (((((w.setCell ⟨g, k * 5, none⟩ (.int .i64 z)).setCell ⟨g, k * 5 + 1, none⟩ (.int .i64 0)).setCell ⟨g, k * 5 + 2, none⟩ (.int .i64 0)).setCell ⟨g, k * 5 + 3, none⟩ (.int .i64 0)).setCell ⟨g, k * 5 + 4, none⟩ (.int .i64 0)) base 5 (.slice (some ⟨g, 0, none⟩) n c) n (k + 1) z ∧
    Kept [g] w (((((w.setCell ⟨g, k * 5, none⟩ (.int .i64 z)).setCell ⟨g, k * 5 + 1, none⟩ (.int .i64 0)).setCell ⟨g, k * 5 + 2, none⟩ (.int .i64 0)).setCell ⟨g, k * 5 + 3, none⟩ (.int .i64 0)).setCell ⟨g, k * 5 + 4, none⟩ (.int .i64 0)) := by
  obtain ⟨cs, hr, hm⟩ := h
  have hl := hr.1
  obtain ⟨r0, k0⟩ := hr.set (k * 5) (by omega) (.int .i64 z) rfl
  obtain ⟨r1, k1⟩ := r0.set (k * 5 + 1) (by omega) (.int .i64 0) rfl
  obtain ⟨r2, k2⟩ := r1.set (k * 5 + 2) (by omega) (.int .i64 0) rfl
  obtain ⟨r3, k3⟩ := r2.set (k * 5 + 3) (by omega) (.int .i64 0) rfl
  obtain ⟨r4, k4⟩ := r3.set (k * 5 + 4) (by omega) (.int .i64 0) rfl
  have tr : ∀ {a b d : World}, Kept [g] a b → Kept [g] b d → Kept [g] a d := fun p q => p.trans q (fun x hx => .inl hx)
  refine ⟨⟨_, r4, fun i hi => ?_⟩, tr (tr (tr (tr k0 k1) k2) k3) k4⟩
  rw [List.getElem?_set_ne (by omega), List.getElem?_set_ne (by omega), List.getElem?_set_ne (by omega), List.getElem?_set_ne (by omega)]
  by_cases e : i = k
  · rw [e, List.getElem?_set_self (by omega)]
  · rw [List.getElem?_set_ne (by omega)]
    exact hm i (by omega)
theorem Mrk.set2 {w : World} {base g n c k : Nat} {z : Int} (h : Mrk w base 2 (.slice (some ⟨g, 0, none⟩) n c) n k z) (hk : k < n) :
    Mrk ((w.setCell ⟨g, k * 2, none⟩ (.int .i64 z)).setCell ⟨g, k * 2 + 1, none⟩ (.int .i64 0)) base 2 (.slice (some ⟨g, 0, none⟩) n c) n (k + 1) z ∧
    Kept [g] w ((w.setCell ⟨g, k * 2, none⟩ (.int .i64 z)).setCell ⟨g, k * 2 + 1, none⟩ (.int .i64 0)) := by
  obtain ⟨cs, hr, hm⟩ := h
  have hl := hr.1
  obtain ⟨r0, k0⟩ := hr.set (k * 2) (by omega) (.int .i64 z) rfl
  obtain ⟨r1, k1⟩ := r0.set (k * 2 + 1) (by omega) (.int .i64 0) rfl
  refine ⟨⟨_, r1, fun i hi => ?_⟩, k0.trans k1 (fun x hx => .inl hx)⟩
  rw [List.getElem?_set_ne (by omega)]
  by_cases e : i = k
  · rw [e, List.getElem?_set_self (by omega)]
  · rw [List.getElem?_set_ne (by omega)]
    exact hm i (by omega)
/-- a slice of n elements, all of which bear the mark (read only) -/
def Om (w : World) (sz : Nat) (o : Value) (n : Nat) (z : Int) : Prop := ∃ p c, o = .slice p n c ∧ (0 < n → ∃ g, p = some ⟨g, 0, none⟩ ∧ ∀ i, i < n → w.cell? ⟨g, i * sz, none⟩ = some (.int .i64 z))
/-- o, whose elements all bear the mark, and v, that grew out of it; what is new lies from nb on -/
structure Grw (nb : Nat) (w : World) (base sz : Nat) (o v : Value) (n m : Nat) (z : Int) : Prop where
  row : Mrk w base sz v m m z
  orig : Om w sz o n z
  le : n ≤ m
  lo : ∀ y, o.ownBlock = some y → base ≤ y ∧ y < w.heap.size
  nw : ∀ y, v.ownBlock = some y → o.ownBlock = some y ∨ nb ≤ y
theorem Grw.start {nb : Nat} {w : World} {base sz n : Nat} {o : Value} {z : Int} (h : Mrk w base sz o n n z) : Grw nb w base sz o o n n z := by
  refine ⟨h, ?_, Nat.le_refl _, fun y hy => h.lo hy, fun y hy => .inl hy⟩
  obtain ⟨cs, hr, hm⟩ := id h
  obtain ⟨p, c, rfl, -, -⟩ := hr.shape
  refine ⟨p, c, rfl, fun hn => ?_⟩
  obtain ⟨g, c', e, -, -, hc⟩ := h.place hn
  cases e
  exact ⟨g, rfl, hc⟩
theorem Grw.kept {nb : Nat} {w w' : World} {base sz n m : Nat} {o v : Value} {z : Int} {S : List Nat} (h : Grw nb w base sz o v n m z) (k : Kept S w w') (hS : ∀ y, (o.ownBlock = some y ∨ v.ownBlock = some y) → y ∉ S) : Grw nb w' base sz o v n m z := by
  refine ⟨h.row.kept k (fun y hy => hS y (.inr hy)), ?_, h.le, fun y hy => ⟨(h.lo y hy).1, Nat.lt_of_lt_of_le (h.lo y hy).2 k.size⟩, h.nw⟩
  obtain ⟨p, c, rfl, hc⟩ := h.orig
  refine ⟨p, c, rfl, fun hn => ?_⟩
  obtain ⟨g, rfl, hg⟩ := hc hn
  exact ⟨g, rfl, fun i hi => k.cell (hg i hi) (hS g (.inl rfl))⟩
/-- it grows by one -/
theorem Grw.app {nb : Nat} {w w1 w' : World} {base sz n m : Nat} {o v v' : Value} {z : Int} {cs news : List Value} (h : Grw nb w base sz o v n m z) (hr : Row w base sz v m cs) (hm : ∀ i, i < m → cs[i * sz]? = some (.int .i64 z)) (hnew : news[0]? = some (.int .i64 z)) (kl : Kept [] w w1) (hnb : nb ≤ w1.heap.size)
    (r : Row w' base sz v' (m + 1) (cs ++ news)) (k : Kept v.ownBlock.toList w1 w') (hat : v'.ownBlock = v.ownBlock ∨ (v'.ownBlock = some w1.heap.size ∧ Kept [] w1 w')) : Grw nb w' base sz o v' n (m + 1) z := by
  have hl := hr.1
  have hM : Mrk w' base sz v' (m + 1) (m + 1) z := by
    refine ⟨_, r, fun i hi => ?_⟩
    by_cases e : i = m
    · rw [e, List.getElem?_append_right (by omega), hl, Nat.sub_self]
      exact hnew
    · have := hm i (by omega)
      rw [List.getElem?_append_left (List.getElem?_eq_some_iff.1 this).1]
      exact this
  refine ⟨hM, ?_, Nat.le_succ_of_le h.le, fun y hy => ⟨(h.lo y hy).1, Nat.lt_of_lt_of_le (h.lo y hy).2 (Nat.le_trans kl.size k.size)⟩, fun y hy => ?_⟩
  · obtain ⟨p, c, rfl, hc⟩ := h.orig
    refine ⟨p, c, rfl, fun hn => ?_⟩
    obtain ⟨g, rfl, hg⟩ := hc hn
    refine ⟨g, rfl, fun i hi => ?_⟩
    have h1 := kl.cell (hg i hi) (by simp)
    rcases hat with e | ⟨-, kk⟩
    · by_cases hv : v.ownBlock = some g
      · obtain ⟨g', c', e', -, -, hc'⟩ := hM.place (by omega)
        rw [hv, e'] at e
        cases e
        exact hc' i (by have := h.le; omega)
      · exact k.cell h1 (by simpa using hv)
    · exact kk.cell h1 (by simp)
  · rcases hat with e | ⟨e, -⟩
    · exact h.nw y (by rw [← e]; exact hy)
    · rw [e] at hy
      cases hy
      exact .inr hnb
end Go.Proofs.Ytebcmcmboomgfaa

/-
  OWN WORK (by mklwc.py). The law's 'tables': four lists at once.
-/
namespace Go.Proofs.Ytebcmcmboomgfaa
open Go.RowKit
set_option linter.unusedVariables false
set_option linter.unusedSimpArgs false

/-- the first phase: each list bears its marks up to a place -/
structure Tb (w0 w : World) (base : Nat) (oa ob oc od : Value) (n d ka kb kc kd : Nat) : Prop where
  a : Mrk w base 5 oa n ka (-1)
  b : Mrk w base 5 ob n kb (-2)
  c : Mrk w base 2 oc d kc (-1)
  d : Mrk w base 2 od d kd (-2)
  ab : Apartv oa ob
  ac : Apartv oa oc
  ad : Apartv oa od
  bc : Apartv ob oc
  bd : Apartv ob od
  cd : Apartv oc od
  kept : Kept (oa.ownBlock.toList ++ (ob.ownBlock.toList ++ (oc.ownBlock.toList ++ od.ownBlock.toList))) w0 w
theorem Apartv.symm {u v : Value} (h : Apartv u v) : Apartv v u := fun x hx e => h x e hx
theorem Tb.then {w0 w : World} {base : Nat} {oa ob oc od : Value} {n d ka kb kc kd : Nat} {w' : World} (h : Tb w0 w base oa ob oc od n d ka kb kc kd) (k : Kept [] w w') : Tb w0 w' base oa ob oc od n d ka kb kc kd := ⟨h.a.kept k (by simp), h.b.kept k (by simp), h.c.kept k (by simp), h.d.kept k (by simp), h.ab, h.ac, h.ad, h.bc, h.bd, h.cd, h.kept.then k⟩
theorem Tb.setA {w0 w : World} {base g c : Nat} {ob oc od : Value} {n d ka kb kc kd : Nat} (h : Tb w0 w base (.slice (some ⟨g, 0, none⟩) n c) ob oc od n d ka kb kc kd) (hk : ka < n) : Tb w0 (((((w.setCell ⟨g, ka * 5, none⟩ (.int .i64 (-1))).setCell ⟨g, ka * 5 + 1, none⟩ (.int .i64 0)).setCell ⟨g, ka * 5 + 2, none⟩ (.int .i64 0)).setCell ⟨g, ka * 5 + 3, none⟩ (.int .i64 0)).setCell ⟨g, ka * 5 + 4, none⟩ (.int .i64 0)) base (.slice (some ⟨g, 0, none⟩) n c) ob oc od n d (ka + 1) kb kc kd := by
  obtain ⟨m, k⟩ := h.a.set5 hk
  exact ⟨m, h.b.kept k (fun y hy hm => by simp at hm; subst hm; exact h.ab _ rfl hy), h.c.kept k (fun y hy hm => by simp at hm; subst hm; exact h.ac _ rfl hy), h.d.kept k (fun y hy hm => by simp at hm; subst hm; exact h.ad _ rfl hy), h.ab, h.ac, h.ad, h.bc, h.bd, h.cd, h.kept.trans k (fun y hy => .inl (by simp at hy; subst hy; simp [Value.ownBlock]))⟩
theorem Tb.setB {w0 w : World} {base g c : Nat} {oa oc od : Value} {n d ka kb kc kd : Nat} (h : Tb w0 w base oa (.slice (some ⟨g, 0, none⟩) n c) oc od n d ka kb kc kd) (hk : kb < n) : Tb w0 (((((w.setCell ⟨g, kb * 5, none⟩ (.int .i64 (-2))).setCell ⟨g, kb * 5 + 1, none⟩ (.int .i64 0)).setCell ⟨g, kb * 5 + 2, none⟩ (.int .i64 0)).setCell ⟨g, kb * 5 + 3, none⟩ (.int .i64 0)).setCell ⟨g, kb * 5 + 4, none⟩ (.int .i64 0)) base oa (.slice (some ⟨g, 0, none⟩) n c) oc od n d ka (kb + 1) kc kd := by
  obtain ⟨m, k⟩ := h.b.set5 hk
  exact ⟨h.a.kept k (fun y hy hm => by simp at hm; subst hm; exact h.ab.symm _ rfl hy), m, h.c.kept k (fun y hy hm => by simp at hm; subst hm; exact h.bc _ rfl hy), h.d.kept k (fun y hy hm => by simp at hm; subst hm; exact h.bd _ rfl hy), h.ab, h.ac, h.ad, h.bc, h.bd, h.cd, h.kept.trans k (fun y hy => .inl (by simp at hy; subst hy; simp [Value.ownBlock]))⟩
theorem Tb.setC {w0 w : World} {base g c : Nat} {oa ob od : Value} {n d ka kb kc kd : Nat} (h : Tb w0 w base oa ob (.slice (some ⟨g, 0, none⟩) d c) od n d ka kb kc kd) (hk : kc < d) : Tb w0 ((w.setCell ⟨g, kc * 2, none⟩ (.int .i64 (-1))).setCell ⟨g, kc * 2 + 1, none⟩ (.int .i64 0)) base oa ob (.slice (some ⟨g, 0, none⟩) d c) od n d ka kb (kc + 1) kd := by
  obtain ⟨m, k⟩ := h.c.set2 hk
  exact ⟨h.a.kept k (fun y hy hm => by simp at hm; subst hm; exact h.ac.symm _ rfl hy), h.b.kept k (fun y hy hm => by simp at hm; subst hm; exact h.bc.symm _ rfl hy), m, h.d.kept k (fun y hy hm => by simp at hm; subst hm; exact h.cd _ rfl hy), h.ab, h.ac, h.ad, h.bc, h.bd, h.cd, h.kept.trans k (fun y hy => .inl (by simp at hy; subst hy; simp [Value.ownBlock]))⟩
theorem Tb.setD {w0 w : World} {base g c : Nat} {oa ob oc : Value} {n d ka kb kc kd : Nat} (h : Tb w0 w base oa ob oc (.slice (some ⟨g, 0, none⟩) d c) n d ka kb kc kd) (hk : kd < d) : Tb w0 ((w.setCell ⟨g, kd * 2, none⟩ (.int .i64 (-2))).setCell ⟨g, kd * 2 + 1, none⟩ (.int .i64 0)) base oa ob oc (.slice (some ⟨g, 0, none⟩) d c) n d ka kb kc (kd + 1) := by
  obtain ⟨m, k⟩ := h.d.set2 hk
  exact ⟨h.a.kept k (fun y hy hm => by simp at hm; subst hm; exact h.ad.symm _ rfl hy), h.b.kept k (fun y hy hm => by simp at hm; subst hm; exact h.bd.symm _ rfl hy), h.c.kept k (fun y hy hm => by simp at hm; subst hm; exact h.cd.symm _ rfl hy), m, h.ab, h.ac, h.ad, h.bc, h.bd, h.cd, h.kept.trans k (fun y hy => .inl (by simp at hy; subst hy; simp [Value.ownBlock]))⟩
/-- two lists that grew: none of the one's blocks is the other's -/
def Sp (o v o2 v2 : Value) : Prop := ∀ y, (o.ownBlock = some y ∨ v.ownBlock = some y) → ¬ (o2.ownBlock = some y ∨ v2.ownBlock = some y)
theorem Sp.symm {o v o2 v2 : Value} (h : Sp o v o2 v2) : Sp o2 v2 o v := fun y hy e => h y e hy
theorem Sp.start {o o2 : Value} (h : Apartv o o2) : Sp o o o2 o2 := fun y hy e => h y (by rcases hy with q | q <;> exact q) (by rcases e with q | q <;> exact q)
theorem Sp.grow {o v v' o2 v2 : Value} {N : Nat} (h : Sp o v o2 v2) (hat : v'.ownBlock = v.ownBlock ∨ v'.ownBlock = some N) (hlt : ∀ y, (o2.ownBlock = some y ∨ v2.ownBlock = some y) → y < N) : Sp o v' o2 v2 := by
  intro y hy e
  rcases hy with hy | hy
  · exact h y (.inl hy) e
  · rcases hat with q | q
    · exact h y (.inr (by rw [← q]; exact hy)) e
    · rw [q] at hy
      cases hy
      exact Nat.lt_irrefl _ (hlt _ e)
theorem Grw.below {nb : Nat} {w : World} {base sz n m : Nat} {o v : Value} {z : Int} (h : Grw nb w base sz o v n m z) {y : Nat} (hy : o.ownBlock = some y ∨ v.ownBlock = some y) : y < w.heap.size := by
  rcases hy with q | q
  · exact (h.lo y q).2
  · exact (h.row.lo q).2
/-- the second phase: the lists grow -/
structure Tab (w0 w : World) (base : Nat) (oa va ob vb oc vc od vd : Value) (n d ma mb mc md : Nat) : Prop where
  a : Grw w0.heap.size w base 5 oa va n ma (-1)
  b : Grw w0.heap.size w base 5 ob vb n mb (-2)
  c : Grw w0.heap.size w base 2 oc vc d mc (-1)
  d : Grw w0.heap.size w base 2 od vd d md (-2)
  ab : Sp oa va ob vb
  ac : Sp oa va oc vc
  ad : Sp oa va od vd
  bc : Sp ob vb oc vc
  bd : Sp ob vb od vd
  cd : Sp oc vc od vd
  kept : Kept (oa.ownBlock.toList ++ (ob.ownBlock.toList ++ (oc.ownBlock.toList ++ od.ownBlock.toList))) w0 w
theorem Tab.start {w0 w : World} {base : Nat} {oa ob oc od : Value} {n d : Nat} (h : Tb w0 w base oa ob oc od n d n n d d) : Tab w0 w base oa oa ob ob oc oc od od n d n n d d := ⟨Grw.start h.a, Grw.start h.b, Grw.start h.c, Grw.start h.d, Sp.start h.ab, Sp.start h.ac, Sp.start h.ad, Sp.start h.bc, Sp.start h.bd, Sp.start h.cd, h.kept⟩
theorem Tab.then {w0 w : World} {base : Nat} {oa va ob vb oc vc od vd : Value} {n d ma mb mc md : Nat} {w' : World} (h : Tab w0 w base oa va ob vb oc vc od vd n d ma mb mc md) (k : Kept [] w w') : Tab w0 w' base oa va ob vb oc vc od vd n d ma mb mc md := ⟨h.a.kept k (by simp), h.b.kept k (by simp), h.c.kept k (by simp), h.d.kept k (by simp), h.ab, h.ac, h.ad, h.bc, h.bd, h.cd, h.kept.then k⟩
theorem Tab.appA {w0 w : World} {base : Nat} {oa va ob vb oc vc od vd : Value} {n d ma mb mc md : Nat} {w1 w' : World} {va' : Value} {cs news : List Value} (h : Tab w0 w base oa va ob vb oc vc od vd n d ma mb mc md) (hr : Row w base 5 va ma cs) (hm : ∀ i, i < ma → cs[i * 5]? = some (.int .i64 (-1))) (hnew : news[0]? = some (.int .i64 (-1))) (kl : Kept [] w w1) (r : Row w' base 5 va' (ma + 1) (cs ++ news)) (k : Kept va.ownBlock.toList w1 w') (hat : va'.ownBlock = va.ownBlock ∨ (va'.ownBlock = some w1.heap.size ∧ Kept [] w1 w')) : Tab w0 w' base oa va' ob vb oc vc od vd n d (ma + 1) mb mc md := by
  have at1 : va'.ownBlock = va.ownBlock ∨ va'.ownBlock = some w1.heap.size := hat.imp id (·.1)
  have hb : w0.heap.size ≤ w1.heap.size := Nat.le_trans h.kept.size kl.size
  have K : Kept va.ownBlock.toList w w' := (kl.mono (T := va.ownBlock.toList) (by simp)).trans k (fun y hy => .inl hy)
  have sb : ∀ y, (ob.ownBlock = some y ∨ vb.ownBlock = some y) → y ∉ va.ownBlock.toList := fun y hy hm => h.ab y (.inr (by simpa using hm)) hy
  have sc : ∀ y, (oc.ownBlock = some y ∨ vc.ownBlock = some y) → y ∉ va.ownBlock.toList := fun y hy hm => h.ac y (.inr (by simpa using hm)) hy
  have sd : ∀ y, (od.ownBlock = some y ∨ vd.ownBlock = some y) → y ∉ va.ownBlock.toList := fun y hy hm => h.ad y (.inr (by simpa using hm)) hy
  refine ⟨h.a.app hr hm hnew kl hb r k hat, h.b.kept K sb, h.c.kept K sc, h.d.kept K sd, (Sp.grow h.ab at1 (fun y hy => Nat.lt_of_lt_of_le (h.b.below hy) kl.size)), (Sp.grow h.ac at1 (fun y hy => Nat.lt_of_lt_of_le (h.c.below hy) kl.size)), (Sp.grow h.ad at1 (fun y hy => Nat.lt_of_lt_of_le (h.d.below hy) kl.size)), h.bc, h.bd, h.cd, h.kept.trans K (fun y hy => ?_)⟩
  have hy' : va.ownBlock = some y := by simpa using hy
  rcases h.a.nw y hy' with q | q
  · exact .inl (by simp [q])
  · exact .inr q
theorem Tab.appB {w0 w : World} {base : Nat} {oa va ob vb oc vc od vd : Value} {n d ma mb mc md : Nat} {w1 w' : World} {vb' : Value} {cs news : List Value} (h : Tab w0 w base oa va ob vb oc vc od vd n d ma mb mc md) (hr : Row w base 5 vb mb cs) (hm : ∀ i, i < mb → cs[i * 5]? = some (.int .i64 (-2))) (hnew : news[0]? = some (.int .i64 (-2))) (kl : Kept [] w w1) (r : Row w' base 5 vb' (mb + 1) (cs ++ news)) (k : Kept vb.ownBlock.toList w1 w') (hat : vb'.ownBlock = vb.ownBlock ∨ (vb'.ownBlock = some w1.heap.size ∧ Kept [] w1 w')) : Tab w0 w' base oa va ob vb' oc vc od vd n d ma (mb + 1) mc md := by
  have at1 : vb'.ownBlock = vb.ownBlock ∨ vb'.ownBlock = some w1.heap.size := hat.imp id (·.1)
  have hb : w0.heap.size ≤ w1.heap.size := Nat.le_trans h.kept.size kl.size
  have K : Kept vb.ownBlock.toList w w' := (kl.mono (T := vb.ownBlock.toList) (by simp)).trans k (fun y hy => .inl hy)
  have sa : ∀ y, (oa.ownBlock = some y ∨ va.ownBlock = some y) → y ∉ vb.ownBlock.toList := fun y hy hm => h.ab.symm y (.inr (by simpa using hm)) hy
  have sc : ∀ y, (oc.ownBlock = some y ∨ vc.ownBlock = some y) → y ∉ vb.ownBlock.toList := fun y hy hm => h.bc y (.inr (by simpa using hm)) hy
  have sd : ∀ y, (od.ownBlock = some y ∨ vd.ownBlock = some y) → y ∉ vb.ownBlock.toList := fun y hy hm => h.bd y (.inr (by simpa using hm)) hy
  refine ⟨h.a.kept K sa, h.b.app hr hm hnew kl hb r k hat, h.c.kept K sc, h.d.kept K sd, (Sp.grow h.ab.symm at1 (fun y hy => Nat.lt_of_lt_of_le (h.a.below hy) kl.size)).symm, h.ac, h.ad, (Sp.grow h.bc at1 (fun y hy => Nat.lt_of_lt_of_le (h.c.below hy) kl.size)), (Sp.grow h.bd at1 (fun y hy => Nat.lt_of_lt_of_le (h.d.below hy) kl.size)), h.cd, h.kept.trans K (fun y hy => ?_)⟩
  have hy' : vb.ownBlock = some y := by simpa using hy
  rcases h.b.nw y hy' with q | q
  · exact .inl (by simp [q])
  · exact .inr q
theorem Tab.appC {w0 w : World} {base : Nat} {oa va ob vb oc vc od vd : Value} {n d ma mb mc md : Nat} {w1 w' : World} {vc' : Value} {cs news : List Value} (h : Tab w0 w base oa va ob vb oc vc od vd n d ma mb mc md) (hr : Row w base 2 vc mc cs) (hm : ∀ i, i < mc → cs[i * 2]? = some (.int .i64 (-1))) (hnew : news[0]? = some (.int .i64 (-1))) (kl : Kept [] w w1) (r : Row w' base 2 vc' (mc + 1) (cs ++ news)) (k : Kept vc.ownBlock.toList w1 w') (hat : vc'.ownBlock = vc.ownBlock ∨ (vc'.ownBlock = some w1.heap.size ∧ Kept [] w1 w')) : Tab w0 w' base oa va ob vb oc vc' od vd n d ma mb (mc + 1) md := by
  have at1 : vc'.ownBlock = vc.ownBlock ∨ vc'.ownBlock = some w1.heap.size := hat.imp id (·.1)
  have hb : w0.heap.size ≤ w1.heap.size := Nat.le_trans h.kept.size kl.size
  have K : Kept vc.ownBlock.toList w w' := (kl.mono (T := vc.ownBlock.toList) (by simp)).trans k (fun y hy => .inl hy)
  have sa : ∀ y, (oa.ownBlock = some y ∨ va.ownBlock = some y) → y ∉ vc.ownBlock.toList := fun y hy hm => h.ac.symm y (.inr (by simpa using hm)) hy
  have sb : ∀ y, (ob.ownBlock = some y ∨ vb.ownBlock = some y) → y ∉ vc.ownBlock.toList := fun y hy hm => h.bc.symm y (.inr (by simpa using hm)) hy
  have sd : ∀ y, (od.ownBlock = some y ∨ vd.ownBlock = some y) → y ∉ vc.ownBlock.toList := fun y hy hm => h.cd y (.inr (by simpa using hm)) hy
  refine ⟨h.a.kept K sa, h.b.kept K sb, h.c.app hr hm hnew kl hb r k hat, h.d.kept K sd, h.ab, (Sp.grow h.ac.symm at1 (fun y hy => Nat.lt_of_lt_of_le (h.a.below hy) kl.size)).symm, h.ad, (Sp.grow h.bc.symm at1 (fun y hy => Nat.lt_of_lt_of_le (h.b.below hy) kl.size)).symm, h.bd, (Sp.grow h.cd at1 (fun y hy => Nat.lt_of_lt_of_le (h.d.below hy) kl.size)), h.kept.trans K (fun y hy => ?_)⟩
  have hy' : vc.ownBlock = some y := by simpa using hy
  rcases h.c.nw y hy' with q | q
  · exact .inl (by simp [q])
  · exact .inr q
theorem Tab.appD {w0 w : World} {base : Nat} {oa va ob vb oc vc od vd : Value} {n d ma mb mc md : Nat} {w1 w' : World} {vd' : Value} {cs news : List Value} (h : Tab w0 w base oa va ob vb oc vc od vd n d ma mb mc md) (hr : Row w base 2 vd md cs) (hm : ∀ i, i < md → cs[i * 2]? = some (.int .i64 (-2))) (hnew : news[0]? = some (.int .i64 (-2))) (kl : Kept [] w w1) (r : Row w' base 2 vd' (md + 1) (cs ++ news)) (k : Kept vd.ownBlock.toList w1 w') (hat : vd'.ownBlock = vd.ownBlock ∨ (vd'.ownBlock = some w1.heap.size ∧ Kept [] w1 w')) : Tab w0 w' base oa va ob vb oc vc od vd' n d ma mb mc (md + 1) := by
  have at1 : vd'.ownBlock = vd.ownBlock ∨ vd'.ownBlock = some w1.heap.size := hat.imp id (·.1)
  have hb : w0.heap.size ≤ w1.heap.size := Nat.le_trans h.kept.size kl.size
  have K : Kept vd.ownBlock.toList w w' := (kl.mono (T := vd.ownBlock.toList) (by simp)).trans k (fun y hy => .inl hy)
  have sa : ∀ y, (oa.ownBlock = some y ∨ va.ownBlock = some y) → y ∉ vd.ownBlock.toList := fun y hy hm => h.ad.symm y (.inr (by simpa using hm)) hy
  have sb : ∀ y, (ob.ownBlock = some y ∨ vb.ownBlock = some y) → y ∉ vd.ownBlock.toList := fun y hy hm => h.bd.symm y (.inr (by simpa using hm)) hy
  have sc : ∀ y, (oc.ownBlock = some y ∨ vc.ownBlock = some y) → y ∉ vd.ownBlock.toList := fun y hy hm => h.cd.symm y (.inr (by simpa using hm)) hy
  refine ⟨h.a.kept K sa, h.b.kept K sb, h.c.kept K sc, h.d.app hr hm hnew kl hb r k hat, h.ab, h.ac, (Sp.grow h.ad.symm at1 (fun y hy => Nat.lt_of_lt_of_le (h.a.below hy) kl.size)).symm, h.bc, (Sp.grow h.bd.symm at1 (fun y hy => Nat.lt_of_lt_of_le (h.b.below hy) kl.size)).symm, (Sp.grow h.cd.symm at1 (fun y hy => Nat.lt_of_lt_of_le (h.c.below hy) kl.size)).symm, h.kept.trans K (fun y hy => ?_)⟩
  have hy' : vd.ownBlock = some y := by simpa using hy
  rcases h.d.nw y hy' with q | q
  · exact .inl (by simp [q])
  · exact .inr q
end Go.Proofs.Ytebcmcmboomgfaa

/-
  OWN WORK. The law's spoilt: what stands in memory.
-/
namespace Go.Proofs.Ytebcmcmboomgfaa
open Go.RowKit
set_option linter.unusedVariables false
set_option linter.unusedSimpArgs false

def hasB (V : RV) (y : Nat) : Prop := V.vb.ownBlock = some y ∨ V.va.ownBlock = some y ∨ V.vr.ownBlock = some y ∨ V.vd.ownBlock = some y
theorem Bs.keptS {w w' : World} {v : Value} {l : List UInt8} {S : List Nat} (h : Bs w v l) (k : Kept S w w') (hS : ∀ x, v.ownBlock = some x → x ∉ S) : Bs w' v l := h.carry fun a x hx hb => k.cell hx (hS _ hb)
theorem Cs.keptS {w w' : World} {sz n : Nat} {v : Value} {cs : List Value} {S : List Nat} (h : Cs w sz v n cs) (k : Kept S w w') (hS : ∀ x, v.ownBlock = some x → x ∉ S) : Cs w' sz v n cs := by
  obtain ⟨h1, h2, p, c, rfl, h3, h4, h5, h6⟩ := h
  refine ⟨h1, h2, p, c, rfl, h3, h4, h5, fun a ha j u hu => k.cell (h6 a ha j u hu) ?_⟩
  rw [add_block]
  exact hS _ (by subst ha; rfl)
theorem SeeR.keptS {w w' : World} {V : RV} {r : Rcd} {S : List Nat} (h : SeeR w V r) (k : Kept S w w') (hS : ∀ y, hasB V y → y ∉ S) : SeeR w' V r :=
  ⟨h.before.keptS k fun x hx => hS x (.inl hx), h.after.keptS k fun x hx => hS x (.inr (.inl hx)), h.rows.keptS k fun x hx => hS x (.inr (.inr (.inl hx))), h.dirty.keptS k fun x hx => hS x (.inr (.inr (.inr hx)))⟩
def pcells : List (RV × Rcd) → List Value
  | [] => []
  | p :: r => p.2.cl p.1 ++ pcells r
theorem pcells_append (a b : List (RV × Rcd)) : pcells (a ++ b) = pcells a ++ pcells b := by
  induction a with
  | nil => rfl
  | cons x r ih => simp [pcells, ih]
theorem cl_length (r : Rcd) (V : RV) : (r.cl V).length = 11 := rfl
theorem pcells_at : ∀ {xs : List (RV × Rcd)} {i : Nat} {p : RV × Rcd}, xs[i]? = some p → ∀ (j : Nat) u, (p.2.cl p.1)[j]? = some u → (pcells xs)[i * 11 + j]? = some u
  | [], i, p, h, j, u, hu => by simp at h
  | y :: r, 0, p, h, j, u, hu => by
    simp at h
    subst h
    have hj := (List.getElem?_eq_some_iff.1 hu).1
    simp only [pcells, Nat.zero_mul, Nat.zero_add]
    rw [List.getElem?_append_left hj]
    exact hu
  | y :: r, i + 1, p, h, j, u, hu => by
    have q := pcells_at (xs := r) (i := i) (p := p) (by simpa using h) j u hu
    simp only [pcells]
    rw [List.getElem?_append_right (by rw [cl_length]; omega), cl_length, show (i + 1) * 11 + j - 11 = i * 11 + j by omega]
    exact q
theorem cl_one {w : World} {V : RV} {r : Rcd} (h : SeeR w V r) : ∀ u ∈ r.cl V, u.oneCell' = true := by
  obtain ⟨pb, cb, pa, ca, pr, cr, pd, cd, rfl⟩ := h.shapes
  intro u hu
  simp only [Rcd.cl, List.mem_cons, List.not_mem_nil, or_false] at hu
  rcases hu with rfl | rfl | rfl | rfl | rfl | rfl | rfl | rfl | rfl | rfl | rfl <;> rfl
/-- the variable x (block X), the list v of the records xs so far -/
structure Spo (w0 w : World) (X : Nat) (x : Rcd) (Vx : RV) (v : Value) (N : Nat) (xs : List (RV × Rcd)) : Prop where
  blk : Blk w X 26 (x.cl Vx)
  see : SeeR w Vx x
  len : xs.length = N
  row : Row w w0.heap.size 11 v N (pcells xs)
  all : ∀ p ∈ xs, SeeR w p.1 p.2 ∧ ¬ p.2.Right
  sep : ∀ p ∈ xs, ∀ y, hasB p.1 y → y ≠ X ∧ v.ownBlock ≠ some y ∧ y < w.heap.size
  sepx : ∀ y, hasB Vx y → y ≠ X ∧ v.ownBlock ≠ some y ∧ y < w.heap.size
  sepv : v.ownBlock ≠ some X
  kept : Kept [] w0 w
  lo : w0.heap.size ≤ X
theorem Spo.set {w0 w : World} {X N : Nat} {x : Rcd} {Vx : RV} {v : Value} {xs : List (RV × Rcd)} (h : Spo w0 w X x Vx v N xs) (j : Nat) (z : Int) (x' : Rcd) (hcl : x'.cl Vx = (x.cl Vx).set j (.int .i64 z)) (hl : x'.before = x.before ∧ x'.after = x.after ∧ x'.rows = x.rows ∧ x'.dirty = x.dirty) : Spo w0 (w.setCell ⟨X, j, none⟩ (.int .i64 z)) X x' Vx v N xs := by
  obtain ⟨b, k⟩ := h.blk.set j (.int .i64 z)
  have s := h.see.keptS k fun y hy hm => (h.sepx y hy).1 (by simpa using hm)
  refine ⟨by rw [hcl]; exact b, ⟨by rw [hl.1]; exact s.before, by rw [hl.2.1]; exact s.after, by rw [hl.2.2.1]; exact s.rows, by rw [hl.2.2.2]; exact s.dirty⟩, h.len, h.row.kept k fun y hy hm => h.sepv (by simp at hm; rw [← hm]; exact hy), fun p hp => ⟨(h.all p hp).1.keptS k fun y hy hm => (h.sep p hp y hy).1 (by simpa using hm), (h.all p hp).2⟩, fun p hp y hy => ?_, fun y hy => ?_, h.sepv, h.kept.trans k fun y hy => .inr (by simp at hy; rw [hy]; exact h.lo), h.lo⟩
  · exact ⟨(h.sep p hp y hy).1, (h.sep p hp y hy).2.1, Nat.lt_of_lt_of_le (h.sep p hp y hy).2.2 k.size⟩
  · exact ⟨(h.sepx y hy).1, (h.sepx y hy).2.1, Nat.lt_of_lt_of_le (h.sepx y hy).2.2 k.size⟩
theorem Spo.push {w0 w wq w' : World} {X N M : Nat} {x : Rcd} {Vx : RV} {v v' : Value} {xs : List (RV × Rcd)} (h : Spo w0 w X x Vx v N xs) (hbad : ¬ x.Right) (hM : N + 1 = M) (kq : Kept [] w wq) (r' : Row w' w0.heap.size 11 v' (N + 1) (pcells xs ++ x.cl Vx)) (k' : Kept v.ownBlock.toList wq w') (a' : v'.ownBlock = v.ownBlock ∨ v'.ownBlock = some wq.heap.size) :
    ∃ p' c' ys, v' = .slice p' M c' ∧ Spo w0 w' X x Vx (.slice p' M c') M ys := by
  subst hM
  obtain ⟨p', c', rfl, -⟩ := r'.shape
  have hs := kq.size
  have hs' := k'.size
  have sepT : ∀ y, y ≠ X ∧ v.ownBlock ≠ some y ∧ y < w.heap.size → y ≠ X ∧ (Value.slice p' (N + 1) c').ownBlock ≠ some y ∧ y < w'.heap.size := fun y ⟨q1, q2, q3⟩ => ⟨q1, fun e => (by rcases a' with a | a; exact q2 (a ▸ e); rw [a] at e; cases e; omega), by omega⟩
  refine ⟨p', c', xs ++ [(Vx, x)], rfl, (h.blk.kept kq (by simp)).kept k' fun hm => h.sepv (by simpa using hm), (h.see.kept kq).keptS k' fun y hy hm => (h.sepx y hy).2.1 (by simpa using hm), by simp [h.len], ?_, fun p hp => ?_, fun p hp y hy => ?_, fun y hy => sepT y (h.sepx y hy), ?_, (h.kept.then kq).trans k' fun y hy => .inr (h.row.lt y (by simpa using hy)).1, h.lo⟩
  · rw [pcells_append]
    simp only [pcells, List.append_nil]
    exact r'
  · rcases List.mem_append.1 hp with q | q
    · exact ⟨((h.all p q).1.kept kq).keptS k' fun y hy hm => (h.sep p q y hy).2.1 (by simpa using hm), (h.all p q).2⟩
    · simp at q
      subst q
      exact ⟨(h.see.kept kq).keptS k' fun y hy hm => (h.sepx y hy).2.1 (by simpa using hm), hbad⟩
  · rcases List.mem_append.1 hp with q | q
    · exact sepT y (h.sep p q y hy)
    · simp at q
      subst q
      exact sepT y (h.sepx y hy)
  · intro e
    rcases a' with a | a
    · exact h.sepv (a ▸ e)
    · rw [a] at e
      have := h.blk.lt
      cases e
      omega
/-- x's lists are newer than all else -/
structure Frs (b : Nat) (X : Nat) (Vx : RV) (v : Value) (xs : List (RV × Rcd)) : Prop where
  own : ∀ y, hasB Vx y → b ≤ y
  old : ∀ p ∈ xs, ∀ y, hasB p.1 y → y < b
  row : ∀ y, v.ownBlock = some y → y < b
  blk : X < b
theorem Spo.copy {w0 w wq w2 : World} {X N : Nat} {x r : Rcd} {Vx V : RV} {v : Value} {xs : List (RV × Rcd)} (h : Spo w0 w X x Vx v N xs) (kq : Kept [] w wq) (hO : OwnR w.heap.size wq V r) (b2 : Blk w2 X 26 (r.cl V)) (k2 : Kept [X] wq w2) : Spo w0 w2 X r V v N xs ∧ OwnR w.heap.size w2 V r ∧ Frs w.heap.size X V v xs := by
  have hX := h.blk.lt
  have hs := kq.size
  have hs2 := k2.size
  have geV : ∀ y, hasB V y → w.heap.size ≤ y ∧ y < wq.heap.size := fun y hy => hO.ge hy
  have hO2 := hO.kept k2 fun y hy hm => by simp at hm; have := (hO.ge hy).1; omega
  refine ⟨⟨b2, hO2.see, h.len, (h.row.kept kq (by simp)).kept k2 fun y hy hm => h.sepv (by simp at hm; rw [← hm]; exact hy), fun p hp => ⟨((h.all p hp).1.kept kq).keptS k2 fun y hy hm => (h.sep p hp y hy).1 (by simpa using hm), (h.all p hp).2⟩, fun p hp y hy => ⟨(h.sep p hp y hy).1, (h.sep p hp y hy).2.1, by have := (h.sep p hp y hy).2.2; omega⟩, fun y hy => ⟨by have := geV y hy; omega, fun e => by have e1 := (h.row.lt y e).2; have := geV y hy; omega, by have := geV y hy; omega⟩, h.sepv, (h.kept.then kq).trans k2 fun y hy => .inr (by simp at hy; rw [hy]; exact h.lo), h.lo⟩, hO2, ⟨fun y hy => (geV y hy).1, fun p hp y hy => (h.sep p hp y hy).2.2, fun y hy => (h.row.lt y hy).2, hX⟩⟩
theorem Spo.turn {w0 w w1 w2 : World} {X N b : Nat} {x x' : Rcd} {Vx V' : RV} {v : Value} {xs : List (RV × Rcd)} {S : List Nat} (h : Spo w0 w X x Vx v N xs) (f : Frs b X Vx v xs) (k : Kept S w w1) (hS : ∀ s ∈ S, b ≤ s) (see' : SeeR w1 V' x') (hB : ∀ y, hasB V' y → b ≤ y ∧ y < w1.heap.size) (k2 : Kept [X] w1 w2) (b2 : Blk w2 X 26 (x'.cl V')) : Spo w0 w2 X x' V' v N xs := by
  have hs := k.size
  have hs2 := k2.size
  have hX := f.blk
  have nS : ∀ y, y < b → y ∉ S := fun y hy hm => by have := hS y hm; omega
  refine ⟨b2, see'.keptS k2 fun y hy hm => by simp at hm; have := (hB y hy).1; omega, h.len, (h.row.kept k fun y hy => nS y (f.row y hy)).kept k2 fun y hy hm => h.sepv (by simp at hm; rw [← hm]; exact hy), fun p hp => ⟨((h.all p hp).1.keptS k fun y hy => nS y (f.old p hp y hy)).keptS k2 fun y hy hm => (h.sep p hp y hy).1 (by simpa using hm), (h.all p hp).2⟩, fun p hp y hy => ⟨(h.sep p hp y hy).1, (h.sep p hp y hy).2.1, by have := (h.sep p hp y hy).2.2; omega⟩, fun y hy => ⟨by have := (hB y hy).1; omega, fun e => by have e1 := f.row y e; have := (hB y hy).1; omega, by have := (hB y hy).2; omega⟩, h.sepv, (h.kept.trans k fun y hy => .inr (by have e1 := hS y hy; have e2 := h.lo; omega)).trans k2 fun y hy => .inr (by simp at hy; rw [hy]; exact h.lo), h.lo⟩
theorem src_rcd {P : Program} (w : World) (t e : TypeId) (ht : P.underlying t = some (.slice e)) (cs : List Value) (hl : cs.length = 11) (h1 : ∀ u ∈ cs, u.oneCell' = true) : Src P 11 t (.slice (some ⟨w.heap.size, 0, none⟩) 1 1) 1 cs (w.alloc (.cells cs.toArray e)) := by
  refine Src.ofSlice _ ht _ _ _ _ (by rw [hl]) (fun j u hj => ?_) h1
  rw [add_none rfl]
  have q := (Blk.new w e cs).cell hj
  simpa using q
end Go.Proofs.Ytebcmcmboomgfaa

/-
  OWN WORK (by mklw8.py). Records that are not right, made of one that is.
-/
namespace Go.Proofs.Ytebcmcmboomgfaa
open Go.RowKit
set_option linter.unusedVariables false
set_option linter.unusedSimpArgs false

theorem right_kind {r : Rcd} (h : r.Right) : r.kind = 1 ∨ r.kind = 2 ∨ r.kind = 3 ∨ r.kind = 4 ∨ r.kind = 5 ∨ r.kind = 6 ∨ r.kind = 7 := by have := h.1; omega
theorem rows_twice {l : List RowR} {x y : RowR} (h : ∀ (i : Nat) a b, (l ++ [x, y])[i]? = some a → (l ++ [x, y])[i + 1]? = some b → a.birth < b.birth) : x.birth < y.birth := h l.length x y (by simp) (by rw [List.getElem?_append_right (by omega)]; simp)
theorem recs_twice {l : List RecR} {x y : RecR} (h : ∀ (i : Nat) a b, (l ++ [x, y])[i]? = some a → (l ++ [x, y])[i + 1]? = some b → a.page < b.page) : x.page < y.page := h l.length x y (by simp) (by rw [List.getElem?_append_right (by omega)]; simp)
set_option maxHeartbeats 800000 in
theorem bad_kA {r : Rcd} (hR : r.Right) : ¬ (⟨r.kind - 8, r.birth, r.prev, r.id, r.page, r.frm, r.before, r.after, r.next, r.rows, r.dirty⟩ : Rcd).Right := by
  intro h
  have hk0 := right_kind hR
  unfold Rcd.Right at h hR
  dsimp only at h
  omega
set_option maxHeartbeats 800000 in
theorem bad_kB {r : Rcd} (hR : r.Right) : ¬ (⟨r.kind + 7, r.birth, r.prev, r.id, r.page, r.frm, r.before, r.after, r.next, r.rows, r.dirty⟩ : Rcd).Right := by
  intro h
  have hk0 := right_kind hR
  unfold Rcd.Right at h hR
  dsimp only at h
  omega
set_option maxHeartbeats 800000 in
theorem bad_bA {r : Rcd} (hR : r.Right) : ¬ (⟨r.kind, -1, r.prev, r.id, r.page, r.frm, r.before, r.after, r.next, r.rows, r.dirty⟩ : Rcd).Right := by
  intro h
  have hk0 := right_kind hR
  unfold Rcd.Right at h hR
  dsimp only at h
  rcases hk0 with e | e | e | e | e | e | e <;> simp [e, lsnOk, nextOk, rangedOk, partsOk] at h hR <;> omega
set_option maxHeartbeats 800000 in
theorem bad_bB {r : Rcd} (hR : r.Right) : ¬ (⟨r.kind, 1152921504606846977, r.prev, r.id, r.page, r.frm, r.before, r.after, r.next, r.rows, r.dirty⟩ : Rcd).Right := by
  intro h
  have hk0 := right_kind hR
  unfold Rcd.Right at h hR
  dsimp only at h
  rcases hk0 with e | e | e | e | e | e | e <;> simp [e, lsnOk, nextOk, rangedOk, partsOk] at h hR <;> omega
set_option maxHeartbeats 800000 in
theorem bad_pA {r : Rcd} (hR : r.Right) : ¬ (⟨r.kind, r.birth, -1, r.id, r.page, r.frm, r.before, r.after, r.next, r.rows, r.dirty⟩ : Rcd).Right := by
  intro h
  have hk0 := right_kind hR
  unfold Rcd.Right at h hR
  dsimp only at h
  rcases hk0 with e | e | e | e | e | e | e <;> simp [e, lsnOk, nextOk, rangedOk, partsOk] at h hR <;> omega
set_option maxHeartbeats 800000 in
theorem bad_nA {r : Rcd} (hR : r.Right) : ¬ (⟨r.kind, r.birth, r.prev, r.id, r.page, r.frm, r.before, r.after, -1, r.rows, r.dirty⟩ : Rcd).Right := by
  intro h
  have hk0 := right_kind hR
  unfold Rcd.Right at h hR
  dsimp only at h
  rcases hk0 with e | e | e | e | e | e | e <;> simp [e, lsnOk, nextOk, rangedOk, partsOk] at h hR <;> omega
set_option maxHeartbeats 800000 in
theorem bad_nB {r : Rcd} (hR : r.Right) : ¬ (⟨r.kind, r.birth, r.prev, r.id, r.page, r.frm, r.before, r.after, 1152921504606846977, r.rows, r.dirty⟩ : Rcd).Right := by
  intro h
  have hk0 := right_kind hR
  unfold Rcd.Right at h hR
  dsimp only at h
  rcases hk0 with e | e | e | e | e | e | e <;> simp [e, lsnOk, nextOk, rangedOk, partsOk] at h hR <;> omega
set_option maxHeartbeats 800000 in
theorem bad_iA {r : Rcd} (hR : r.Right) : ¬ (⟨r.kind, r.birth, r.prev, 65, r.page, r.frm, r.before, r.after, r.next, r.rows, r.dirty⟩ : Rcd).Right := by
  intro h
  have hk0 := right_kind hR
  unfold Rcd.Right at h hR
  dsimp only at h
  rcases hk0 with e | e | e | e | e | e | e <;> simp [e, lsnOk, nextOk, rangedOk, partsOk] at h hR <;> omega
set_option maxHeartbeats 800000 in
theorem bad_gA {r : Rcd} (hR : r.Right) : ¬ (⟨r.kind, r.birth, r.prev, r.id, 16, r.frm, r.before, r.after, r.next, r.rows, r.dirty⟩ : Rcd).Right := by
  intro h
  have hk0 := right_kind hR
  unfold Rcd.Right at h hR
  dsimp only at h
  rcases hk0 with e | e | e | e | e | e | e <;> simp [e, lsnOk, nextOk, rangedOk, partsOk] at h hR <;> omega
set_option maxHeartbeats 800000 in
theorem bad_fA {r : Rcd} (hR : r.Right) : ¬ (⟨r.kind, r.birth, r.prev, r.id, r.page, 145, r.before, r.after, r.next, r.rows, r.dirty⟩ : Rcd).Right := by
  intro h
  have hk0 := right_kind hR
  unfold Rcd.Right at h hR
  dsimp only at h
  rcases hk0 with e | e | e | e | e | e | e <;> simp [e, lsnOk, nextOk, rangedOk, partsOk] at h hR <;> omega
set_option maxHeartbeats 800000 in
theorem bad_fB {r : Rcd} (hR : r.Right) : ¬ (⟨r.kind, r.birth, r.prev, r.id, r.page, 4611686018427387904, r.before, r.after, r.next, r.rows, r.dirty⟩ : Rcd).Right := by
  intro h
  have hk0 := right_kind hR
  unfold Rcd.Right at h hR
  dsimp only at h
  rcases hk0 with e | e | e | e | e | e | e <;> simp [e, lsnOk, nextOk, rangedOk, partsOk] at h hR <;> omega
set_option maxHeartbeats 800000 in
theorem bad_xA {r : Rcd} (hR : r.Right) : ¬ (⟨r.kind, r.birth, r.prev, r.id, r.page, r.frm, r.before ++ [1], r.after, r.next, r.rows, r.dirty⟩ : Rcd).Right := by
  intro h
  have hk0 := right_kind hR
  unfold Rcd.Right at h hR
  dsimp only at h
  rcases hk0 with e | e | e | e | e | e | e <;> simp [e, lsnOk, nextOk, rangedOk, partsOk] at h hR <;> omega
set_option maxHeartbeats 800000 in
theorem bad_xB {r : Rcd} (hR : r.Right) : ¬ (⟨r.kind, r.birth, r.prev, r.id, r.page, r.frm, r.before, List.replicate 129 0, r.next, r.rows, r.dirty⟩ : Rcd).Right := by
  intro h
  have hk0 := right_kind hR
  unfold Rcd.Right at h hR
  dsimp only at h
  rcases hk0 with e | e | e | e | e | e | e <;> simp [e, lsnOk, nextOk, rangedOk, partsOk] at h hR <;> omega
set_option maxHeartbeats 800000 in
theorem bad_xC {r : Rcd} (hR : r.Right) (hk : r.kind = 2 ∨ r.kind = 3) : ¬ (⟨r.kind, r.birth, r.prev, r.id, r.page, r.frm, r.before, [], r.next, r.rows, r.dirty⟩ : Rcd).Right := by
  intro h
  have hk0 := right_kind hR
  unfold Rcd.Right at h hR
  dsimp only at h
  rcases hk with e | e <;> simp [e, lsnOk, nextOk, rangedOk, partsOk] at h hR <;> omega
set_option maxHeartbeats 800000 in
theorem bad_xD {r : Rcd} (hR : r.Right) (hk : r.kind = 2 ∨ r.kind = 3) : ¬ (⟨r.kind, r.birth, r.prev, r.id, r.page, r.frm, [], [], r.next, r.rows, r.dirty⟩ : Rcd).Right := by
  intro h
  have hk0 := right_kind hR
  unfold Rcd.Right at h hR
  dsimp only at h
  rcases hk with e | e <;> simp [e, lsnOk, nextOk, rangedOk, partsOk] at h hR <;> omega
set_option maxHeartbeats 800000 in
theorem bad_fC {r : Rcd} (hR : r.Right) (hk : r.kind = 2 ∨ r.kind = 3) : ¬ (⟨r.kind, r.birth, r.prev, r.id, r.page, 15, r.before, r.after, r.next, r.rows, r.dirty⟩ : Rcd).Right := by
  intro h
  have hk0 := right_kind hR
  unfold Rcd.Right at h hR
  dsimp only at h
  rcases hk with e | e <;> simp [e, lsnOk, nextOk, rangedOk, partsOk] at h hR <;> omega
set_option maxHeartbeats 800000 in
theorem bad_fD {r : Rcd} (hR : r.Right) (hk : r.kind = 2 ∨ r.kind = 3) : ¬ (⟨r.kind, r.birth, r.prev, r.id, r.page, 145 - (r.after.length : Int), r.before, r.after, r.next, r.rows, r.dirty⟩ : Rcd).Right := by
  intro h
  have hk0 := right_kind hR
  unfold Rcd.Right at h hR
  dsimp only at h
  rcases hk with e | e <;> simp [e, lsnOk, nextOk, rangedOk, partsOk] at h hR <;> omega
set_option maxHeartbeats 800000 in
theorem bad_rA {r : Rcd} (hR : r.Right) : ¬ (⟨r.kind, r.birth, r.prev, r.id, r.page, r.frm, r.before, r.after, r.next, r.rows ++ [⟨1152921504606846976, 1, 3, 1, 0⟩], r.dirty⟩ : Rcd).Right := by
  intro h
  obtain ⟨-, -, -, hl, -⟩ := h
  simp only at hl
  split at hl
  · have q := hl.2.1.1 ⟨1152921504606846976, 1, 3, 1, 0⟩ (by simp)
    have q2 := q.2.2.1
    simp at q2
  · have q := hl.1
    simp at q
set_option maxHeartbeats 800000 in
theorem bad_rB {r : Rcd} (hR : r.Right) : ¬ (⟨r.kind, r.birth, r.prev, r.id, r.page, r.frm, r.before, r.after, r.next, r.rows ++ [⟨5, 1, 1, 5, 0⟩, ⟨5, 2, 1, 6, 0⟩], r.dirty⟩ : Rcd).Right := by
  intro h
  obtain ⟨-, -, -, hl, -⟩ := h
  simp only at hl
  split at hl
  · have q := rows_twice hl.2.1.2
    simp at q
  · have q := hl.1
    simp at q
set_option maxHeartbeats 800000 in
theorem bad_dA {r : Rcd} (hR : r.Right) : ¬ (⟨r.kind, r.birth, r.prev, r.id, r.page, r.frm, r.before, r.after, r.next, r.rows, r.dirty ++ [⟨16, 1⟩]⟩ : Rcd).Right := by
  intro h
  obtain ⟨-, -, -, hl, -⟩ := h
  simp only at hl
  split at hl
  · have q := hl.2.2.1 ⟨16, 1⟩ (by simp)
    have q2 := q.1.2
    simp at q2
  · have q := hl.2
    simp at q
set_option maxHeartbeats 800000 in
theorem bad_dB {r : Rcd} (hR : r.Right) : ¬ (⟨r.kind, r.birth, r.prev, r.id, r.page, r.frm, r.before, r.after, r.next, r.rows, r.dirty ++ [⟨15, 1⟩, ⟨15, 2⟩]⟩ : Rcd).Right := by
  intro h
  obtain ⟨-, -, -, hl, -⟩ := h
  simp only at hl
  split at hl
  · have q := recs_twice hl.2.2.2
    simp at q
  · have q := hl.2
    simp at q
set_option maxHeartbeats 800000 in
theorem bad_dC {r : Rcd} (hR : r.Right) : ¬ (⟨r.kind, r.birth, r.prev, r.id, r.page, r.frm, r.before, r.after, r.next, r.rows, r.dirty ++ [⟨15, 0⟩]⟩ : Rcd).Right := by
  intro h
  obtain ⟨-, -, -, hl, -⟩ := h
  simp only at hl
  split at hl
  · have q := hl.2.2.1 ⟨15, 0⟩ (by simp)
    have q2 := q.2.1
    simp at q2
  · have q := hl.2
    simp at q
theorem bad_sA {r : Rcd} (h2 : r.kind = 2) {y : UInt8} (hy : r.after[0]? = some y) : ¬ (⟨r.kind, r.birth, r.prev, r.id, r.page, r.frm, r.before.set 0 y, r.after, r.next, r.rows, r.dirty⟩ : Rcd).Right := by
  intro h
  obtain ⟨-, -, -, -, -, -, hp⟩ := h
  simp only [h2, if_true] at hp
  obtain ⟨q1, q2, -⟩ := hp
  simp only at q1 q2
  apply q2
  rw [hy, List.getElem?_set_self (by rw [List.length_set] at q1; have := (List.getElem?_eq_some_iff.1 hy).1; omega)]
theorem bad_sB {r : Rcd} (h2 : r.kind = 2) {y : UInt8} (hy : r.before[r.after.length - 1]? = some y) (hn : 0 < r.after.length) : ¬ (⟨r.kind, r.birth, r.prev, r.id, r.page, r.frm, r.before, r.after.set (r.after.length - 1) y, r.next, r.rows, r.dirty⟩ : Rcd).Right := by
  intro h
  obtain ⟨-, -, -, -, -, -, hp⟩ := h
  simp only [h2, if_true] at hp
  obtain ⟨q1, -, q2⟩ := hp
  simp only [List.length_set] at q1 q2
  apply q2
  rw [hy, List.getElem?_set_self (by omega)]
end Go.Proofs.Ytebcmcmboomgfaa

/-
  OWN WORK (by mklwa.py). The law: spoilt: how its record turns.
-/
namespace Go.Proofs.Ytebcmcmboomgfaa
open Go.RowKit
set_option linter.unusedVariables false
set_option linter.unusedSimpArgs false

theorem Spo.setV {w0 w : World} {X N : Nat} {x x' : Rcd} {Vx V' : RV} {v u : Value} {xs : List (RV × Rcd)} (h : Spo w0 w X x Vx v N xs) (j : Nat) (hcl : x'.cl V' = (x.cl Vx).set j u) (see' : SeeR w V' x') (hB : ∀ y, hasB V' y → hasB Vx y) : Spo w0 (w.setCell ⟨X, j, none⟩ u) X x' V' v N xs := by
  obtain ⟨b, k⟩ := h.blk.set j u
  refine ⟨by rw [hcl]; exact b, see'.keptS k fun y hy hm => (h.sepx y (hB y hy)).1 (by simpa using hm), h.len, h.row.kept k fun y hy hm => h.sepv (by simp at hm; rw [← hm]; exact hy), fun p hp => ⟨(h.all p hp).1.keptS k fun y hy hm => (h.sep p hp y hy).1 (by simpa using hm), (h.all p hp).2⟩, fun p hp y hy => ?_, fun y hy => ?_, h.sepv, h.kept.trans k fun y hy => .inr (by simp at hy; rw [hy]; exact h.lo), h.lo⟩
  · exact ⟨(h.sep p hp y hy).1, (h.sep p hp y hy).2.1, Nat.lt_of_lt_of_le (h.sep p hp y hy).2.2 k.size⟩
  · exact ⟨(h.sepx y (hB y hy)).1, (h.sepx y (hB y hy)).2.1, Nat.lt_of_lt_of_le (h.sepx y (hB y hy)).2.2 k.size⟩
theorem src_gen {P : Program} (w : World) (t e : TypeId) (sz m : Nat) (ht : P.underlying t = some (.slice e)) (cs : List Value) (hl : cs.length = m * sz) (h1 : ∀ u ∈ cs, u.oneCell' = true) : Src P sz t (.slice (some ⟨w.heap.size, 0, none⟩) m m) m cs (w.alloc (.cells cs.toArray e)) := by
  refine Src.ofSlice _ ht _ _ _ _ hl (fun j u hj => ?_) h1
  rw [add_none rfl]
  have q := (Blk.new w e cs).cell hj
  simpa using q
theorem copyCap_right {r : Rcd} (h : r.Right) : CopyCap r ∧ r.before.length ≤ 128 ∧ r.after.length ≤ 128 ∧ r.rows.length ≤ 8 ∧ r.dirty.length ≤ 16 := by
  have q : r.before.length ≤ 128 ∧ r.after.length ≤ 128 ∧ r.rows.length ≤ 8 ∧ r.dirty.length ≤ 16 := by
    have hk := right_kind h
    unfold Rcd.Right at h
    rcases hk with e | e | e | e | e | e | e <;> simp [e, rangedOk, partsOk, listsOk] at h <;> simp [h] <;> omega
  unfold CopyCap
  omega
theorem Spo.appB {w0 w wl w' : World} {X N b : Nat} {x : Rcd} {Vx : RV} {v v' : Value} {xs : List (RV × Rcd)} {new : List UInt8} (h : Spo w0 w X x Vx v N xs) (O : OwnR b w Vx x) (F : Frs b X Vx v xs) (kl : Kept [] w wl) (o' : w'.ownsRow b 5 1 v' (x.before.length + new.length) (u8s x.before ++ u8s new)) (g : wl.grownBy w' Vx.vb.ownBlock) : Blk w' X 26 (x.cl Vx) ∧ Spo w0 (w'.setCell ⟨X, 6, none⟩ v') X (⟨x.kind, x.birth, x.prev, x.id, x.page, x.frm, x.before ++ new, x.after, x.next, x.rows, x.dirty⟩ : Rcd) (⟨v', Vx.va, Vx.vr, Vx.vd⟩ : RV) v N xs := by
  have k : Kept Vx.vb.ownBlock.toList w w' := ((Kept.refl Vx.vb.ownBlock.toList w).then kl).grown g (fun y hy => .inl (by simpa using hy))
  have hS : ∀ s ∈ Vx.vb.ownBlock.toList, b ≤ s := fun s hs => F.own s (.inl (by simpa using hs))
  have blk' := h.blk.kept k fun hm => by have := hS X hm; have := F.blk; omega
  have see' : SeeR w' (⟨v', Vx.va, Vx.vr, Vx.vd⟩ : RV) (⟨x.kind, x.birth, x.prev, x.id, x.page, x.frm, x.before ++ new, x.after, x.next, x.rows, x.dirty⟩ : Rcd) := ⟨bs_own9 (l := x.before ++ new) (by rw [show u8s (x.before ++ new) = u8s x.before ++ u8s new from (by simp [u8s])]; exact o') (by rw [List.length_append]), h.see.after.keptS k (fun y hy hm => O.ba y (by simpa using hm) hy), h.see.rows.keptS k (fun y hy hm => O.br y (by simpa using hm) hy), h.see.dirty.keptS k (fun y hy hm => O.bd y (by simpa using hm) hy)⟩
  have hB : ∀ y, hasB (⟨v', Vx.va, Vx.vr, Vx.vd⟩ : RV) y → b ≤ y ∧ y < w'.heap.size := fun y hy => by
    have hs := k.size
    rcases hy with q | q | q | q
    · exact ⟨own_ge o' y q, own_lt o' y q⟩
    · exact ⟨F.own y (.inr (.inl q)), by have := (h.sepx y (.inr (.inl q))).2.2; omega⟩
    · exact ⟨F.own y (.inr (.inr (.inl q))), by have := (h.sepx y (.inr (.inr (.inl q)))).2.2; omega⟩
    · exact ⟨F.own y (.inr (.inr (.inr q))), by have := (h.sepx y (.inr (.inr (.inr q)))).2.2; omega⟩
  obtain ⟨b2, k2⟩ := blk'.set 6 v'
  exact ⟨blk', h.turn F k hS see' hB k2 b2⟩
theorem Spo.appR {w0 w wl w' : World} {X N b : Nat} {x : Rcd} {Vx : RV} {v v' : Value} {xs : List (RV × Rcd)} {new : List RowR} (h : Spo w0 w X x Vx v N xs) (O : OwnR b w Vx x) (F : Frs b X Vx v xs) (kl : Kept [] w wl) (o' : Row w' b 5 v' (x.rows.length + new.length) (rcells x.rows ++ rcells new)) (g : Kept Vx.vr.ownBlock.toList wl w') : Blk w' X 26 (x.cl Vx) ∧ Spo w0 (w'.setCell ⟨X, 9, none⟩ v') X (⟨x.kind, x.birth, x.prev, x.id, x.page, x.frm, x.before, x.after, x.next, x.rows ++ new, x.dirty⟩ : Rcd) (⟨Vx.vb, Vx.va, v', Vx.vd⟩ : RV) v N xs := by
  have k : Kept Vx.vr.ownBlock.toList w w' := ((Kept.refl Vx.vr.ownBlock.toList w).then kl).trans g (fun y hy => .inl hy)
  have hS : ∀ s ∈ Vx.vr.ownBlock.toList, b ≤ s := fun s hs => F.own s (.inr (.inr (.inl (by simpa using hs))))
  have blk' := h.blk.kept k fun hm => by have := hS X hm; have := F.blk; omega
  have see' : SeeR w' (⟨Vx.vb, Vx.va, v', Vx.vd⟩ : RV) (⟨x.kind, x.birth, x.prev, x.id, x.page, x.frm, x.before, x.after, x.next, x.rows ++ new, x.dirty⟩ : Rcd) := ⟨h.see.before.keptS k (fun y hy hm => O.br y hy (by simpa using hm)), h.see.after.keptS k (fun y hy hm => O.ar y hy (by simpa using hm)), (by have q := o'.cs; rw [← rcells_append] at q; rw [List.length_append]; exact q), h.see.dirty.keptS k (fun y hy hm => O.rd y (by simpa using hm) hy)⟩
  have hB : ∀ y, hasB (⟨Vx.vb, Vx.va, v', Vx.vd⟩ : RV) y → b ≤ y ∧ y < w'.heap.size := fun y hy => by
    have hs := k.size
    rcases hy with q | q | q | q
    · exact ⟨F.own y (.inl q), by have := (h.sepx y (.inl q)).2.2; omega⟩
    · exact ⟨F.own y (.inr (.inl q)), by have := (h.sepx y (.inr (.inl q))).2.2; omega⟩
    · exact ⟨(o'.lt y q).1, (o'.lt y q).2⟩
    · exact ⟨F.own y (.inr (.inr (.inr q))), by have := (h.sepx y (.inr (.inr (.inr q)))).2.2; omega⟩
  obtain ⟨b2, k2⟩ := blk'.set 9 v'
  exact ⟨blk', h.turn F k hS see' hB k2 b2⟩
theorem Spo.appD {w0 w wl w' : World} {X N b : Nat} {x : Rcd} {Vx : RV} {v v' : Value} {xs : List (RV × Rcd)} {new : List RecR} (h : Spo w0 w X x Vx v N xs) (O : OwnR b w Vx x) (F : Frs b X Vx v xs) (kl : Kept [] w wl) (o' : Row w' b 2 v' (x.dirty.length + new.length) (dcells x.dirty ++ dcells new)) (g : Kept Vx.vd.ownBlock.toList wl w') : Blk w' X 26 (x.cl Vx) ∧ Spo w0 (w'.setCell ⟨X, 10, none⟩ v') X (⟨x.kind, x.birth, x.prev, x.id, x.page, x.frm, x.before, x.after, x.next, x.rows, x.dirty ++ new⟩ : Rcd) (⟨Vx.vb, Vx.va, Vx.vr, v'⟩ : RV) v N xs := by
  have k : Kept Vx.vd.ownBlock.toList w w' := ((Kept.refl Vx.vd.ownBlock.toList w).then kl).trans g (fun y hy => .inl hy)
  have hS : ∀ s ∈ Vx.vd.ownBlock.toList, b ≤ s := fun s hs => F.own s (.inr (.inr (.inr (by simpa using hs))))
  have blk' := h.blk.kept k fun hm => by have := hS X hm; have := F.blk; omega
  have see' : SeeR w' (⟨Vx.vb, Vx.va, Vx.vr, v'⟩ : RV) (⟨x.kind, x.birth, x.prev, x.id, x.page, x.frm, x.before, x.after, x.next, x.rows, x.dirty ++ new⟩ : Rcd) := ⟨h.see.before.keptS k (fun y hy hm => O.bd y hy (by simpa using hm)), h.see.after.keptS k (fun y hy hm => O.ad y hy (by simpa using hm)), h.see.rows.keptS k (fun y hy hm => O.rd y hy (by simpa using hm)), (by have q := o'.cs; rw [← dcells_append] at q; rw [List.length_append]; exact q)⟩
  have hB : ∀ y, hasB (⟨Vx.vb, Vx.va, Vx.vr, v'⟩ : RV) y → b ≤ y ∧ y < w'.heap.size := fun y hy => by
    have hs := k.size
    rcases hy with q | q | q | q
    · exact ⟨F.own y (.inl q), by have := (h.sepx y (.inl q)).2.2; omega⟩
    · exact ⟨F.own y (.inr (.inl q)), by have := (h.sepx y (.inr (.inl q))).2.2; omega⟩
    · exact ⟨F.own y (.inr (.inr (.inl q))), by have := (h.sepx y (.inr (.inr (.inl q)))).2.2; omega⟩
    · exact ⟨(o'.lt y q).1, (o'.lt y q).2⟩
  obtain ⟨b2, k2⟩ := blk'.set 10 v'
  exact ⟨blk', h.turn F k hS see' hB k2 b2⟩
theorem Spo.newA {w0 w w' : World} {X N b : Nat} {x : Rcd} {Vx : RV} {v v' : Value} {xs : List (RV × Rcd)} {l : List UInt8} (h : Spo w0 w X x Vx v N xs) (F : Frs b X Vx v xs) (k : Kept [] w w') (o' : w'.ownsRow b 5 1 v' l.length (u8s l)) : Blk w' X 26 (x.cl Vx) ∧ Spo w0 (w'.setCell ⟨X, 7, none⟩ v') X (⟨x.kind, x.birth, x.prev, x.id, x.page, x.frm, x.before, l, x.next, x.rows, x.dirty⟩ : Rcd) (⟨Vx.vb, v', Vx.vr, Vx.vd⟩ : RV) v N xs := by
  have blk' := h.blk.kept k (by simp)
  have s := h.see.kept k
  obtain ⟨b2, k2⟩ := blk'.set 7 v'
  have hs := k.size
  refine ⟨blk', h.turn (V' := ⟨Vx.vb, v', Vx.vr, Vx.vd⟩) (x' := ⟨x.kind, x.birth, x.prev, x.id, x.page, x.frm, x.before, l, x.next, x.rows, x.dirty⟩) F k (by simp) ⟨s.before, Bs.ofOwn o', s.rows, s.dirty⟩ (fun y hy => ?_) k2 b2⟩
  rcases hy with q | q | q | q
  · exact ⟨F.own y (.inl q), by have := (h.sepx y (.inl q)).2.2; omega⟩
  · exact ⟨own_ge o' y q, own_lt o' y q⟩
  · exact ⟨F.own y (.inr (.inr (.inl q))), by have := (h.sepx y (.inr (.inr (.inl q)))).2.2; omega⟩
  · exact ⟨F.own y (.inr (.inr (.inr q))), by have := (h.sepx y (.inr (.inr (.inr q)))).2.2; omega⟩
/-- a byte of Before, or of After, is written over -/
theorem Spo.pokeB {w0 w : World} {X N b g n c : Nat} {x : Rcd} {Vx : RV} {v : Value} {xs : List (RV × Rcd)} (h : Spo w0 w X x Vx v N xs) (O : OwnR b w Vx x) (F : Frs b X Vx v xs) (hv : Vx.vb = .slice (some ⟨g, 0, none⟩) x.before.length c) (j : Nat) (y : UInt8) : Spo w0 (w.setCell ⟨g, j, none⟩ (.int .u8 (y.toNat : Int))) X (⟨x.kind, x.birth, x.prev, x.id, x.page, x.frm, x.before.set j y, x.after, x.next, x.rows, x.dirty⟩ : Rcd) Vx v N xs := by
  have ob := O.before
  rw [hv] at ob
  obtain ⟨o2, k⟩ := set_own ob j y (y.toNat : Int) rfl
  have hg : Vx.vb.ownBlock = some g := by rw [hv]; rfl
  have hS : ∀ s ∈ [g], b ≤ s := fun s hs => by simp at hs; rw [hs]; exact F.own g (.inl hg)
  have blk' := h.blk.kept k fun hm => by have := hS X hm; have := F.blk; omega
  have hs := k.size
  refine h.turn (V' := Vx) (x' := ⟨x.kind, x.birth, x.prev, x.id, x.page, x.frm, x.before.set j y, x.after, x.next, x.rows, x.dirty⟩) F k hS ⟨by rw [hv]; exact bs_own9 o2 (by rw [List.length_set]), h.see.after.keptS k (fun z hz hm => O.ba g hg (by simp at hm; rw [← hm]; exact hz)), h.see.rows.keptS k (fun z hz hm => O.br g hg (by simp at hm; rw [← hm]; exact hz)), h.see.dirty.keptS k (fun z hz hm => O.bd g hg (by simp at hm; rw [← hm]; exact hz))⟩ (fun z hz => ⟨F.own z hz, by have := (h.sepx z hz).2.2; omega⟩) (Kept.refl [X] _) blk'
theorem Spo.pokeA {w0 w : World} {X N b g n c : Nat} {x : Rcd} {Vx : RV} {v : Value} {xs : List (RV × Rcd)} (h : Spo w0 w X x Vx v N xs) (O : OwnR b w Vx x) (F : Frs b X Vx v xs) (hv : Vx.va = .slice (some ⟨g, 0, none⟩) x.after.length c) (j : Nat) (y : UInt8) : Spo w0 (w.setCell ⟨g, j, none⟩ (.int .u8 (y.toNat : Int))) X (⟨x.kind, x.birth, x.prev, x.id, x.page, x.frm, x.before, x.after.set j y, x.next, x.rows, x.dirty⟩ : Rcd) Vx v N xs := by
  have ob := O.after
  rw [hv] at ob
  obtain ⟨o2, k⟩ := set_own ob j y (y.toNat : Int) rfl
  have hg : Vx.va.ownBlock = some g := by rw [hv]; rfl
  have hS : ∀ s ∈ [g], b ≤ s := fun s hs => by simp at hs; rw [hs]; exact F.own g (.inr (.inl hg))
  have blk' := h.blk.kept k fun hm => by have := hS X hm; have := F.blk; omega
  have hs := k.size
  refine h.turn (V' := Vx) (x' := ⟨x.kind, x.birth, x.prev, x.id, x.page, x.frm, x.before, x.after.set j y, x.next, x.rows, x.dirty⟩) F k hS ⟨h.see.before.keptS k (fun z hz hm => O.ba z hz (by simp at hm; rw [hm]; exact hg)), by rw [hv]; exact bs_own9 o2 (by rw [List.length_set]), h.see.rows.keptS k (fun z hz hm => O.ar g hg (by simp at hm; rw [← hm]; exact hz)), h.see.dirty.keptS k (fun z hz hm => O.ad g hg (by simp at hm; rw [← hm]; exact hz))⟩ (fun z hz => ⟨F.own z hz, by have := (h.sepx z hz).2.2; omega⟩) (Kept.refl [X] _) blk'

theorem Spo.then {w0 w w' : World} {X N : Nat} {x : Rcd} {Vx : RV} {v : Value} {xs : List (RV × Rcd)} (h : Spo w0 w X x Vx v N xs) (k : Kept [] w w') : Spo w0 w' X x Vx v N xs :=
  ⟨h.blk.kept k (by simp), h.see.kept k, h.len, h.row.kept k (by simp), fun p hp => ⟨(h.all p hp).1.kept k, (h.all p hp).2⟩, fun p hp y hy => ⟨(h.sep p hp y hy).1, (h.sep p hp y hy).2.1, Nat.lt_of_lt_of_le (h.sep p hp y hy).2.2 k.size⟩, fun y hy => ⟨(h.sepx y hy).1, (h.sepx y hy).2.1, Nat.lt_of_lt_of_le (h.sepx y hy).2.2 k.size⟩, h.sepv, h.kept.then k, h.lo⟩
end Go.Proofs.Ytebcmcmboomgfaa

/-
  OWN WORK (by mklwd.py). The law: tables.
-/
namespace Go.Proofs.Ytebcmcmboomgfaa
open Go.RowKit
set_option linter.unusedVariables false
set_option linter.unusedSimpArgs false

theorem Tb.out {w0 w : World} {base : Nat} {oa ob oc od : Value} {n d ka kb kc kd : Nat} (h : Tb w0 w base oa ob oc od n d ka kb kc kd) {y : Nat} (hy : w.heap.size ≤ y) : y ∉ (oa.ownBlock.toList ++ (ob.ownBlock.toList ++ (oc.ownBlock.toList ++ od.ownBlock.toList))) := by
  intro hm
  simp only [List.mem_append, Option.mem_toList] at hm
  rcases hm with q | q | q | q
  · have := (h.a.lo q).2; omega
  · have := (h.b.lo q).2; omega
  · have := (h.c.lo q).2; omega
  · have := (h.d.lo q).2; omega
theorem Tb.base {w0 w : World} {base : Nat} {oa ob oc od : Value} {n d ka kb kc kd : Nat} (h : Tb w0 w base oa ob oc od n d ka kb kc kd) : Tb w w base oa ob oc od n d ka kb kc kd := ⟨h.a, h.b, h.c, h.d, h.ab, h.ac, h.ad, h.bc, h.bd, h.cd, Kept.refl _ _⟩
set_option maxRecDepth 20000 in
set_option maxHeartbeats 12800000 in
theorem tables_any (Va Vb : RV) (xa xb : Rcd) (n d base : Nat) (w : World) (hb : base ≤ w.heap.size) {ua ub : World} (sa : SeeR ua Va xa) (sb : SeeR ub Vb xb) (hna : xa.rows.length = n) (hnb : xb.rows.length = n) (hda : xa.dirty.length = d) (hdb : xb.dirty.length = d) (hcap : n ≤ 8 ∧ d ≤ 16) (T : Tb w w base Va.vr Vb.vr Va.vd Vb.vd n d 0 0 0 0) : Calls Try.prog 19 #[xa.agg Va, xb.agg Vb] w fun e w' => e = .returned (.bool true) ∧ Kept (Va.vr.ownBlock.toList ++ (Vb.vr.ownBlock.toList ++ (Va.vd.ownBlock.toList ++ Vb.vd.ownBlock.toList))) w w' := by
  have HC := @hideH _ hcap
  clear hcap
  obtain ⟨inf, hin1, hin2, hin3, hin4⟩ := info_parts3 (show (Try.prog.info? 66).map (fun i => (i.zero, i.size, i.bytes)) = some (some (.agg #[.int .i64 0, .int .i64 0, .int .i64 0, .int .i64 0, .int .i64 0]), 5, 40) by kernel_rfl)
  have HI := @hideH _ (And.intro hin1 (And.intro hin2 (And.intro hin3 hin4)))
  obtain ⟨inf2, hjn1, hjn2, hjn3, hjn4⟩ := info_parts3 (show (Try.prog.info? 68).map (fun i => (i.zero, i.size, i.bytes)) = some (some (.agg #[.int .i64 0, .int .i64 0]), 2, 16) by kernel_rfl)
  have HI2 := @hideH _ (And.intro hjn1 (And.intro hjn2 (And.intro hjn3 hjn4)))
  clear hin1 hin2 hin3 hin4 hjn1 hjn2 hjn3 hjn4
  obtain ⟨pba, cba, paa, caa, pra, cra, pda, cda, hVa⟩ := sa.shapes
  subst hVa
  obtain ⟨pbb, cbb, pab, cab, prb, crb, pdb, cdb, hVb⟩ := sb.shapes
  subst hVb
  dsimp only at T ⊢
  rw [hna, hda, hnb, hdb] at T
  unfold Rcd.agg
  dsimp only
  rw [hna, hda, hnb, hdb]
  clear sa sb
  obtain ⟨w1, hw1⟩ : ∃ wx, wx = w.alloc (.cells #[.int .i64 xa.kind, .int .i64 xa.birth, .int .i64 xa.prev, .int .i64 xa.id, .int .i64 xa.page, .int .i64 xa.frm, .slice pba xa.before.length cba, .slice paa xa.after.length caa, .int .i64 xa.next, .slice pra n cra, .slice pda d cda] 26) := ⟨_, rfl⟩
  have k1 : Kept [] w w1 := by rw [hw1]; exact (Kept.refl [] w).alloc _
  have Ba : Blk w1 w.heap.size 26 [.int .i64 xa.kind, .int .i64 xa.birth, .int .i64 xa.prev, .int .i64 xa.id, .int .i64 xa.page, .int .i64 xa.frm, .slice pba xa.before.length cba, .slice paa xa.after.length caa, .int .i64 xa.next, .slice pra n cra, .slice pda d cda] := by rw [hw1]; exact Blk.new w _ _
  obtain ⟨w2, hw2⟩ : ∃ wx, wx = w1.alloc (.cells #[.int .i64 xb.kind, .int .i64 xb.birth, .int .i64 xb.prev, .int .i64 xb.id, .int .i64 xb.page, .int .i64 xb.frm, .slice pbb xb.before.length cbb, .slice pab xb.after.length cab, .int .i64 xb.next, .slice prb n crb, .slice pdb d cdb] 26) := ⟨_, rfl⟩
  have k2 : Kept [] w1 w2 := by rw [hw2]; exact (Kept.refl [] w1).alloc _
  have Bb : Blk w2 w1.heap.size 26 [.int .i64 xb.kind, .int .i64 xb.birth, .int .i64 xb.prev, .int .i64 xb.id, .int .i64 xb.page, .int .i64 xb.frm, .slice pbb xb.before.length cbb, .slice pab xb.after.length cab, .int .i64 xb.next, .slice prb n crb, .slice pdb d cdb] := by rw [hw2]; exact Blk.new w1 _ _
  have o1 := T.out (Nat.le_refl _)
  have o2 := T.out (y := w1.heap.size) k1.size
  have e1 : w1.heap.size = w.heap.size + 1 := by rw [hw1, World.size_alloc]
  rw [e1] at Bb o2
  clear e1
  have T2 := ((T.then k1).then k2).base
  have K2 := @hideH _ (k1.then k2)
  have HB := @hideH _ (Nat.le_trans hb (k1.then k2).size)
  have HA := @hideH _ (And.intro (Ba.kept k2 (by simp)) o1)
  have HBB := @hideH _ (And.intro Bb o2)
  clear k1 k2 Ba Bb o1 o2 T hna hnb hda hdb hb
  go_enter Try.func19, Try.ntmps19
  go_upto_region 1 with fail
  rw [← hw1, ← hw2]
  clear hw1 hw2
  go_wp2
  go_loopw [5] (fun vi wr => ∃ k : Nat, k ≤ n ∧ vi = .int .i64 k ∧ Hid (Tb w2 wr base (.slice pra n cra) (.slice prb n crb) (.slice pda d cda) (.slice pdb d cdb) n d k k 0 0)) (fun vi _ => n - (intOf vi).toNat)
  case atStart => exact ⟨0, Nat.zero_le _, rfl, T2⟩
  case round =>
    clear T2
    obtain ⟨k, hk, rfl, hh⟩ := hrel
    have z9 := hh.out.kept.cell (HA.out.1.cell (j := 9) rfl) HA.out.2
    by_cases hkl : k < n
    · have hkl' : (k : Int) < (n : Int) := by omega
      have hk0 : (0 : Int) ≤ (k : Int) := by omega
      have wk : IntKind.i64.wrap ((k : Int) + 1) = (k : Int) + 1 := wrap_i64_of (by omega) (by have := HC.out; omega)
      have n0 : 0 < n := by omega
      obtain ⟨gA, cA, eA, hcA, hfA, -⟩ := hh.out.a.place n0
      cases eA
      obtain ⟨u0, cu0⟩ := hcA (k * 5) (by omega)
      obtain ⟨u1, cu1⟩ := hcA (k * 5 + 1) (by omega)
      obtain ⟨u2, cu2⟩ := hcA (k * 5 + 2) (by omega)
      obtain ⟨u3, cu3⟩ := hcA (k * 5 + 3) (by omega)
      obtain ⟨u4, cu4⟩ := hcA (k * 5 + 4) (by omega)
      have fu0 := hfA (k * 5) (by omega)
      have fu1 := hfA (k * 5 + 1) (by omega)
      have fu2 := hfA (k * 5 + 2) (by omega)
      have fu3 := hfA (k * 5 + 3) (by omega)
      have fu4 := hfA (k * 5 + 4) (by omega)
      have T1 := hh.out.setA hkl
      obtain ⟨wA, hwA⟩ : ∃ wx, wx = (((((wr.setCell ⟨gA, k * 5, none⟩ (.int .i64 (-1))).setCell ⟨gA, k * 5 + 1, none⟩ (.int .i64 0)).setCell ⟨gA, k * 5 + 2, none⟩ (.int .i64 0)).setCell ⟨gA, k * 5 + 3, none⟩ (.int .i64 0)).setCell ⟨gA, k * 5 + 4, none⟩ (.int .i64 0)) := ⟨_, rfl⟩
      rw [← hwA] at T1
      clear hcA hfA
      go_upto_region 5 with fail
      rw [← hwA]
      clear hwA z9 cu0 fu0 cu1 fu1 cu2 fu2 cu3 fu3 cu4 fu4
      have y9 := T1.kept.cell (HBB.out.1.cell (j := 9) rfl) HBB.out.2
      obtain ⟨gB, cB, eB, hcB, hfB, -⟩ := T1.b.place n0
      cases eB
      obtain ⟨u0, cu0⟩ := hcB (k * 5) (by omega)
      obtain ⟨u1, cu1⟩ := hcB (k * 5 + 1) (by omega)
      obtain ⟨u2, cu2⟩ := hcB (k * 5 + 2) (by omega)
      obtain ⟨u3, cu3⟩ := hcB (k * 5 + 3) (by omega)
      obtain ⟨u4, cu4⟩ := hcB (k * 5 + 4) (by omega)
      have fu0 := hfB (k * 5) (by omega)
      have fu1 := hfB (k * 5 + 1) (by omega)
      have fu2 := hfB (k * 5 + 2) (by omega)
      have fu3 := hfB (k * 5 + 3) (by omega)
      have fu4 := hfB (k * 5 + 4) (by omega)
      have TT := T1.setB hkl
      obtain ⟨wB, hwB⟩ : ∃ wx, wx = (((((wA.setCell ⟨gB, k * 5, none⟩ (.int .i64 (-2))).setCell ⟨gB, k * 5 + 1, none⟩ (.int .i64 0)).setCell ⟨gB, k * 5 + 2, none⟩ (.int .i64 0)).setCell ⟨gB, k * 5 + 3, none⟩ (.int .i64 0)).setCell ⟨gB, k * 5 + 4, none⟩ (.int .i64 0)) := ⟨_, rfl⟩
      rw [← hwB] at TT
      clear hcB hfB T1 hh
      go_upto_region 3 with fail
      rw [← hwB]
      clear hwB y9 cu0 fu0 cu1 fu1 cu2 fu2 cu3 fu3 cu4 fu4
      go_wp2
      go_roundw
      case rel => exact ⟨k + 1, by omega, by go_num, TT⟩
      case measure => simp [intOf]; omega
    · have hkl' : ¬ (k : Int) < (n : Int) := by omega
      obtain rfl : n = k := by omega
      go_wp2
      go_loopw [6] (fun vi wr => ∃ k : Nat, k ≤ d ∧ vi = .int .i64 k ∧ Hid (Tb w2 wr base (.slice pra n cra) (.slice prb n crb) (.slice pda d cda) (.slice pdb d cdb) n d n n k k)) (fun vi _ => d - (intOf vi).toNat)
      case atStart => exact ⟨0, Nat.zero_le _, rfl, hh.out⟩
      case round =>
        clear hh
        obtain ⟨k, hk, rfl, hh⟩ := hrel
        have z9 := hh.out.kept.cell (HA.out.1.cell (j := 10) rfl) HA.out.2
        by_cases hkl : k < d
        · have hkl' : (k : Int) < (d : Int) := by omega
          have hk0 : (0 : Int) ≤ (k : Int) := by omega
          have wk : IntKind.i64.wrap ((k : Int) + 1) = (k : Int) + 1 := wrap_i64_of (by omega) (by have := HC.out; omega)
          have n0 : 0 < d := by omega
          obtain ⟨gA, cA, eA, hcA, hfA, -⟩ := hh.out.c.place n0
          cases eA
          obtain ⟨u0, cu0⟩ := hcA (k * 2) (by omega)
          obtain ⟨u1, cu1⟩ := hcA (k * 2 + 1) (by omega)
          have fu0 := hfA (k * 2) (by omega)
          have fu1 := hfA (k * 2 + 1) (by omega)
          have T1 := hh.out.setC hkl
          obtain ⟨wA, hwA⟩ : ∃ wx, wx = ((wr.setCell ⟨gA, k * 2, none⟩ (.int .i64 (-1))).setCell ⟨gA, k * 2 + 1, none⟩ (.int .i64 0)) := ⟨_, rfl⟩
          rw [← hwA] at T1
          clear hcA hfA
          go_upto_region 10 with fail
          rw [← hwA]
          clear hwA z9 cu0 fu0 cu1 fu1
          have y9 := T1.kept.cell (HBB.out.1.cell (j := 10) rfl) HBB.out.2
          obtain ⟨gB, cB, eB, hcB, hfB, -⟩ := T1.d.place n0
          cases eB
          obtain ⟨u0, cu0⟩ := hcB (k * 2) (by omega)
          obtain ⟨u1, cu1⟩ := hcB (k * 2 + 1) (by omega)
          have fu0 := hfB (k * 2) (by omega)
          have fu1 := hfB (k * 2 + 1) (by omega)
          have TT := T1.setD hkl
          obtain ⟨wB, hwB⟩ : ∃ wx, wx = ((wA.setCell ⟨gB, k * 2, none⟩ (.int .i64 (-2))).setCell ⟨gB, k * 2 + 1, none⟩ (.int .i64 0)) := ⟨_, rfl⟩
          rw [← hwB] at TT
          clear hcB hfB T1 hh
          go_upto_region 8 with fail
          rw [← hwB]
          clear hwB y9 cu0 fu0 cu1 fu1
          go_wp2
          go_roundw
          case rel => exact ⟨k + 1, by omega, by go_num, TT⟩
          case measure => simp [intOf]; omega
        · have hkl' : ¬ (k : Int) < (d : Int) := by omega
          obtain rfl : d = k := by omega
          clear z9
          have za9 := hh.out.kept.cell (HA.out.1.cell (j := 9) rfl) HA.out.2
          have za10 := hh.out.kept.cell (HA.out.1.cell (j := 10) rfl) HA.out.2
          have zb9 := hh.out.kept.cell (HBB.out.1.cell (j := 9) rfl) HBB.out.2
          have zb10 := hh.out.kept.cell (HBB.out.1.cell (j := 10) rfl) HBB.out.2
          have A0 := @hideH _ (Tab.start hh.out)
          clear hh
          go_wp2
          clear za9 za10 zb9 zb10
          go_loopw [7, 9, 11] (fun vx vy vi wr => ∃ k : Nat, k ≤ 40 ∧ vi = .int .i64 k ∧ Hid (Tab w2 wr base (.slice pra n cra) vx (.slice prb n crb) (.slice prb n crb) (.slice pda d cda) vy (.slice pdb d cdb) (.slice pdb d cdb) n d (n + k) n (d + k) d)) (fun _ _ vi _ => 40 - (intOf vi).toNat)
          case atStart => exact ⟨0, by omega, rfl, A0.out⟩
          case round =>
            clear A0
            obtain ⟨k, hk, rfl, hh⟩ := hrel
            by_cases hkl : k < 40
            · have hkl' : (k : Int) < 40 := by omega
              have wk : IntKind.i64.wrap ((k : Int) + 1) = (k : Int) + 1 := wrap_i64_of (by omega) (by omega)
              obtain ⟨csa, hra, hma⟩ := hh.out.a.row
              have hsrca := src_gen (P := Try.prog) wr 23 66 5 1 Try.underlying23 [.int .i64 (-1), .int .i64 0, .int .i64 0, .int .i64 0, .int .i64 0] rfl (rcells_one [(⟨(-1), 0, 0, 0, 0⟩ : RowR)])
              have kla : Kept [] wr (wr.alloc (.cells #[.int .i64 (-1), .int .i64 0, .int .i64 0, .int .i64 0, .int .i64 0] 66)) := (Kept.refl [] wr).alloc _
              go_upto_region 19 with (at_builtin; refine wpList_append_row2 rfl (.tmp 61) (.tmp 63) 23 rfl base 66 inf (.agg #[.int .i64 0, .int .i64 0, .int .i64 0, .int .i64 0, .int .i64 0]) 5 40 Try.underlying23 HI.out.1 HI.out.2.1 HI.out.2.2.1 HI.out.2.2.2 rfl _ (n + k) csa (by rfl) (hra.kept kla (by simp)) _ 1 [.int .i64 (-1), .int .i64 0, .int .i64 0, .int .i64 0, .int .i64 0] (by rfl) hsrca (by have := HC.out; omega) (by have := HC.out; unfold maxLen; omega) (by have := HC.out; omega) (by have := HB.out; have := hh.out.kept.size; rw [World.size_alloc]; omega) ?_; intro va wA ra ka ata; have Ta := hh.out.appA hra hma (news := [.int .i64 (-1), .int .i64 0, .int .i64 0, .int .i64 0, .int .i64 0]) rfl kla ra ka ata)
              clear hsrca kla hra hma ra ka ata
              clear hh
              obtain ⟨csc, hrc, hmc⟩ := Ta.c.row
              have hsrcc := src_gen (P := Try.prog) wA 24 68 2 1 Try.underlying24 [.int .i64 (-1), .int .i64 0] rfl (dcells_one [(⟨(-1), 0⟩ : RecR)])
              have klc : Kept [] wA (wA.alloc (.cells #[.int .i64 (-1), .int .i64 0] 68)) := (Kept.refl [] wA).alloc _
              go_upto_region 17 with (at_builtin; refine wpList_append_row2 rfl (.tmp 65) (.tmp 67) 24 rfl base 68 inf2 (.agg #[.int .i64 0, .int .i64 0]) 2 16 Try.underlying24 HI2.out.1 HI2.out.2.1 HI2.out.2.2.1 HI2.out.2.2.2 rfl _ (d + k) csc (by rfl) (hrc.kept klc (by simp)) _ 1 [.int .i64 (-1), .int .i64 0] (by rfl) hsrcc (by have := HC.out; omega) (by have := HC.out; unfold maxLen; omega) (by have := HC.out; omega) (by have := HB.out; have := Ta.kept.size; rw [World.size_alloc]; omega) ?_; intro vc wB rc kc atc; have Tc := Ta.appC hrc hmc (news := [.int .i64 (-1), .int .i64 0]) rfl klc rc kc atc)
              clear hsrcc klc hrc hmc rc kc atc
              go_wp2
              go_roundw
              case rel => exact ⟨k + 1, by omega, by go_num, Tc⟩
              case measure => simp [intOf]; omega
            · have hkl' : ¬ (k : Int) < 40 := by omega
              obtain rfl : k = 40 := by omega
              obtain ⟨p7, c7, e7, -⟩ := (hh.out.a.row).choose_spec.1.shape
              subst e7
              obtain ⟨p9, c9, e9, -⟩ := (hh.out.c.row).choose_spec.1.shape
              subst e9
              have A1 := @hideH _ hh.out
              clear hh
              go_wp2
              go_loopw [8, 10, 12] (fun vx vy vi wr => ∃ k : Nat, k ≤ 40 ∧ vi = .int .i64 k ∧ Hid (Tab w2 wr base (.slice pra n cra) (.slice p7 (n + 40) c7) (.slice prb n crb) vx (.slice pda d cda) (.slice p9 (d + 40) c9) (.slice pdb d cdb) vy n d (n + 40) (n + k) (d + 40) (d + k))) (fun _ _ vi _ => 40 - (intOf vi).toNat)
              case atStart => exact ⟨0, by omega, rfl, A1.out⟩
              case round =>
                clear A1
                obtain ⟨k, hk, rfl, hh⟩ := hrel
                by_cases hkl : k < 40
                · have hkl' : (k : Int) < 40 := by omega
                  have wk : IntKind.i64.wrap ((k : Int) + 1) = (k : Int) + 1 := wrap_i64_of (by omega) (by omega)
                  obtain ⟨csb, hrb, hmb⟩ := hh.out.b.row
                  have hsrcb := src_gen (P := Try.prog) wr 23 66 5 1 Try.underlying23 [.int .i64 (-2), .int .i64 0, .int .i64 0, .int .i64 0, .int .i64 0] rfl (rcells_one [(⟨(-2), 0, 0, 0, 0⟩ : RowR)])
                  have klb : Kept [] wr (wr.alloc (.cells #[.int .i64 (-2), .int .i64 0, .int .i64 0, .int .i64 0, .int .i64 0] 66)) := (Kept.refl [] wr).alloc _
                  go_upto_region 24 with (at_builtin; refine wpList_append_row2 rfl (.tmp 73) (.tmp 75) 23 rfl base 66 inf (.agg #[.int .i64 0, .int .i64 0, .int .i64 0, .int .i64 0, .int .i64 0]) 5 40 Try.underlying23 HI.out.1 HI.out.2.1 HI.out.2.2.1 HI.out.2.2.2 rfl _ (n + k) csb (by rfl) (hrb.kept klb (by simp)) _ 1 [.int .i64 (-2), .int .i64 0, .int .i64 0, .int .i64 0, .int .i64 0] (by rfl) hsrcb (by have := HC.out; omega) (by have := HC.out; unfold maxLen; omega) (by have := HC.out; omega) (by have := HB.out; have := hh.out.kept.size; rw [World.size_alloc]; omega) ?_; intro vb wA rb kb atb; have Tb := hh.out.appB hrb hmb (news := [.int .i64 (-2), .int .i64 0, .int .i64 0, .int .i64 0, .int .i64 0]) rfl klb rb kb atb)
                  clear hsrcb klb hrb hmb rb kb atb
                  clear hh
                  obtain ⟨csd, hrd, hmd⟩ := Tb.d.row
                  have hsrcd := src_gen (P := Try.prog) wA 24 68 2 1 Try.underlying24 [.int .i64 (-2), .int .i64 0] rfl (dcells_one [(⟨(-2), 0⟩ : RecR)])
                  have kld : Kept [] wA (wA.alloc (.cells #[.int .i64 (-2), .int .i64 0] 68)) := (Kept.refl [] wA).alloc _
                  go_upto_region 22 with (at_builtin; refine wpList_append_row2 rfl (.tmp 77) (.tmp 79) 24 rfl base 68 inf2 (.agg #[.int .i64 0, .int .i64 0]) 2 16 Try.underlying24 HI2.out.1 HI2.out.2.1 HI2.out.2.2.1 HI2.out.2.2.2 rfl _ (d + k) csd (by rfl) (hrd.kept kld (by simp)) _ 1 [.int .i64 (-2), .int .i64 0] (by rfl) hsrcd (by have := HC.out; omega) (by have := HC.out; unfold maxLen; omega) (by have := HC.out; omega) (by have := HB.out; have := Tb.kept.size; rw [World.size_alloc]; omega) ?_; intro vd wB rd kd atd; have Td := Tb.appD hrd hmd (news := [.int .i64 (-2), .int .i64 0]) rfl kld rd kd atd)
                  clear hsrcd kld hrd hmd rd kd atd
                  go_wp2
                  go_roundw
                  case rel => exact ⟨k + 1, by omega, by go_num, Td⟩
                  case measure => simp [intOf]; omega
                · have hkl' : ¬ (k : Int) < 40 := by omega
                  obtain rfl : k = 40 := by omega
                  obtain ⟨p8, c8, e8, -⟩ := (hh.out.b.row).choose_spec.1.shape
                  subst e8
                  obtain ⟨p10, c10, e10, -⟩ := (hh.out.d.row).choose_spec.1.shape
                  subst e10
                  have A2 := @hideH _ hh.out
                  clear hh
                  go_wp2
                  go_loopw [13] (fun vi wr => ∃ k : Nat, k ≤ n + 40 ∧ vi = .int .i64 k ∧ Hid (Tab w2 wr base (.slice pra n cra) (.slice p7 (n + 40) c7) (.slice prb n crb) (.slice p8 (n + 40) c8) (.slice pda d cda) (.slice p9 (d + 40) c9) (.slice pdb d cdb) (.slice p10 (d + 40) c10) n d (n + 40) (n + 40) (d + 40) (d + 40))) (fun vi _ => n + 40 - (intOf vi).toNat)
                  case atStart => exact ⟨0, Nat.zero_le _, rfl, A2.out⟩
                  case round =>
                    clear A2
                    obtain ⟨k, hk, rfl, hh⟩ := hrel
                    by_cases hkl : k < n + 40
                    · have hkl' : (k : Int) < (n : Int) + 40 := by omega
                      have hk0 : (0 : Int) ≤ (k : Int) := by omega
                      have wk : IntKind.i64.wrap ((k : Int) + 1) = (k : Int) + 1 := wrap_i64_of (by omega) (by have := HC.out; omega)
                      have za := hh.out.kept.cell (HA.out.1.cell (j := 9) rfl) HA.out.2
                      have zb := hh.out.kept.cell (HBB.out.1.cell (j := 9) rfl) HBB.out.2
                      obtain ⟨gx, cx, ex, -, -, mx⟩ := hh.out.a.row.place (by omega)
                      cases ex
                      have xx := mx k hkl
                      obtain ⟨gy, cy, ey, -, -, my⟩ := hh.out.b.row.place (by omega)
                      cases ey
                      have xy := my k hkl
                      clear mx my
                      by_cases hkn : k < n
                      · have hkn' : (k : Int) < (n : Int) := by omega
                        obtain ⟨pq, cq, eq, hq⟩ := hh.out.a.orig
                        cases eq
                        obtain ⟨g1, e1, m1⟩ := hq (by omega)
                        subst e1
                        have x1 := m1 k hkn
                        obtain ⟨pq2, cq2, eq2, hq2⟩ := hh.out.b.orig
                        cases eq2
                        obtain ⟨g2, e2, m2⟩ := hq2 (by omega)
                        subst e2
                        have x2 := m2 k hkn
                        clear hq hq2 m1 m2
                        have HK := @hideH _ hh.out
                        clear hh
                        go_wp2
                        go_roundw
                        case rel => exact ⟨k + 1, by omega, by go_num, HK.out⟩
                        case measure => simp [intOf]; omega
                      · have hkn' : ¬ (k : Int) < (n : Int) := by omega
                        have HK := @hideH _ hh.out
                        clear hh
                        go_wp2
                        go_roundw
                        case rel => exact ⟨k + 1, by omega, by go_num, HK.out⟩
                        case measure => simp [intOf]; omega
                    · have hkl' : ¬ (k : Int) < (n : Int) + 40 := by omega
                      obtain rfl : k = n + 40 := by omega
                      have A3 := @hideH _ hh.out
                      clear hh
                      go_wp2
                      go_loopw [14] (fun vi wr => ∃ k : Nat, k ≤ d + 40 ∧ vi = .int .i64 k ∧ Hid (Tab w2 wr base (.slice pra n cra) (.slice p7 (n + 40) c7) (.slice prb n crb) (.slice p8 (n + 40) c8) (.slice pda d cda) (.slice p9 (d + 40) c9) (.slice pdb d cdb) (.slice p10 (d + 40) c10) n d (n + 40) (n + 40) (d + 40) (d + 40))) (fun vi _ => d + 40 - (intOf vi).toNat)
                      case atStart => exact ⟨0, Nat.zero_le _, rfl, A3.out⟩
                      case round =>
                        clear A3
                        obtain ⟨k, hk, rfl, hh⟩ := hrel
                        by_cases hkl : k < d + 40
                        · have hkl' : (k : Int) < (d : Int) + 40 := by omega
                          have hk0 : (0 : Int) ≤ (k : Int) := by omega
                          have wk : IntKind.i64.wrap ((k : Int) + 1) = (k : Int) + 1 := wrap_i64_of (by omega) (by have := HC.out; omega)
                          have za := hh.out.kept.cell (HA.out.1.cell (j := 10) rfl) HA.out.2
                          have zb := hh.out.kept.cell (HBB.out.1.cell (j := 10) rfl) HBB.out.2
                          obtain ⟨gx, cx, ex, -, -, mx⟩ := hh.out.c.row.place (by omega)
                          cases ex
                          have xx := mx k hkl
                          obtain ⟨gy, cy, ey, -, -, my⟩ := hh.out.d.row.place (by omega)
                          cases ey
                          have xy := my k hkl
                          clear mx my
                          by_cases hkn : k < d
                          · have hkn' : (k : Int) < (d : Int) := by omega
                            obtain ⟨pq, cq, eq, hq⟩ := hh.out.c.orig
                            cases eq
                            obtain ⟨g1, e1, m1⟩ := hq (by omega)
                            subst e1
                            have x1 := m1 k hkn
                            obtain ⟨pq2, cq2, eq2, hq2⟩ := hh.out.d.orig
                            cases eq2
                            obtain ⟨g2, e2, m2⟩ := hq2 (by omega)
                            subst e2
                            have x2 := m2 k hkn
                            clear hq hq2 m1 m2
                            have HK := @hideH _ hh.out
                            clear hh
                            go_wp2
                            go_roundw
                            case rel => exact ⟨k + 1, by omega, by go_num, HK.out⟩
                            case measure => simp [intOf]; omega
                          · have hkn' : ¬ (k : Int) < (d : Int) := by omega
                            have HK := @hideH _ hh.out
                            clear hh
                            go_wp2
                            go_roundw
                            case rel => exact ⟨k + 1, by omega, by go_num, HK.out⟩
                            case measure => simp [intOf]; omega
                        · have hkl' : ¬ (k : Int) < (d : Int) + 40 := by omega
                          obtain rfl : k = d + 40 := by omega
                          have KE := @hideH _ ((K2.out.mono (by simp)).trans hh.out.kept (fun x hx => .inl hx))
                          clear hh
                          go_wp2
                          go_ret
                          exact ⟨by simp, KE.out⟩
end Go.Proofs.Ytebcmcmboomgfaa

/-
  OWN WORK. tidemarklaw09.grown, full.
-/
namespace Go.Proofs.Ytebcmcmboomgfaa
open Go.RowKit
set_option linter.unusedVariables false

theorem byte_cell2 (w : World) (e : TypeId) (y : UInt8) : (w.alloc (.cells #[.int .u8 (y.toNat : Int)] e)).cell? ⟨w.heap.size, 0, none⟩ = some (.int .u8 (y.toNat : Int)) := byte_cell w e _ y rfl
set_option maxHeartbeats 1600000 in
theorem grown_m (v : Value) (n k base : Nat) (w : World) (ow : w.ownsRow base 5 1 v n (u8s (rep n k))) (hb : base ≤ w.heap.size) (hn : n ≤ 140737488355000) :
    Calls Try.prog 35 #[v, .int .u8 ((mk k).toNat : Int)] w fun e w' => ∃ v', e = .returned v' ∧ w'.ownsRow base 5 1 v' (n + 80) (u8s (rep (n + 80) k)) ∧ Bs w' v (rep n k) ∧ (v'.ownBlock = v.ownBlock ∨ ∃ y, v'.ownBlock = some y ∧ w.heap.size ≤ y) ∧ Kept v.ownBlock.toList w w' := by
  have bv := Bs.ofOwn ow
  obtain ⟨p, d, rfl⟩ := own_shape2 ow
  have hsh : ∃ p' d', Value.slice p n d = .slice p' n d' ∧ (p' = none ∧ n = 0 ∨ ∃ g, p' = some ⟨g, 0, none⟩ ∧ n ≤ d' ∧ d' ≤ maxLen) := by
    rcases ow.2 with ⟨h1, h2⟩ | ⟨g, cap', cur, h1, _, _, h3, h4, _⟩
    · exact ⟨_, _, rfl, .inl ⟨by simp at h1; exact h1.1, h2⟩⟩
    · exact ⟨_, _, rfl, .inr ⟨g, by simp at h1; exact h1.1, by simp at h1; omega, by simp at h1; omega⟩⟩
  have HSH : Hid (∃ p' d', Value.slice p n d = .slice p' n d' ∧ (p' = none ∧ n = 0 ∨ ∃ g, p' = some ⟨g, 0, none⟩ ∧ n ≤ d' ∧ d' ≤ maxLen)) := hsh
  have HVS : Hid (∀ x, (Value.slice p n d).ownBlock = some x → x < w.heap.size) := fun x hx => own_lt ow x hx
  have HN : Hid (n ≤ 140737488355000) := hn
  clear hsh hn
  go_enter Try.func35, Try.ntmps35
  go_wp2
  go_loopw [0, 5] (fun l i wr => ∃ i' : Nat, i' ≤ 80 ∧ i = .int .i64 i' ∧ wr.ownsRow base 5 1 l (n + i') (u8s (rep (n + i') k)) ∧ Bs wr (.slice p n d) (rep n k) ∧ (l.ownBlock = (Value.slice p n d).ownBlock ∨ ∃ y, l.ownBlock = some y ∧ w.heap.size ≤ y) ∧ Kept (Value.slice p n d).ownBlock.toList w wr) (fun _ i _ => 80 - (intOf i).toNat)
  case atStart => exact ⟨0, by decide, rfl, ow, bv, .inl rfl, Kept.refl _ _⟩
  case round =>
    clear ow bv
    obtain ⟨i, hi, rfl, ol, bl, lv, kl⟩ := hrel
    have hsz3 := kl.size
    by_cases hi80 : i < 80
    · go_wp2_with (at_builtin; refine wpList_append_byte rfl (.tmp 10) (.tmp 12) 22 rfl base 5 Try.underlying22 (by kernel_rfl) _ _ _ (by rfl) (ol.alloc _) ⟨wr.heap.size, 0, none⟩ 1 (mk k) (by rfl) (byte_cell2 wr 5 _) (by have := HN.out; omega) (by simp; omega) ?_; intro l2 w4 o4 g4 at4)
      obtain ⟨m1, m2, m3⟩ := mark_step (wr := wr) HSH.out (bl.kept ((Kept.refl [] wr).alloc _)) (Nat.le_add_right n i) (by simp; omega) lv (fun x hx => HVS.out x hx) o4 g4 at4
      have k4 : Kept (Value.slice p n d).ownBlock.toList w w4 := (kl.alloc _).grown g4 (fun x hx => by
        rcases lv with e | ⟨y, hy, hly⟩
        · left; rw [e] at hx; simp [hx]
        · right; rw [hy] at hx; simp at hx; omega)
      clear o4 g4 at4
      go_roundw
      case rel => exact ⟨i + 1, by omega, by go_num, m1, m2, m3, k4⟩
      case measure => simp [intOf]; omega
    · have ei : i = 80 := by omega
      subst ei
      go_wp2
      go_ret
      exact ⟨_, rfl, ol, bl, lv, kl⟩

set_option maxHeartbeats 1600000 in
theorem full_m (v : Value) (n k : Nat) (w : World) (bv : Bs w v (rep n k)) (hn : n ≤ 9223372036854775807) :
    Calls Try.prog 36 #[v, .int .u8 ((mk k).toNat : Int)] w fun e w' => e = .returned (.bool true) ∧ w' = w := by
  obtain ⟨p, d, rfl, -⟩ := id bv
  rw [rep_length] at *
  have HC : Hid (∀ i, i < n → ∃ b o, p = some ⟨b, o, none⟩ ∧ w.cell? ⟨b, o + i, none⟩ = some (.int .u8 ((mk k).toNat : Int))) := fun i hi => by
    obtain ⟨b, o, c, e, -, -, -, h⟩ := bv.pos (by rw [rep_length]; omega)
    have hx := h i (mk k) (rep_get hi)
    simp at e
    exact ⟨b, o, e.1, hx⟩
  clear bv
  go_enter Try.func36, Try.ntmps36
  go_wp2
  go_loop [5] (fun i => ∃ i' : Nat, i' ≤ n ∧ i = .int .i64 i') (fun i => n - (intOf i).toNat)
  case atStart => exact ⟨0, Nat.zero_le _, rfl⟩
  case round =>
    obtain ⟨i, hi, rfl⟩ := hrel
    by_cases hin : i < n
    · obtain ⟨b, o, rfl, hc⟩ := HC.out i hin
      go_wp2
      go_round
      case rel => exact ⟨i + 1, by omega, by go_num⟩
      case measure => simp [intOf]; omega
    · go_wp2
      go_ret
      exact ⟨rfl, rfl⟩
end Go.Proofs.Ytebcmcmboomgfaa

/-
  OWN WORK. tidemarklaw09.apart: true, of every family of rows that lie apart and hold what is wanted.
-/
namespace Go.Proofs.Ytebcmcmboomgfaa
open Go.RowKit
set_option linter.unusedVariables false

theorem kept_drewN9 (w : World) : ∀ q, Kept [] w (w.drewN q)
  | 0 => Kept.refl [] w
  | q + 1 => (kept_drewN9 w q).drew
theorem Bs.textN9 {w : World} {v : Value} {l : List UInt8} (h : Bs w v l) (q : Nat) : (Go.convert 22 9 v).run Try.prog (w.drewN q) = .ok (.string ⟨l.toArray⟩) (w.drewN q) := (h.kept (kept_drewN9 w q)).textR
theorem grown_z (v : Value) (n k base : Nat) (z : Int) (hz : z = ((mk k).toNat : Int)) (w : World) (ow : w.ownsRow base 5 1 v n (u8s (rep n k))) (hb : base ≤ w.heap.size) (hn : n ≤ 140737488355000) :
    Calls Try.prog 35 #[v, .int .u8 z] w fun e w' => ∃ v', e = .returned v' ∧ w'.ownsRow base 5 1 v' (n + 80) (u8s (rep (n + 80) k)) ∧ Bs w' v (rep n k) ∧ (v'.ownBlock = v.ownBlock ∨ ∃ y, v'.ownBlock = some y ∧ w.heap.size ≤ y) ∧ Kept v.ownBlock.toList w w' := by
  subst hz; exact grown_m v n k base w ow hb hn
theorem full_z (v : Value) (n k : Nat) (z : Int) (hz : z = ((mk k).toNat : Int)) (w : World) (bv : Bs w v (rep n k)) (hn : n ≤ 9223372036854775807) :
    Calls Try.prog 36 #[v, .int .u8 z] w fun e w' => e = .returned (.bool true) ∧ w' = w := by
  subst hz; exact full_m v n k w bv hn

set_option maxRecDepth 100000 in
set_option maxHeartbeats 8000000 in
theorem apart_any (G N cap Gw capw : Nat) (vs : List Value) (ls : List (List UInt8)) (base : Nat) (w : World) (hO : w.ownsRow base 22 1 (.slice (some ⟨G, 0, none⟩) N cap) N vs) (F : Fam w base vs ls)
    (hW : ∀ (j : Nat) l, ls[j]? = some l → w.cell? ⟨Gw, j, none⟩ = some (.string ⟨l.toArray⟩)) (hNl : ls.length = N) (hN : N ≤ 200) (hb : base ≤ w.heap.size) (hnn : ∀ j, nn ls j ≤ 140737488351232) :
    Calls Try.prog 18 #[.slice (some ⟨G, 0, none⟩) N cap, .slice (some ⟨Gw, 0, none⟩) N capw] w fun e w' => e = .returned (.bool true) ∧ Kept (blocks vs) w w' := by
  have hvl : vs.length = N := by rw [F.len, hNl]
  have hG8 : Not8 w G := own_not8 hO (by decide) G rfl
  have hGS : G ∉ blocks vs := fun h => (F.not8 h).1 hG8
  have hcell : ∀ (u : World), Kept (blocks vs) w u → ∀ (j : Nat) v, vs[j]? = some v → u.cell? ⟨G, j, none⟩ = some v := fun u hu j v hv => hu.cell (by
    have hj : j < N := by rw [← hvl]; exact (List.getElem?_eq_some_iff.1 hv).1
    rw [hO.cellAt j (by omega)]; exact hv) hGS
  have HC : Hid (∀ (u : World), Kept (blocks vs) w u → ∀ (j : Nat) v, vs[j]? = some v → u.cell? ⟨G, j, none⟩ = some v) := hcell
  have HNL : Hid (ls.length = N) := hNl
  have HVL : Hid (vs.length = N) := hvl
  have HNN : Hid (∀ j, nn ls j ≤ 140737488351232) := hnn
  have HW : Hid (∀ (j : Nat) l, ls[j]? = some l → w.cell? ⟨Gw, j, none⟩ = some (.string ⟨l.toArray⟩)) := hW
  clear hcell hNl hvl hnn hW
  go_enter Try.func18, Try.ntmps18
  go_wp2
  go_loopw [6] (fun i wr => ∃ k : Nat, k ≤ N ∧ i = .int .i64 k ∧ Kept [] w wr) (fun i _ => N - (intOf i).toNat)
  case atStart => exact ⟨0, Nat.zero_le _, rfl, Kept.refl _ _⟩
  case round =>
    obtain ⟨k, hk, rfl, kw⟩ := hrel
    by_cases hkN : k < N
    · obtain ⟨v, hv⟩ : ∃ v, vs[k]? = some v := ⟨_, List.getElem?_eq_getElem (by rw [HVL.out]; exact hkN)⟩
      obtain ⟨l, hl⟩ : ∃ l, ls[k]? = some l := ⟨_, List.getElem?_eq_getElem (by rw [HNL.out]; exact hkN)⟩
      have hc := HC.out wr (kw.mono (by simp)) k _ hv
      have hcw := kw.cell (HW.out k l hl) (by simp)
      have tv := ((F.bs k v l hv hl).kept kw).textN9
      have hkN' : (k : Int) < (N : Int) := by omega
      clear hv hl
      go_wp2
      go_quiet (fail)
      go_wp2
      go_roundw
      case rel => exact ⟨k + 1, by omega, by go_num, kw.drewN' _⟩
      case measure => simp [intOf]; omega
    · have F1 := F.kept kw (by simp)
      have kw0 : Kept (blocks vs) w wr := kw.mono (by simp)
      have hb1 : base ≤ wr.heap.size := Nat.le_trans hb kw.size
      clear kw F hk hO hG8 hGS
      go_wp2
      clear hkN
      generalize wr = w0 at *
      go_loopw [7, 8] (fun i _ wr => ∃ k : Nat, k ≤ N ∧ i = .int .i64 k ∧ Fam wr base vs (midl ls k) ∧ Kept (blocks vs) w wr) (fun i _ _ => N - (intOf i).toNat)
      case atStart => exact ⟨0, Nat.zero_le _, rfl, by rw [midl_zero]; exact F1, kw0⟩
      case round =>
        clear F1 kw0
        obtain ⟨k, hk, rfl, Fk, kw⟩ := hrel
        by_cases hkN : k < N
        · obtain ⟨v, hv⟩ : ∃ v, vs[k]? = some v := ⟨_, List.getElem?_eq_getElem (by rw [HVL.out]; exact hkN)⟩
          have hkl : k < ls.length := by rw [HNL.out]; exact hkN
          have hl := midl_get ls k k hkl
          rw [if_neg (by omega)] at hl
          have ow := Fk.own k v _ hv hl
          obtain ⟨p, d, rfl⟩ := own_shape2 ow
          obtain ⟨l, hle⟩ : ∃ l, l = ls.getD k [] := ⟨_, rfl⟩
          rw [← hle] at ow hv
          have hc := HC.out wr kw k _ hv
          have hbl : ∀ x, (Value.slice p l.length d).ownBlock = some x → x ∈ blocks vs := fun x hx => mem_blocks hv hx
          have hln : l.length ≤ 9223372036854775806 := by have := HNN.out k; rw [hle]; exact Nat.le_trans this (by omega)
          have HLE : Hid (l = ls.getD k []) := hle
          have HV : Hid (vs[k]? = some (Value.slice p l.length d)) := hv
          have HBL : Hid (∀ x, (Value.slice p l.length d).ownBlock = some x → x ∈ blocks vs) := hbl
          clear hle hv hl hbl hkl
          go_wp2
          generalize wr = w1 at *
          go_loopw [8] (fun i wr => ∃ i' : Nat, i' ≤ l.length ∧ i = .int .i64 i' ∧ wr.ownsRow base 5 1 (.slice p l.length d) l.length (u8s (part l i' k)) ∧ Kept (Value.slice p l.length d).ownBlock.toList w1 wr) (fun i _ => l.length - (intOf i).toNat)
          case atStart => exact ⟨0, Nat.zero_le _, rfl, by rw [part_zero]; exact ow, Kept.refl _ _⟩
          case round =>
            clear ow hc
            obtain ⟨i, hi, rfl, ow, kw1⟩ := hrel
            have kww : Kept (blocks vs) w wr := kw.trans kw1 (fun x hx => .inl (HBL.out x (by simpa using hx)))
            have hc := HC.out wr kww k _ HV.out
            by_cases hil : i < l.length
            · rcases id ow.2 with ⟨h0, hz⟩ | ⟨b1, cap', cur, e1, -⟩
              · omega
              · obtain ⟨rfl, rfl⟩ : p = some ⟨b1, 0, none⟩ ∧ d = cap' := by simp at e1; exact e1
                clear e1
                have hpl : i < (part l i k).length := by rw [part_length _ _ _ hi]; exact hil
                have hcc := ow.cellAt i (by omega)
                rw [show (u8s (part l i k))[i]? = some (.int .u8 (((part l i k)[i]).toNat : Int)) from by simp [u8s, List.getElem?_eq_getElem hpl]] at hcc
                have hf := ow.frozenAt i
                go_wp2
                obtain ⟨ow2, kw2⟩ := set_own ow i (mk k) ((k : Int) + 1) (mk_small k (by omega))
                go_roundw
                case rel => exact ⟨i + 1, by omega, by go_num, by rw [← part_succ l i k hil]; exact ow2, kw1.trans kw2 (by simp [Value.ownBlock])⟩
                case measure => simp [intOf]; omega
            · have ei : i = l.length := by omega
              subst ei
              rw [part_all] at ow
              have Fs := Fk.set k _ (rep l.length k) HV.out kw1 (by rw [rep_length]; exact ow)
              rw [show l.length = nn ls k from by rw [HLE.out]; rfl, midl_succ ls k (by rw [HNL.out]; exact hkN)] at Fs
              clear ow kw1 Fk
              go_wp2
              go_roundw
              case rel => exact ⟨k + 1, by omega, by go_num, Fs, kww⟩
              case measure => simp [intOf]; omega
        · have ek : k = N := by omega
          subst ek
          have HVS : Hid (∀ (j : Nat) v x, vs[j]? = some v → v.ownBlock = some x → x < wr.heap.size) := fun j v x hv hx => (Fk.lt j v x hv hx).2
          have HAP := hideAp Fk.apart
          have L0 := Lng.start (M := 80) Fk HNL.out
          go_wp2
          generalize wr = w2 at *
          go_loopw [5, 9] (fun s i wr => ∃ j : Nat, ∃ us, j ≤ k ∧ i = .int .i64 j ∧ Lng 80 w2 wr base vs ls j us s) (fun _ i _ => k - (intOf i).toNat)
          case atStart => exact ⟨0, [], Nat.zero_le _, rfl, L0⟩
          case round =>
            clear L0 Fk
            obtain ⟨j, us, hj, rfl, L⟩ := hrel
            have kwr := kw.trans L.kp (fun x hx => .inl hx)
            by_cases hjk : j < k
            · obtain ⟨v, hv⟩ : ∃ v, vs[j]? = some v := ⟨_, List.getElem?_eq_getElem (by rw [HVL.out]; exact hjk)⟩
              have ow := L.vo j v (Nat.le_refl _) hv
              have hc := HC.out wr kwr j _ hv
              have hn := HNN.out j
              obtain ⟨n, hne⟩ : ∃ n, n = nn ls j := ⟨_, rfl⟩
              rw [← hne] at ow hn
              have HN : Hid (n ≤ 140737488351232) := hn
              have HV : Hid (vs[j]? = some v) := hv
              have HNE : Hid (n = nn ls j) := hne
              have hsz2 := L.kp.size
              have hb2 : base ≤ w2.heap.size := Nat.le_trans hb kw.size
              have HL3 := hideLng L
              clear hv hne L hn
              go_wp2_with fail
              refine (grown_z v n j base ((j : Int) + 1) (mk_small j (by omega)) _ ow (by omega) (by have := HN.out; omega)).mono ?_
              rintro e w3 ⟨l, rfl, ol, bl, lv, kl⟩
              obtain ⟨pl, dl, rfl⟩ := own_shape2 ol
              have L := HL3.out
              have kb : Kept [] w3 (w3.alloc (.cells #[.slice pl (n + 80) dl] 22)) := (Kept.refl [] w3).alloc _
              have oW := own_of_kept (own_of_kept L.lo kl (fun x hx hm => by
                have h1 := L.lb x hx
                have h2 := HVS.out j _ x HV.out (by simpa using hm)
                omega)) kb (by simp)
              have hnw := World.news_of_block (heap_alloc_new w3 (.cells #[.slice pl (n + 80) dl] 22))
              have hul := L.ul
              have hsz3 := kl.size
              clear L
              go_wp2_with (at_builtin; refine wpList_append_own2 rfl (.tmp 57) (.tmp 66) 45 rfl base 22 Try.underlying45 (.slice none 0 0) 24 (by kernel_rfl) rfl _ _ _ (by rfl) oW ⟨w3.heap.size, 0, none⟩ 1 1 _ (by rfl) rfl hnw (by simp [Value.oneCell']) (by unfold maxLen; omega) (by omega) (by simp; omega) ?_; intro V w5 o5 g5 at5)
              have hnj := HNE.out
              have L2 := HL3.out.snoc HAP.out (fun j v x hv hx => HVS.out j v x hv hx) HV.out kl (by rw [← hnj]; exact ol) (by rw [← hnj]; exact bl) (weak_or lv hsz2) hsz2 kb o5 oW g5 at5
              clear hnj
              clear o5 g5 at5 oW kb hnw ol bl lv kl
              go_roundw
              case rel => exact ⟨j + 1, _, by omega, by go_num, L2⟩
              case measure => simp [intOf]; omega
            · have ej : j = k := by omega
              subst ej
              obtain ⟨pl, dl, rfl⟩ := own_shape2 L.lo
              have hLo := L.lo
              have HLL := hideLng L
              clear L
              go_wp2
              go_loop [10] (fun i => ∃ m : Nat, m ≤ j ∧ i = .int .i64 m) (fun i => j - (intOf i).toNat)
              case atStart => exact ⟨0, Nat.zero_le _, rfl⟩
              case round =>
                obtain ⟨m, hm, rfl⟩ := hrel
                by_cases hmj : m < j
                · have L := HLL.out
                  obtain ⟨u, hu⟩ : ∃ u, us[m]? = some u := ⟨_, List.getElem?_eq_getElem (by rw [L.ul]; exact hmj)⟩
                  obtain ⟨v, hv⟩ : ∃ v, vs[m]? = some v := ⟨_, List.getElem?_eq_getElem (by rw [HVL.out]; exact hmj)⟩
                  have hc := HC.out wr kwr m _ hv
                  have bu := Bs.ofOwn (L.uo m u hu)
                  have bv := L.vb m v hv
                  obtain ⟨n, hne⟩ : ∃ n, n = nn ls m := ⟨_, rfl⟩
                  rw [← hne] at bu bv
                  have hn := HNN.out m
                  rw [← hne] at hn
                  have HN : Hid (n ≤ 140737488351232) := hn
                  rcases id hLo.2 with ⟨_, h0⟩ | ⟨GL, dl', cur', el, -⟩
                  · omega
                  · obtain ⟨rfl, rfl⟩ : pl = some ⟨GL, 0, none⟩ ∧ dl = dl' := by simp at el; exact el
                    have hcl := hLo.cellAt m (by omega)
                    rw [hu] at hcl
                    clear el hv hu L hne hn
                    go_wp2_with fail
                    refine (full_z v n m ((m : Int) + 1) (mk_small m (by omega)) _ bv (by have := HN.out; omega)).mono ?_
                    rintro e w6 ⟨rfl, hw6⟩
                    subst hw6
                    go_wp2_with fail
                    refine (full_z u (n + 80) m ((m : Int) + 1) (mk_small m (by omega)) _ bu (by have := HN.out; omega)).mono ?_
                    rintro e w7 ⟨rfl, hw7⟩
                    subst hw7
                    go_wp2
                    go_round
                    case rel => exact ⟨m + 1, by omega, by go_num⟩
                    case measure => simp [intOf]; omega
                · go_wp2
                  go_ret
                  exact ⟨rfl, kwr⟩
end Go.Proofs.Ytebcmcmboomgfaa

/-
  OWN WORK. RecordKeeps: six rows of bytes of one's own as a family.
-/
namespace Go.Proofs.Ytebcmcmboomgfaa
open Go.RowKit
theorem fam_one9 {w : World} {b : Nat} {u : Value} {l : List UInt8} (o : w.ownsRow b 5 1 u l.length (u8s l)) : Fam w b [u] [l] := by
  refine ⟨rfl, fun i v m hv hm => ?_, fun i j p q x hij hp hq => ?_⟩
  · match i, hv, hm with
    | 0, hv, hm => simp at hv hm; subst hv hm; exact o
    | i + 1, hv, _ => simp at hv
  · match j, hij, hq with
    | 0, hij, _ => omega
    | j + 1, _, hq => simp at hq
theorem fam_two9 {w : World} {b : Nat} {u1 u2 : Value} {l1 l2 : List UInt8} (o1 : w.ownsRow b 5 1 u1 l1.length (u8s l1)) (o2 : w.ownsRow b 5 1 u2 l2.length (u8s l2)) (a : Apartv u1 u2) : Fam w b [u1, u2] [l1, l2] := by
  refine ⟨rfl, fun i v m hv hm => ?_, fun i j p q x hij hp hq hx => ?_⟩
  · match i, hv, hm with
    | 0, hv, hm => simp at hv hm; subst hv hm; exact o1
    | 1, hv, hm => simp at hv hm; subst hv hm; exact o2
    | i + 2, hv, _ => simp at hv
  · match i, j, hij, hp, hq with
    | 0, 0, hij, _, _ => omega
    | 0, 1, _, hp, hq => simp at hp hq; subst hp hq; exact a x hx
    | 0, j + 2, _, _, hq => simp at hq
    | i + 1, 0, hij, _, _ => omega
    | i + 1, 1, hij, _, _ => omega
    | i + 1, j + 2, _, _, hq => simp at hq
/-- the second family lies wholly above the first -/
theorem fam_over9 {w : World} {b1 b2 : Nat} {vs us : List Value} {ls ms : List (List UInt8)} (h1 : Fam w b1 vs ls) (h2 : Fam w b2 us ms) (hb : b1 ≤ b2) (hlt : ∀ v ∈ vs, ∀ x, v.ownBlock = some x → x < b2) : Fam w b1 (vs ++ us) (ls ++ ms) := by
  have hl := h1.len
  refine ⟨by simp [h1.len, h2.len], fun i v l hv hl' => ?_, fun i j u v x hij hu hv hx e => ?_⟩
  · by_cases hi : i < vs.length
    · rw [List.getElem?_append_left hi] at hv
      rw [List.getElem?_append_left (by omega)] at hl'
      exact h1.own i v l hv hl'
    · rw [List.getElem?_append_right (by omega)] at hv hl'
      rw [← hl] at hl'
      have o := h2.own _ v l hv hl'
      refine ⟨o.1, ?_⟩
      rcases o.2 with q | ⟨g, cap, cur, e1, e2, e3⟩
      · exact .inl q
      · exact .inr ⟨g, cap, cur, e1, Nat.le_trans hb e2, e3⟩
  · by_cases hj : j < vs.length
    · rw [List.getElem?_append_left hj] at hv
      rw [List.getElem?_append_left (by omega)] at hu
      exact h1.apart i j u v x hij hu hv hx e
    · rw [List.getElem?_append_right (by omega)] at hv
      by_cases hi : i < vs.length
      · rw [List.getElem?_append_left hi] at hu
        have q1 := hlt u (List.mem_of_getElem? hu) x hx
        have q2 := (h2.lt _ v x hv e).1
        omega
      · rw [List.getElem?_append_right (by omega)] at hu
        exact h2.apart _ _ u v x (by omega) hu hv hx e
theorem fam_six9 {w : World} {b0 b1 b2 b3 : Nat} (h01 : b0 ≤ b1) (h12 : b1 ≤ b2) (h23 : b2 ≤ b3) {B S1 S2 C T1 T2 : Value} {lB l1 l2 lC l3 l4 : List UInt8}
    (oB : w.ownsRow b0 5 1 B lB.length (u8s lB)) (hB : ∀ x, B.ownBlock = some x → x < b1)
    (o1 : w.ownsRow b1 5 1 S1 l1.length (u8s l1)) (o2 : w.ownsRow b1 5 1 S2 l2.length (u8s l2)) (a12 : Apartv S1 S2) (g1 : ∀ x, S1.ownBlock = some x → x < b2) (g2 : ∀ x, S2.ownBlock = some x → x < b2)
    (oC : w.ownsRow b2 5 1 C lC.length (u8s lC)) (hC : ∀ x, C.ownBlock = some x → x < b3)
    (o3 : w.ownsRow b3 5 1 T1 l3.length (u8s l3)) (o4 : w.ownsRow b3 5 1 T2 l4.length (u8s l4)) (a34 : Apartv T1 T2) : Fam w b0 [B, S1, S2, C, T1, T2] [lB, l1, l2, lC, l3, l4] := by
  have f1 := fam_over9 (fam_one9 oC) (fam_two9 o3 o4 a34) h23 (by intro v hv; simp at hv; subst hv; exact hC)
  have f2 := fam_over9 (fam_two9 o1 o2 a12) f1 h12 (by intro v hv; simp at hv; rcases hv with rfl | rfl; exact g1; exact g2)
  exact fam_over9 (fam_one9 oB) f2 h01 (by intro v hv; simp at hv; subst hv; exact hB)
end Go.Proofs.Ytebcmcmboomgfaa

/-
  OWN WORK. RecordKeeps: what lies where behind 'apart' and 'tables'; a row of bytes turned.
-/
namespace Go.Proofs.Ytebcmcmboomgfaa
open Go.RowKit
set_option linter.unusedVariables false

theorem own_of_slices9 (w : World) (e base : Nat) (vs : List Value) (n : Nat) (hn : vs.length = n) (hb : base ≤ w.heap.size) (hl : n ≤ maxLen) (cs : Array Value) (hcs : cs = vs.toArray) : (w.alloc (.cells cs e)).ownsRow base e 1 (.slice (some ⟨w.heap.size, 0, none⟩) n n) n vs := by
  subst hn
  subst hcs
  exact ⟨by simp, .inr ⟨w.heap.size, vs.length, _, rfl, hb, heap_alloc_new w _, Nat.le_refl _, hl, by simp, by simp⟩⟩
theorem strs_at9 (w : World) (e : TypeId) (cs : Array Value) (ls : List (List UInt8)) (hcs : cs = (ls.map fun l => Value.string ⟨l.toArray⟩).toArray) (H : Nat) (hH : w.heap.size = H) (j : Nat) (l : List UInt8) (hl : ls[j]? = some l) : (w.alloc (.cells cs e)).cell? ⟨H, j, none⟩ = some (.string ⟨l.toArray⟩) := by
  subst hcs; subst hH
  have := World.news_of_block (heap_alloc_new w (.cells (ls.map fun l => Value.string ⟨l.toArray⟩).toArray e)) j (.string ⟨l.toArray⟩) (by simp [hl])
  have e : (⟨w.heap.size, 0, none⟩ : Addr).add j = ⟨w.heap.size, j, none⟩ := by rw [add_none rfl]; simp
  rw [e] at this
  exact this
theorem keeps_nn9 (a b c : List UInt8) (ha : a.length ≤ 371) (hb : b.length ≤ 128) (hc : c.length ≤ 128) (j : Nat) : nn [a, b, c, a, b, c] j ≤ 140737488351232 := by
  unfold nn
  match j with
  | 0 => simp; omega
  | 1 => simp; omega
  | 2 => simp; omega
  | 3 => simp; omega
  | 4 => simp; omega
  | 5 => simp; omega
  | j + 6 => simp
theorem six_far {s4 s5 s6 s7 s8 s9 s10 y : Nat} {B S1 S2 C T1 T2 : Value} (hB : ∀ x, B.ownBlock = some x → s4 ≤ x ∧ x < s5) (h1 : ∀ x, S1.ownBlock = some x → s6 ≤ x ∧ x < s7) (h2 : ∀ x, S2.ownBlock = some x → s6 ≤ x ∧ x < s7) (hC : ∀ x, C.ownBlock = some x → s8 ≤ x ∧ x < s9) (h3 : ∀ x, T1.ownBlock = some x → s9 ≤ x ∧ x < s10) (h4 : ∀ x, T2.ownBlock = some x → s9 ≤ x ∧ x < s10)
    (a : y < s4 ∨ s5 ≤ y) (b : y < s6 ∨ s7 ≤ y ∨ (S1.ownBlock ≠ some y ∧ S2.ownBlock ≠ some y)) (c : y < s8 ∨ s9 ≤ y) (d : y < s9 ∨ s10 ≤ y ∨ (T1.ownBlock ≠ some y ∧ T2.ownBlock ≠ some y)) : y ∉ blocks [B, S1, S2, C, T1, T2] := by
  intro hm
  obtain ⟨v, hv, hx⟩ := List.mem_filterMap.1 hm
  simp only [List.mem_cons, List.not_mem_nil, or_false] at hv
  rcases hv with e | e | e | e | e | e <;> subst e
  · have := hB y hx; omega
  · have := h1 y hx
    rcases b with b | b | b
    · omega
    · omega
    · exact b.1 hx
  · have := h2 y hx
    rcases b with b | b | b
    · omega
    · omega
    · exact b.2 hx
  · have := hC y hx; omega
  · have := h3 y hx
    rcases d with b | b | b
    · omega
    · omega
    · exact b.1 hx
  · have := h4 y hx
    rcases d with b | b | b
    · omega
    · omega
    · exact b.2 hx
/-- what is still known behind apart, tables, stays -/
structure Mid (w4 w5 w6 w : World) (F G : Nat) (cf cg : List Value) (v6 : Value) (n : Nat) (l : List UInt8) : Prop where
  kept : Kept [] w4 w
  bf : Blk w F 26 cf
  bg : Blk w G 26 cg
  mine : w.ownsRow w5.heap.size 5 1 v6 n (u8s l)
  lt : ∀ y, v6.ownBlock = some y → w5.heap.size ≤ y ∧ y < w6.heap.size
  lo : w4.heap.size ≤ w5.heap.size ∧ w5.heap.size ≤ w6.heap.size ∧ w6.heap.size ≤ F ∧ F < G
theorem Mid.then {w4 w5 w6 w w' : World} {F G : Nat} {cf cg : List Value} {v6 : Value} {n : Nat} {l : List UInt8} (h : Mid w4 w5 w6 w F G cf cg v6 n l) (k : Kept [] w w') : Mid w4 w5 w6 w' F G cf cg v6 n l :=
  ⟨h.kept.then k, h.bf.kept k (by simp), h.bg.kept k (by simp), own_of_kept h.mine k (by simp), h.lt, h.lo⟩
/-- the lists of the two records lie there -/
structure Tabs (w6 : World) (F G : Nat) (Vf Vg : RV) : Prop where
  f : ∀ y, (Vf.vr.ownBlock = some y ∨ Vf.vd.ownBlock = some y) → w6.heap.size ≤ y ∧ y < F
  g : ∀ y, (Vg.vr.ownBlock = some y ∨ Vg.vd.ownBlock = some y) → F < y ∧ y < G
theorem keeps_apart {w4 w5 w6 w7 w8 w9 w10 w11 wx w14 : World} {xa : Rcd} {Vf Vg : RV} {v5 v6 v9 : Value} {n : Nat} {l : List UInt8} {cf cg : List Value}
    (k45 : Kept [] w4 w5) (o5 : w5.ownsRow w4.heap.size 5 1 v5 n (u8s l)) (k56 : Kept [] w5 w6) (o6 : w6.ownsRow w5.heap.size 5 1 v6 n (u8s l)) (k67 : Kept [] w6 w7) (of : OwnR w6.heap.size w7 Vf xa) (k78 : Kept [] w7 w8) (bf : Blk w8 w7.heap.size 26 cf) (k89 : Kept [] w8 w9) (o9 : w9.ownsRow w8.heap.size 5 1 v9 n (u8s l)) (k910 : Kept [] w9 w10) (og : OwnR w9.heap.size w10 Vg xa) (k1011 : Kept [] w10 w11) (bg : Blk w11 w10.heap.size 26 cg) (kx : Kept [] w11 wx)
    (k : Kept (blocks [v5, Vf.vb, Vf.va, v9, Vg.vb, Vg.va]) wx w14) : Mid w4 w5 w6 w14 w7.heap.size w10.heap.size cf cg v6 n l ∧ Tb w14 w14 w4.heap.size Vf.vr Vg.vr Vf.vd Vg.vd xa.rows.length xa.dirty.length 0 0 0 0 ∧ Tabs w6 w7.heap.size w10.heap.size Vf Vg ∧ w4.heap.size ≤ w14.heap.size := by
  have s45 := k45.size
  have s56 := k56.size
  have s67 := k67.size
  have s78 : w7.heap.size < w8.heap.size := bf.lt
  have s89 := k89.size
  have s910 := k910.size
  have s1011 : w10.heap.size < w11.heap.size := bg.lt
  have sx := kx.size
  have s14 := k.size
  have hf : ∀ y, (Vf.vb.ownBlock = some y ∨ Vf.va.ownBlock = some y ∨ Vf.vr.ownBlock = some y ∨ Vf.vd.ownBlock = some y) → w6.heap.size ≤ y ∧ y < w7.heap.size := fun y hy => of.ge hy
  have hg : ∀ y, (Vg.vb.ownBlock = some y ∨ Vg.va.ownBlock = some y ∨ Vg.vr.ownBlock = some y ∨ Vg.vd.ownBlock = some y) → w9.heap.size ≤ y ∧ y < w10.heap.size := fun y hy => og.ge hy
  have far : ∀ y, (y < w4.heap.size ∨ w5.heap.size ≤ y) → (y < w6.heap.size ∨ w7.heap.size ≤ y ∨ (Vf.vb.ownBlock ≠ some y ∧ Vf.va.ownBlock ≠ some y)) → (y < w8.heap.size ∨ w9.heap.size ≤ y) → (y < w9.heap.size ∨ w10.heap.size ≤ y ∨ (Vg.vb.ownBlock ≠ some y ∧ Vg.va.ownBlock ≠ some y)) → y ∉ blocks [v5, Vf.vb, Vf.va, v9, Vg.vb, Vg.va] := fun y a b c d =>
    six_far (fun x hx => ⟨own_ge o5 x hx, own_lt o5 x hx⟩) (fun x hx => hf x (.inl hx)) (fun x hx => hf x (.inr (.inl hx))) (fun x hx => ⟨own_ge o9 x hx, own_lt o9 x hx⟩) (fun x hx => hg x (.inl hx)) (fun x hx => hg x (.inr (.inl hx))) a b c d
  have k8x : Kept [] w8 wx := ((k89.then k910).then k1011).then kx
  have k6x : Kept [] w6 wx := (k67.then k78).then k8x
  have k4x : Kept [] w4 wx := (k45.then k56).then k6x
  have rf : ∀ y, (Vf.vr.ownBlock = some y ∨ Vf.vd.ownBlock = some y) → y ∉ blocks [v5, Vf.vb, Vf.va, v9, Vg.vb, Vg.va] := fun y hy => by
    have b := hf y (by rcases hy with q | q; exact .inr (.inr (.inl q)); exact .inr (.inr (.inr q)))
    refine far y (.inr (by omega)) (.inr (.inr ⟨fun e => ?_, fun e => ?_⟩)) (.inl (by omega)) (.inl (by omega))
    · rcases hy with q | q
      · exact of.br y e q
      · exact of.bd y e q
    · rcases hy with q | q
      · exact of.ar y e q
      · exact of.ad y e q
  have rg : ∀ y, (Vg.vr.ownBlock = some y ∨ Vg.vd.ownBlock = some y) → y ∉ blocks [v5, Vf.vb, Vf.va, v9, Vg.vb, Vg.va] := fun y hy => by
    have b := hg y (by rcases hy with q | q; exact .inr (.inr (.inl q)); exact .inr (.inr (.inr q)))
    refine far y (.inr (by omega)) (.inr (.inl (by omega))) (.inr (by omega)) (.inr (.inr ⟨fun e => ?_, fun e => ?_⟩))
    · rcases hy with q | q
      · exact og.br y e q
      · exact og.bd y e q
    · rcases hy with q | q
      · exact og.ar y e q
      · exact og.ad y e q
  have k7x : Kept [] w7 wx := k78.then k8x
  have k10x : Kept [] w10 wx := k1011.then kx
  refine ⟨⟨k4x.trans k fun x hx => .inr ?_, (bf.kept k8x (by simp)).kept k (far _ (.inr (by omega)) (.inr (.inl (by omega))) (.inl (by omega)) (.inl (by omega))), (bg.kept kx (by simp)).kept k (far _ (.inr (by omega)) (.inr (.inl (by omega))) (.inr (by omega)) (.inr (.inl (by omega)))), own_of_kept (own_of_kept o6 k6x (by simp)) k (fun y hy => ?_), fun y hy => ⟨own_ge o6 y hy, own_lt o6 y hy⟩, by omega⟩, ⟨?_, ?_, ?_, ?_, ?_, of.rd, ?_, ?_, og.rd, ?_, Kept.refl _ _⟩, ⟨fun y hy => hf y (by rcases hy with q | q; exact .inr (.inr (.inl q)); exact .inr (.inr (.inr q))), fun y hy => by have := hg y (by rcases hy with q | q; exact .inr (.inr (.inl q)); exact .inr (.inr (.inr q))); omega⟩, by have := k4x.size; omega⟩
  · exact Nat.le_of_not_lt fun c => far x (.inl c) (.inl (by omega)) (.inl (by omega)) (.inl (by omega)) hx
  · have a := own_ge o6 y hy
    have b := own_lt o6 y hy
    exact far y (.inr a) (.inl b) (.inl (by omega)) (.inl (by omega))
  · exact Mrk.start (((of.rows.kept k7x (by simp)).kept k fun y hy => rf y (.inl hy)).mono (by omega)) _
  · exact Mrk.start (((og.rows.kept k10x (by simp)).kept k fun y hy => rg y (.inl hy)).mono (by omega)) _
  · exact Mrk.start (((of.dirty.kept k7x (by simp)).kept k fun y hy => rf y (.inr hy)).mono (by omega)) _
  · exact Mrk.start (((og.dirty.kept k10x (by simp)).kept k fun y hy => rg y (.inr hy)).mono (by omega)) _
  · intro y hy e
    have a := hf y (.inr (.inr (.inl hy)))
    have b := hg y (.inr (.inr (.inl e)))
    omega
  · intro y hy e
    have a := hf y (.inr (.inr (.inl hy)))
    have b := hg y (.inr (.inr (.inr e)))
    omega
  · intro y hy e
    have a := hg y (.inr (.inr (.inl hy)))
    have b := hf y (.inr (.inr (.inr e)))
    omega
  · intro y hy e
    have a := hf y (.inr (.inr (.inr hy)))
    have b := hg y (.inr (.inr (.inr e)))
    omega
theorem keeps_tables {w4 w5 w6 w w' : World} {F G : Nat} {cf cg : List Value} {v6 : Value} {n : Nat} {l : List UInt8} {Vf Vg : RV} (h : Mid w4 w5 w6 w F G cf cg v6 n l) (t : Tabs w6 F G Vf Vg) (k : Kept (Vf.vr.ownBlock.toList ++ (Vg.vr.ownBlock.toList ++ (Vf.vd.ownBlock.toList ++ Vg.vd.ownBlock.toList))) w w') : Mid w4 w5 w6 w' F G cf cg v6 n l := by
  have lo := h.lo
  have s56 : ∀ y, v6.ownBlock = some y → y < w6.heap.size := fun y hy => (h.lt y hy).2
  have cl : ∀ y, y ∈ (Vf.vr.ownBlock.toList ++ (Vg.vr.ownBlock.toList ++ (Vf.vd.ownBlock.toList ++ Vg.vd.ownBlock.toList))) → w6.heap.size ≤ y ∧ y ≠ F ∧ y ≠ G := fun y hy => by
    simp only [List.mem_append, Option.mem_toList] at hy
    rcases hy with q | q | q | q
    · have := t.f y (.inl q); omega
    · have := t.g y (.inl q); omega
    · have := t.f y (.inr q); omega
    · have := t.g y (.inr q); omega
  refine ⟨h.kept.trans k fun x hx => .inr ?_, h.bf.kept k fun hm => (cl F hm).2.1 rfl, h.bg.kept k fun hm => (cl G hm).2.2 rfl, own_of_kept h.mine k fun y hy hm => ?_, h.lt, h.lo⟩
  · have := (cl x hx).1
    omega
  · have := (cl y hm).1
    have := s56 y hy
    omega
def turn9 (b : List UInt8) (k : Nat) : List UInt8 := (b.take k).map (· ^^^ 0x10) ++ b.drop k
theorem turn9_zero (b : List UInt8) : turn9 b 0 = b := by simp [turn9]
theorem turn9_length (b : List UInt8) (k : Nat) : (turn9 b k).length = b.length := by simp [turn9]; omega
theorem turn9_at (b : List UInt8) (k : Nat) (h : k < b.length) : (turn9 b k ++ lent9)[k]? = some b[k] := by
  rw [List.getElem?_append_left (by rw [turn9_length]; exact h)]
  unfold turn9
  rw [List.getElem?_append_right (by simp; omega), List.getElem?_drop]
  rw [show k + (k - ((b.take k).map (· ^^^ 0x10)).length) = k by simp; omega]
  exact List.getElem?_eq_getElem h
theorem turn9_succ (b : List UInt8) (k : Nat) (h : k < b.length) : (turn9 b k ++ lent9).set k (b[k] ^^^ 0x10) = turn9 b (k + 1) ++ lent9 := by
  rw [List.set_append_left _ _ (by rw [turn9_length]; exact h)]
  congr 1
  unfold turn9
  have e : ((b.take k).map (· ^^^ 0x10)).length = k := by simp; omega
  rw [List.set_append_right _ _ (by omega), e, Nat.sub_self, List.drop_eq_getElem_cons h, List.set_cons_zero, List.take_succ_eq_append_getElem h]
  rw [List.map_append, List.append_assoc]
  rfl
/-- the first k bytes of the desk's After are turned -/
structure Trn (w16 wr : World) (base gA cA : Nat) (la : List UInt8) (k : Nat) : Prop where
  own : wr.ownsRow base 5 1 (.slice (some ⟨gA, 0, none⟩) (la.length + 120) cA) (la.length + 120) (u8s (turn9 la k ++ lent9))
  kept : Kept [gA] w16 wr
theorem Trn.start {w3 w16 : World} {base gA cA : Nat} {la : List UInt8} (o : w3.ownsRow base 5 1 (.slice (some ⟨gA, 0, none⟩) (la.length + 120) cA) (la.length + 120) (u8s (la ++ lent9))) (k : Kept [] w3 w16) : Trn w16 w16 base gA cA la 0 := ⟨by rw [turn9_zero]; exact own_of_kept o k (by simp), Kept.refl _ _⟩
theorem Trn.then {w16 wr wr' : World} {base gA cA : Nat} {la : List UInt8} {k : Nat} (h : Trn w16 wr base gA cA la k) (kk : Kept [] wr wr') : Trn w16 wr' base gA cA la k := ⟨own_of_kept h.own kk (by simp), h.kept.then kk⟩
theorem Trn.cell {w16 wr : World} {base gA cA : Nat} {la : List UInt8} {k : Nat} (h : Trn w16 wr base gA cA la k) {y : UInt8} (hy : la[k]? = some y) : wr.cell? ⟨gA, k, none⟩ = some (.int .u8 (y.toNat : Int)) ∧ wr.frozen? ⟨gA, k, none⟩ = false := by
  obtain ⟨hk, e⟩ := List.getElem?_eq_some_iff.1 hy
  have hc := h.own.cellAt k (by omega)
  rw [show (u8s (turn9 la k ++ lent9))[k]? = some (.int .u8 (la[k].toNat : Int)) from by simp only [u8s, List.getElem?_map, turn9_at la k hk]; rfl, e] at hc
  exact ⟨hc, h.own.frozenAt k⟩
theorem Trn.set {w16 wr : World} {base gA cA : Nat} {la : List UInt8} {k : Nat} (h : Trn w16 wr base gA cA la k) {y : UInt8} (hy : la[k]? = some y) : Trn w16 (wr.setCell ⟨gA, k, none⟩ (.int .u8 ((y ^^^ 0x10).toNat : Int))) base gA cA la (k + 1) := by
  obtain ⟨hk, e⟩ := List.getElem?_eq_some_iff.1 hy
  subst e
  obtain ⟨o2, k2⟩ := set_own h.own k (la[k] ^^^ 0x10) _ rfl
  rw [turn9_succ la k hk] at o2
  exact ⟨o2, h.kept.trans k2 (by simp)⟩
theorem xor16 (y : UInt8) : bits .xor .u8 (y.toNat : Int) 16 = ((y ^^^ 0x10).toNat : Int) := xorB y 0x10
/-- the desk's record, its After turned -/
theorem desk_turned {b gA : Nat} {w3 w16 wr : World} {r : Rcd} {pB pR pD : Option Addr} {cB cA cR cD : Nat} (h : DeskO b w3 r pB cB (some ⟨gA, 0, none⟩) cA pR cR pD cD) (k : Kept [] w3 w16) (t : Trn w16 wr b gA cA r.after r.after.length) (l : List UInt8) (hl : l = turn9 r.after r.after.length) : SeeR wr (⟨.slice pB r.before.length cB, .slice (some ⟨gA, 0, none⟩) l.length cA, .slice pR r.rows.length cR, .slice pD r.dirty.length cD⟩ : RV) (⟨r.kind, r.birth, r.prev, r.id, r.page, r.frm, r.before, l, r.next, r.rows, r.dirty⟩ : Rcd) := by
  subst hl
  have s := (h.read.kept k).see
  have q : Bs wr (.slice (some ⟨gA, 0, none⟩) (r.after.length + 120) cA) (turn9 r.after r.after.length ++ lent9) := bs_own9 t.own (by rw [List.length_append, lent9_length, turn9_length])
  refine ⟨s.before.keptS t.kept fun x hx hm => ?_, q.front9, s.rows.keptS t.kept fun x hx hm => ?_, s.dirty.keptS t.kept fun x hx hm => ?_⟩
  · simp only [List.mem_singleton] at hm
    subst hm
    exact h.ab x rfl (by rw [own_block_any pB _ r.before.length _ cB]; exact hx)
  · simp only [List.mem_singleton] at hm
    subst hm
    exact h.ar x rfl (by rw [own_block_any pR _ r.rows.length _ cR]; exact hx)
  · simp only [List.mem_singleton] at hm
    subst hm
    exact h.ad x rfl (by rw [own_block_any pD _ r.dirty.length _ cD]; exact hx)
/-- what is still known behind the turning -/
structure Aft (w w6 wr : World) (D F G : Nat) (de cf cg : List Value) (v6 : Value) (n : Nat) (l : List UInt8) : Prop where
  kept : Kept [] w wr
  be : Blk wr D 42 de
  bf : Blk wr F 26 cf
  bg : Blk wr G 26 cg
  mine : wr.ownsRow w.heap.size 5 1 v6 n (u8s l)
  ne : ∀ y, v6.ownBlock = some y → y ≠ D ∧ y ≠ F ∧ y ≠ G
  lo : w.heap.size ≤ D ∧ D < F ∧ F < G
theorem Aft.then {w w6 wr wr' : World} {D F G : Nat} {de cf cg : List Value} {v6 : Value} {n : Nat} {l : List UInt8} (h : Aft w w6 wr D F G de cf cg v6 n l) (k : Kept [] wr wr') : Aft w w6 wr' D F G de cf cg v6 n l :=
  ⟨h.kept.then k, h.be.kept k (by simp), h.bf.kept k (by simp), h.bg.kept k (by simp), own_of_kept h.mine k (by simp), h.ne, h.lo⟩
theorem keeps_turned {w w3 w4 w5 w6 w16 wr : World} {b gA cA k F G : Nat} {la : List UInt8} {de cf cg : List Value} {v6 : Value} {n : Nat} {l : List UInt8} (hw : w.heap.size ≤ b) (hA : b ≤ gA ∧ gA < w3.heap.size) (K4 : Kept [] w w4) (BE : Blk w4 w3.heap.size 42 de) (M : Mid w4 w5 w6 w16 F G cf cg v6 n l) (t : Trn w16 wr b gA cA la k) : Aft w w6 wr w3.heap.size F G de cf cg v6 n l := by
  have lo := M.lo
  have hD := BE.lt
  have s4 := K4.size
  refine ⟨(K4.then M.kept).trans t.kept fun x hx => .inr ?_, (BE.kept M.kept (by simp)).kept t.kept fun hm => ?_, M.bf.kept t.kept fun hm => ?_, M.bg.kept t.kept fun hm => ?_, own_of_kept (own_mono M.mine (by omega)) t.kept fun y hy hm => ?_, fun y hy => ?_, by omega⟩
  · simp only [List.mem_singleton] at hx; omega
  · simp only [List.mem_singleton] at hm; omega
  · simp only [List.mem_singleton] at hm; omega
  · simp only [List.mem_singleton] at hm; omega
  · simp only [List.mem_singleton] at hm; have := M.lt y hy; omega
  · have := M.lt y hy; omega
/-- the first of mine is set -/
theorem Aft.first {w w6 wr : World} {D F G : Nat} {de cf cg : List Value} {g q n : Nat} {l : List UInt8} (h : Aft w w6 wr D F G de cf cg (.slice (some ⟨g, 0, none⟩) n q) n l) (y : UInt8) : Aft w w6 (wr.setCell ⟨g, 0, none⟩ (.int .u8 (y.toNat : Int))) D F G de cf cg (.slice (some ⟨g, 0, none⟩) n q) n (l.set 0 y) := by
  obtain ⟨o2, k2⟩ := set_own h.mine 0 y _ rfl
  have hg := own_ge h.mine g rfl
  have ne := h.ne g rfl
  exact ⟨h.kept.trans k2 fun x hx => .inr (by simp only [List.mem_singleton] at hx; omega), h.be.kept k2 (by simp; omega), h.bf.kept k2 (by simp; omega), h.bg.kept k2 (by simp; omega), o2, h.ne, h.lo⟩
/-- one of the two boxes is filled anew -/
theorem Aft.boxF {w w6 wr wr' : World} {D F G : Nat} {de cf cg cf' : List Value} {v6 : Value} {n : Nat} {l : List UInt8} (h : Aft w w6 wr D F G de cf cg v6 n l) (b : Blk wr' F 26 cf') (k : Kept [F] wr wr') : Aft w w6 wr' D F G de cf' cg v6 n l := by
  have lo := h.lo
  exact ⟨h.kept.trans k fun x hx => .inr (by simp only [List.mem_singleton] at hx; omega), h.be.kept k (by simp; omega), b, h.bg.kept k (by simp; omega), own_of_kept h.mine k fun y hy hm => (h.ne y hy).2.1 (by simpa using hm), h.ne, h.lo⟩
theorem Aft.boxG {w w6 wr wr' : World} {D F G : Nat} {de cf cg cg' : List Value} {v6 : Value} {n : Nat} {l : List UInt8} (h : Aft w w6 wr D F G de cf cg v6 n l) (b : Blk wr' G 26 cg') (k : Kept [G] wr wr') : Aft w w6 wr' D F G de cf cg' v6 n l := by
  have lo := h.lo
  exact ⟨h.kept.trans k fun x hx => .inr (by simp only [List.mem_singleton] at hx; omega), h.be.kept k (by simp; omega), h.bf.kept k (by simp; omega), b, own_of_kept h.mine k fun y hy hm => (h.ne y hy).2.2 (by simpa using hm), h.ne, h.lo⟩
/-- a record of its own stays as it is, where a box below is filled -/
theorem OwnR.past {b X : Nat} {w w' : World} {V : RV} {r : Rcd} (h : OwnR b w V r) (k : Kept [X] w w') (hX : X < b) : OwnR b w' V r := h.kept k fun x hx hm => by
  have := (h.ge hx).1
  simp only [List.mem_singleton] at hm
  omega
end Go.Proofs.Ytebcmcmboomgfaa

