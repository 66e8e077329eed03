/-
  OWN WORK. ImagePieces.
-/
import Derived.Test.YtkghbmdicinnnaaRows
import Derived.Test.YtkghbmdicinnnaaTurnsWalk
namespace Go.Proofs.Ytkghbmdicinnnaa
open Go.RowKit
set_option linter.unusedVariables false

theorem over_take (b r : List UInt8) (f : Nat) (h : f ≤ b.length) : (over b f r).take f = b.take f := by
  unfold over
  rw [List.take_append_of_le_length (by simp; omega), List.take_take, Nat.min_self]
theorem over_mid (b r : List UInt8) (f : Nat) (h : f + r.length ≤ b.length) : ((over b f r).drop f).take r.length = r := by
  apply List.ext_getElem?
  intro i
  rw [List.getElem?_take, List.getElem?_drop, over_at b f r h]
  by_cases hi : i < r.length
  · rw [if_pos hi, if_pos ⟨by omega, by omega⟩]
    congr 1; omega
  · rw [if_neg hi, List.getElem?_eq_none (by omega)]
theorem over_drop (b r : List UInt8) (f : Nat) (h : f + r.length ≤ b.length) : (over b f r).drop (f + r.length) = b.drop (f + r.length) := by
  apply List.ext_getElem?
  intro i
  rw [List.getElem?_drop, List.getElem?_drop, over_at b f r h, if_neg (by omega)]
theorem cut_of {a : List UInt8} {f t : Nat} (h : f ≤ t) (k : t ≤ a.length) : cutL a f t = (a.drop f).take (t - f) ∧ cutE a f t = 0 := cutL_good (by unfold cutBad; omega)
theorem cutE_bad {a : List UInt8} {f t : Int} (h : cutBad a.length f t) : cutE a f t = 30 := by rw [cutE, if_pos h]
structure Pieces (b r : List UInt8) (f : Nat) : Prop where
  x : cutL (over b f r) 0 f = b.take f ∧ cutE (over b f r) 0 f = 0
  y : cutL (over b f r) f ((f : Int) + (r.length : Int)) = r ∧ cutE (over b f r) f ((f : Int) + (r.length : Int)) = 0
  z : cutL (over b f r) ((f : Int) + (r.length : Int)) b.length = b.drop (f + r.length) ∧ cutE (over b f r) ((f : Int) + (r.length : Int)) b.length = 0
  u : cutL b 0 f = b.take f ∧ cutE b 0 f = 0
  w : cutL b ((f : Int) + (r.length : Int)) b.length = b.drop (f + r.length) ∧ cutE b ((f : Int) + (r.length : Int)) b.length = 0
  k : cutE b f ((b.length : Int) + 1) = 30
  m : cutE b ((f : Int) + (r.length : Int) + 1) ((f : Int) + (r.length : Int)) = 30
  n : cutE b (-1) ((f : Int) + (r.length : Int)) = 30
theorem pieces (b r : List UInt8) (f : Nat) (h : f + r.length ≤ b.length) : Pieces b r f := by
  have hl := over_length b f r h
  have e : ((f : Int) + (r.length : Int)) = ((f + r.length : Nat) : Int) := by omega
  refine ⟨?_, ?_, ?_, ?_, ?_, ?_, ?_, ?_⟩
  · have := cut_of (a := over b f r) (f := 0) (t := f) (by omega) (by omega)
    rw [List.drop_zero, Nat.sub_zero, over_take b r f (by omega)] at this
    exact this
  · have := cut_of (a := over b f r) (f := f) (t := f + r.length) (by omega) (by omega)
    rw [show f + r.length - f = r.length by omega, over_mid b r f h] at this
    rw [e]; exact this
  · have := cut_of (a := over b f r) (f := f + r.length) (t := b.length) (by omega) (by omega)
    rw [over_drop b r f h, List.take_of_length_le (by simp)] at this
    rw [e]; exact this
  · have := cut_of (a := b) (f := 0) (t := f) (by omega) (by omega)
    rw [List.drop_zero, Nat.sub_zero] at this
    exact this
  · have := cut_of (a := b) (f := f + r.length) (t := b.length) (by omega) (by omega)
    rw [List.take_of_length_le (by simp)] at this
    rw [e]; exact this
  · exact cutE_bad (by unfold cutBad; omega)
  · exact cutE_bad (by unfold cutBad; omega)
  · exact cutE_bad (by unfold cutBad; omega)
/-- 'string(b)' wherever in a region that draws -/
theorem Bs.textN {w : World} {v : Value} {l : List UInt8} (h : Bs w v l) (q : Nat) : (Go.convert 22 9 v).run Try.prog (w.drewN q) = .ok (.string ⟨l.toArray⟩) (w.drewN q) := (h.kept ((Kept.refl [] w).drewN' q)).text

set_option maxRecDepth 100000 in
set_option maxHeartbeats 8000000 in
theorem imagePieces_walk (u v : Value) (b r : List UInt8) (z : Int) (w : World) (hu : Bs w u b) (hv : Bs w v r) (ha : b.length ≤ 140737488351232) (hb : r.length ≤ 140737488351232) :
    Calls Try.prog 4 #[u, .int .i64 z, v] w fun e w' => e = .returned (.bool true) ∧ Kept [] w w' := by
  have hlen : (b.length : Int) ≤ 140737488351232 := by omega
  have HA : Hid (b.length ≤ 140737488351232) := ha
  have HB : Hid (r.length ≤ 140737488351232) := hb
  clear ha hb
  obtain ⟨pu, cu, rfl, hcu0, hcu, -⟩ := id hu
  obtain ⟨pv, cv, rfl, -⟩ := id hv
  have HL : Hid ((b.length : Int) ≤ 140737488351232) := hlen
  clear hlen
  by_cases hbad : layBad b.length z r.length
  · have e1 : layE b z r = 30 := by rw [layE, if_pos hbad]
    have e2 : layL b z r = [] := by rw [layL, if_pos hbad]
    go_enter Try.func4, Try.ntmps4
    go_wp2_with fail
    refine (alive_any _).mono ?_
    rintro e w1 ⟨rfl, k1⟩
    go_wp2_with fail
    refine (lay_tot _ _ b r z _ (hu.kept k1) (hv.kept k1) (by have := HA.out; omega)).mono ?_
    rintro e w2 ⟨l, rfl, O2, k2⟩
    rw [e1]
    rw [e2] at O2
    obtain ⟨pl, cl, rfl⟩ := own_shape2 O2
    have kk := k1.then k2
    rw [show ([] : List UInt8).length = 0 from rfl]
    unfold layBad at hbad
    clear O2 k1 k2 e1 e2
    by_cases h1 : z < 0
    · go_wp2_with (go_at_call 10; refine (num_any _ _).mono ?_; rintro e w' ⟨rfl, hw'⟩; subst hw')
      go_ret
      exact ⟨rfl, kk⟩
    · by_cases h2 : (b.length : Int) < z
      · go_wp2_with (go_at_call 10; refine (num_any _ _).mono ?_; rintro e w' ⟨rfl, hw'⟩; subst hw')
        go_ret
        exact ⟨rfl, kk⟩
      · have h3 : (b.length : Int) - z < (r.length : Int) := by omega
        have ew : IntKind.i64.wrap ((b.length : Int) - z) = (b.length : Int) - z := by rw [IntKind.wrap_i64]; have := HL.out; omega
        go_wp2_with (go_at_call 10; refine (num_any _ _).mono ?_; rintro e w' ⟨rfl, hw'⟩; subst hw')
        go_ret
        exact ⟨rfl, kk⟩
  · have hg := hbad
    unfold layBad at hg
    obtain ⟨f, rfl⟩ : ∃ f : Nat, z = (f : Int) := ⟨z.toNat, by omega⟩
    have hfm : f + r.length ≤ b.length := by omega
    obtain ⟨e2, e1⟩ := layL_good hfm
    have c1 : ¬ (f : Int) < 0 := by omega
    have c2 : ¬ (b.length : Int) < (f : Int) := by omega
    have c3 : ¬ (b.length : Int) - (f : Int) < (r.length : Int) := by omega
    have ew : IntKind.i64.wrap ((b.length : Int) - (f : Int)) = (b.length : Int) - (f : Int) := by rw [IntKind.wrap_i64]; have := HL.out; omega
    have ew2 : IntKind.i64.wrap ((f : Int) + (r.length : Int)) = (f : Int) + (r.length : Int) := by rw [IntKind.wrap_i64]; have := HL.out; omega
    have ew3 : IntKind.i64.wrap ((b.length : Int) + 1) = (b.length : Int) + 1 := by rw [IntKind.wrap_i64]; have := HL.out; omega
    have ew4 : IntKind.i64.wrap ((f : Int) + (r.length : Int) + 1) = (f : Int) + (r.length : Int) + 1 := by rw [IntKind.wrap_i64]; have := HL.out; omega
    have PC : Hid (Pieces b r f) := pieces b r f hfm
    have HFM : Hid (f + r.length ≤ b.length) := hfm
    have hol := over_length b f r hfm
    have HOL : Hid ((over b f r).length = b.length) := hol
    clear hg hbad hfm hol
    go_enter Try.func4, Try.ntmps4
    go_wp2_with fail
    refine (alive_any _).mono ?_
    rintro e w1 ⟨rfl, k1⟩
    go_wp2_with fail
    refine (lay_tot _ _ b r f _ (hu.kept k1) (hv.kept k1) (by have := HA.out; omega)).mono ?_
    rintro e w2 ⟨l, rfl, O2, k2⟩
    rw [e1]
    rw [e2, HOL.out] at O2
    obtain ⟨pl, cl, rfl⟩ := own_shape2 O2
    have kk := k1.then k2
    have hu2 := hu.kept kk
    have hv2 := hv.kept kk
    have bl := Bs.ofOwn O2
    clear O2 k1 k2 e1 e2 hu hv
    go_wp2_with (go_at_call 10; refine (num_any _ _).mono ?_; rintro e w' ⟨rfl, hw'⟩; subst hw')
    generalize w' = wa at *
    refine (cut_tot _ (over b f r) 0 f _ bl (by rw [HOL.out]; have := HA.out; omega)).mono ?_
    rintro e w3 ⟨x, rfl, O3, k3⟩
    rw [PC.out.x.2]
    rw [PC.out.x.1] at O3
    have bx := Bs.ofOwn O3
    clear O3
    go_wp2_with fail
    refine (cut_tot _ (over b f r) f ((f : Int) + (r.length : Int)) _ (bl.kept k3) (by rw [HOL.out]; have := HA.out; omega)).mono ?_
    rintro e w4 ⟨y, rfl, O4, k4⟩
    rw [PC.out.y.2]
    rw [PC.out.y.1] at O4
    have by' := Bs.ofOwn O4
    have k4' := k3.then k4
    clear O4
    go_wp2_with fail
    refine (cut_tot _ (over b f r) ((f : Int) + (r.length : Int)) b.length _ (bl.kept k4') (by rw [HOL.out]; have := HA.out; omega)).mono ?_
    rintro e w5 ⟨zz, rfl, O5, k5⟩
    rw [PC.out.z.2]
    rw [PC.out.z.1] at O5
    have bz := Bs.ofOwn O5
    have k5' := k4'.then k5
    clear O5
    go_wp2_with fail
    refine (cut_tot _ b 0 f _ (hu2.kept k5') (by have := HA.out; omega)).mono ?_
    rintro e w6 ⟨uu, rfl, O6, k6⟩
    rw [PC.out.u.2]
    rw [PC.out.u.1] at O6
    have bu := Bs.ofOwn O6
    have k6' := k5'.then k6
    clear O6
    go_wp2_with fail
    refine (cut_tot _ b ((f : Int) + (r.length : Int)) b.length _ (hu2.kept k6') (by have := HA.out; omega)).mono ?_
    rintro e w7 ⟨ww, rfl, O7, k7⟩
    rw [PC.out.w.2]
    rw [PC.out.w.1] at O7
    have bw := Bs.ofOwn O7
    have k7' := k6'.then k7
    clear O7
    go_wp2_with fail
    refine (cut_tot _ b f ((b.length : Int) + 1) _ (hu2.kept k7') (by have := HA.out; omega)).mono ?_
    rintro e w8 ⟨v8, rfl, -, k8⟩
    rw [PC.out.k]
    have k8' := k7'.then k8
    go_wp2_with fail
    refine (cut_tot _ b ((f : Int) + (r.length : Int) + 1) ((f : Int) + (r.length : Int)) _ (hu2.kept k8') (by have := HA.out; omega)).mono ?_
    rintro e w9 ⟨v9, rfl, -, k9⟩
    rw [PC.out.m]
    have k9' := k8'.then k9
    go_wp2_with fail
    refine (cut_tot _ b (-1) ((f : Int) + (r.length : Int)) _ (hu2.kept k9') (by have := HA.out; omega)).mono ?_
    rintro e w10 ⟨v10, rfl, -, k10⟩
    rw [PC.out.n]
    have k10' := k9'.then k10
    have kx := ((((((k4.then k5).then k6).then k7).then k8).then k9).then k10)
    have bx := bx.kept kx
    have by' := by'.kept ((((((k5.then k6).then k7).then k8).then k9).then k10))
    have bz := bz.kept (((((k6.then k7).then k8).then k9).then k10))
    have bu := bu.kept ((((k7.then k8).then k9).then k10))
    have bw := bw.kept ((k8.then k9).then k10)
    have hu10 := hu2.kept k10'
    have hv10 := hv2.kept k10'
    have kend := kk.then k10'
    obtain ⟨-, cut1, -, bc1, -⟩ := hu10.cuts (P := Try.prog) 22 5 Try.underlying22 (by kernel_rfl) f (by have := HFM.out; omega)
    obtain ⟨p2, -, cut2, -, bc2⟩ := hu10.cuts (P := Try.prog) 22 5 Try.underlying22 (by kernel_rfl) (f + r.length) HFM.out
    rw [show ((f + r.length : Nat) : Int) = (f : Int) + (r.length : Int) by omega] at cut2
    obtain ⟨T, hT⟩ : ∃ T, T = b.take f := ⟨_, rfl⟩
    obtain ⟨D, hD⟩ : ∃ D, D = b.drop (f + r.length) := ⟨_, rfl⟩
    rw [← hT] at bx bu bc1
    rw [← hD] at bz bw bc2
    have t1 := bx.textN
    have t2 := by'.textN
    have t3 := bz.textN
    have t4 := bu.textN
    have t5 := bw.textN
    have t6 := bc1.textN
    have t7 := bc2.textN
    have t8 := hv10.textN
    have l1 : (f : Int) ≤ (b.length : Int) := by have := HFM.out; omega
    have l2 : (f : Int) + (r.length : Int) ≤ (b.length : Int) := by have := HFM.out; omega
    have l3 : (b.length : Int) ≤ (cu : Int) := by omega
    have l4 : (f : Int) ≤ (cu : Int) := by omega
    have l5 : (0 : Int) ≤ (f : Int) + (r.length : Int) := by omega
    clear hT hD k3 k4 k5 k6 k7 k8 k9 k10 k4' k5' k6' k7' k8' k9' k10' kx bx by' bz bu bw bc1 bc2 hu2 hv2 bl kk
    go_wp2
    go_quiet ((go_at_call 10; exact Calls.quiet_of_same (num_any _ _)))
    go_wp2
    go_ret
    exact ⟨rfl, kend.drewN' _⟩
end Go.Proofs.Ytkghbmdicinnnaa
