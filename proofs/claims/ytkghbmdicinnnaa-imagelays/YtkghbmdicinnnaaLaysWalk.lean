/-
  OWN WORK. ImageLays.
-/
import Derived.Test.YtkghbmdicinnnaaRows
import Derived.Test.YtkghbmdicinnnaaPartsWalk
namespace Go.Proofs.Ytkghbmdicinnnaa
open Go.RowKit
set_option linter.unusedVariables false

set_option maxHeartbeats 4000000 in
theorem imageLays_walk (u v : Value) (b r : List UInt8) (f t : Int) (w : World) (hu : Bs w u b) (hv : Bs w v r) (ha : b.length ≤ 140737488351232) (hb : r.length ≤ 140737488351232) :
    Calls Try.prog 6 #[u, .int .i64 f, .int .i64 t, v] w fun e w' => e = .returned (.bool true) ∧ Kept [] w w' := by
  have HA : Hid (b.length ≤ 140737488351232) := ha
  have HB : Hid (r.length ≤ 140737488351232) := hb
  clear ha hb
  obtain ⟨pu, cu, rfl, -⟩ := id hu
  obtain ⟨pv, cv, rfl, -⟩ := id hv
  go_enter Try.func6, Try.ntmps6
  go_wp2_with fail
  refine (lent_any _ b _ hu (by have := HA.out; omega)).mono ?_
  rintro e w1 ⟨x, rfl, O1, k1⟩
  go_wp2_with fail
  refine (lent_any _ r _ (hv.kept k1) (by have := HB.out; omega)).mono ?_
  rintro e w2 ⟨y, rfl, O2, k2⟩
  have O1 := own_of_kept O1 k2 (by simp)
  have kk := k1.then k2
  have hu2 := hu.kept kk
  have hv2 := hv.kept kk
  clear k1 k2
  rcases id O1.2 with ⟨_, h0⟩ | ⟨bx, cx, cur1, rfl, -, -, hx, -⟩
  · omega
  · rcases id O2.2 with ⟨_, h0⟩ | ⟨by', cy, cur2, rfl, -, -, hy, -⟩
    · omega
    · obtain ⟨cutx, Bx⟩ := lent_cut (P := Try.prog) 22 5 Try.underlying22 (by kernel_rfl) O1
      obtain ⟨cuty, By⟩ := lent_cut (P := Try.prog) 22 5 Try.underlying22 (by kernel_rfl) O2
      have hcx : (b.length : Int) ≤ (cx : Int) := by omega
      have hcy : (r.length : Int) ≤ (cy : Int) := by omega
      have h0a : (0 : Int) ≤ (b.length : Int) := by omega
      have h0b : (0 : Int) ≤ (r.length : Int) := by omega
      go_wp2_with fail
      refine (cut_tot _ b f t _ Bx (by have := HA.out; omega)).mono ?_
      rintro e w3 ⟨c, rfl, O3, k3⟩
      go_wp2_with fail
      refine (refCut_tot _ b f t _ (hu2.kept k3) (by have := HA.out; omega)).mono ?_
      rintro e w4 ⟨d, rfl, O4, k4⟩
      have k34 := k3.then k4
      have Bx4 := Bx.kept k34
      have By4 := By.kept k34
      go_wp2_with fail
      go_region_held3 (fun _ => True) (trivial)
        ((go_at_call 12; refine (lay_tot _ _ b r f _ (by exact Bx4.heap rfl) (by exact By4.heap rfl) (by have := HA.out; omega)).mono ?_; rintro e w5 ⟨l, rfl, O5, k5⟩))
      have k5 : Kept [] w4 w5 := (Kept.refl [] w4).drew.then k5
      have k35 := k34.then k5
      go_wp2_with fail
      refine (refLay_tot _ _ b r f _ (hu2.kept k35) (hv2.kept k35) (by have := HA.out; omega)).mono ?_
      rintro e w6 ⟨m, rfl, O6, k6⟩
      go_wp2_with fail
      refine (alive_any _).mono ?_
      rintro e w7 ⟨rfl, k7⟩
      have kr : Kept [] w2 w7 := (k35.then k6).then k7
      have bc := (Bs.ofOwn O3).kept (((k4.then k5).then k6).then k7)
      have bd := (Bs.ofOwn O4).kept ((k5.then k6).then k7)
      have bl := (Bs.ofOwn O5).kept (k6.then k7)
      have bm := (Bs.ofOwn O6).kept k7
      have kk7 := kk.then kr
      have w1x := (Bs.ofOwn O1).kept kr
      have w1y := (Bs.ofOwn O2).kept kr
      have hu7 := hu2.kept kr
      have hv7 := hv2.kept kr
      obtain ⟨pc, cc, rfl, -⟩ := id bc
      obtain ⟨pd, cd, rfl, -⟩ := id bd
      obtain ⟨pl, cl, rfl, -⟩ := id bl
      obtain ⟨pm, cm, rfl, -⟩ := id bm
      have tc := bc.text
      have td := bd.text
      have tl := bl.text
      have tm := bm.text
      clear O1 O2 O3 O4 O5 O6 Bx By Bx4 By4 k3 k4 k5 k6 k7 k34 k35 kr kk hu2 hv2 bc bd bl bm
      go_wp2_with fail
      refine (num_any _ _).mono ?_
      rintro e w8 ⟨rfl, hw8⟩
      subst hw8
      go_wp2_with fail
      refine (num_any _ _).mono ?_
      rintro e w9 ⟨rfl, hw9⟩
      subst hw9
      go_wp2_with fail
      refine (whole_any _ _ (b ++ spare) b _ w1x hu7 (by have := HA.out; omega)).mono ?_
      rintro e w10 ⟨rfl, k10⟩
      rw [beq_self_eq_true]
      go_wp2_with fail
      refine (whole_any _ _ (r ++ spare) r _ (w1y.kept k10) (hv7.kept k10) (by have := HB.out; omega)).mono ?_
      rintro e w11 ⟨rfl, k11⟩
      rw [beq_self_eq_true]
      go_wp2
      go_ret
      exact ⟨rfl, (kk7.then k10).then k11⟩
end Go.Proofs.Ytkghbmdicinnnaa
