/-
  OWN WORK. ImageParts.
-/
import Derived.Test.YtkghbmdicinnnaaRows
import Derived.Test.YtkghbmdicinnnaaImgTot
import Derived.Test.YtkghbmdicinnnaaImgAlive
namespace Go.Proofs.Ytkghbmdicinnnaa
open Go.RowKit
set_option linter.unusedVariables false

/-- 'x[:len(p)]' of what was lent -/
theorem lent_cut {P : Program} (t e : TypeId) (hu : P.underlying t = some (.slice e)) (hsz : (P.info? e).map (·.size) = some 1) {w : World} {base b n c : Nat} {p : List UInt8} (h : w.ownsRow base 5 1 (.slice (some ⟨b, 0, none⟩) n c) n (u8s (p ++ spare))) :
    (∀ u, (Instr.slice t (.slice (some ⟨b, 0, none⟩) n c) none (some (.int .i64 (p.length : Int))) none).run P u = .ok (.slice (some ⟨b, 0, none⟩) p.length c) u) ∧ Bs w (.slice (some ⟨b, 0, none⟩) p.length c) p := by
  have hb := Bs.ofOwn h
  have hn : n = (p ++ spare).length := by have := h.1; rw [u8s_length] at this; omega
  obtain ⟨p2, h1, -, h3, -⟩ := hb.cuts (P := P) t e hu hsz p.length (by rw [hn]; simp)
  exact ⟨h1, by rwa [List.take_left' rfl] at h3⟩
set_option maxHeartbeats 4000000 in
theorem imageParts_walk (u v : Value) (a b : List UInt8) (w : World) (hu : Bs w u a) (hv : Bs w v b) (ha : a.length ≤ 140737488351232) (hb : b.length ≤ 140737488351232) :
    Calls Try.prog 5 #[u, v] w fun e w' => e = .returned (.bool true) ∧ Kept [] w w' := by
  have HA : Hid (a.length ≤ 140737488351232) := ha
  have HB : Hid (b.length ≤ 140737488351232) := hb
  clear ha hb
  obtain ⟨pu, cu, rfl, -⟩ := id hu
  obtain ⟨pv, cv, rfl, -⟩ := id hv
  go_enter Try.func5, Try.ntmps5
  go_wp2_with fail
  refine (lent_any _ a _ hu (by have := HA.out; omega)).mono ?_
  rintro e w1 ⟨x, rfl, O1, k1⟩
  go_wp2_with fail
  refine (lent_any _ b _ (hv.kept k1) (by have := HB.out; omega)).mono ?_
  rintro e w2 ⟨y, rfl, O2, k2⟩
  have O1 := own_of_kept O1 k2 (by simp)
  have kk := k1.then k2
  have hu2 := hu.kept kk
  have hv2 := hv.kept kk
  clear k1 k2
  rcases id O1.2 with ⟨_, h0⟩ | ⟨bx, cx, cur1, rfl, -, -, hx, -⟩
  · omega
  · rcases id O2.2 with ⟨_, h0⟩ | ⟨by', cy, cur2, rfl, -, -, hy, -⟩
    · omega
    · obtain ⟨cutx, Bx⟩ := lent_cut (P := Try.prog) 22 5 Try.underlying22 (by kernel_rfl) O1
      obtain ⟨cuty, By⟩ := lent_cut (P := Try.prog) 22 5 Try.underlying22 (by kernel_rfl) O2
      have hcx : (a.length : Int) ≤ (cx : Int) := by omega
      have hcy : (b.length : Int) ≤ (cy : Int) := by omega
      have h0a : (0 : Int) ≤ (a.length : Int) := by omega
      have h0b : (0 : Int) ≤ (b.length : Int) := by omega
      go_wp2_with fail
      go_region_held3 (fun _ => True) (trivial)
        ((go_at_call 8; refine (part_tot _ _ a b _ (by exact Bx.heap rfl) (by exact By.heap rfl)).mono ?_; rintro e w3 ⟨f, t, z, rfl, hp, k3⟩))
      have k3 : Kept [] w2 w3 := (Kept.refl [] w2).drew.then k3
      go_wp2_with fail
      refine (refPart_tot _ _ a b _ (hu2.kept k3) (hv2.kept k3)).mono ?_
      rintro e w4 ⟨f', t', z', rfl, hp', k4⟩
      obtain ⟨rfl, rfl, rfl⟩ := hp.uniq hp'
      go_wp2_with fail
      refine (alive_any _).mono ?_
      rintro e w5 ⟨rfl, k5⟩
      have kr : Kept [] w2 w5 := (k3.then k4).then k5
      have kk5 := kk.then kr
      have w1x := (Bs.ofOwn O1).kept kr
      have w1y := (Bs.ofOwn O2).kept kr
      have hu5 := hu2.kept kr
      have hv5 := hv2.kept kr
      clear O1 O2 Bx By k3 k4 k5 kr kk hu2 hv2 hp hp'
      go_wp2_with fail
      refine (num_any _ _).mono ?_
      rintro e w6 ⟨rfl, hw6⟩
      subst hw6
      go_wp2_with fail
      refine (whole_any _ _ (a ++ spare) a _ w1x hu5 (by have := HA.out; omega)).mono ?_
      rintro e w7 ⟨rfl, k7⟩
      rw [beq_self_eq_true]
      go_wp2_with fail
      refine (whole_any _ _ (b ++ spare) b _ (w1y.kept k7) (hv5.kept k7) (by have := HB.out; omega)).mono ?_
      rintro e w8 ⟨rfl, k8⟩
      rw [beq_self_eq_true]
      go_wp2
      go_ret
      exact ⟨rfl, (kk5.then k7).then k8⟩
end Go.Proofs.Ytkghbmdicinnnaa
