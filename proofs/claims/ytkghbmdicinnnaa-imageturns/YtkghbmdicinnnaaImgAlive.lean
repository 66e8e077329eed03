/-
  OWN WORK. tidemarklaw03.alive: true, whatever the world.
-/
import Derived.Test.YtkghbmdicinnnaaRows
import Derived.Test.YtkghbmdicinnnaaImgLaw
import Derived.Test.YtkghbmdicinnnaaLits
namespace Go.Proofs.Ytkghbmdicinnnaa
open Go.RowKit
set_option linter.unusedVariables false

def lA : List UInt8 := [97, 98, 99, 100, 101, 102]
def lB : List UInt8 := [97, 98, 88, 100, 89, 102]
theorem alive_part : PartIs lA lB lA.length 2 5 := ⟨by decide, by decide, by decide, by decide, by decide⟩
set_option maxHeartbeats 1600000 in
theorem alive_any (w : World) : Calls Try.prog 9 #[] w fun e w' => e = .returned (.bool true) ∧ Kept [] w w' := by
  have kc := fun (w : World) (C : Array Value) (n c : Nat) => run_lit (P := Try.prog) w 22 5 C n c w.heap.size rfl Try.underlying22 Try.underlying5
  have kd := fun (w : World) (C D : Array Value) (m : Nat × Nat) (n c : Nat) => run_lit (P := Try.prog) (w.alloc (.cells D 5 m)) 22 5 C n c (w.heap.size + 1) (by simp) Try.underlying22 Try.underlying5
  go_enter Try.func9, Try.ntmps9
  go_wp2_with fail
  refine (part_any _ _ lA lB _ ((Bs.litF w 5 lA _ _ rfl (by decide) _ rfl).kept ((Kept.refl [] _).alloc _)) (Bs.litF _ 5 lB _ _ rfl (by decide) (w.heap.size + 1) (by simp)) rfl).mono ?_
  rintro e w1 ⟨f, t, rfl, hp, k1⟩
  obtain ⟨rfl, rfl⟩ := hp.uniq alive_part
  have kk1 : Kept [] w w1 := (((Kept.refl [] w).alloc _).alloc _).then k1
  clear hp k1
  go_wp2_with fail
  refine (cut_any _ lA 2 3 _ (Bs.litF w1 5 lA _ _ rfl (by decide) _ rfl) (by decide) (by decide)).mono ?_
  rintro e w2 ⟨v2, rfl, O2, k2⟩
  have kk2 : Kept [] w1 w2 := ((Kept.refl [] w1).alloc _).then k2
  have b2 := Bs.ofOwn O2
  rw [show (lA.drop 2).take 3 = [99, 100, 101] from rfl] at b2
  clear O2 k2
  go_wp2_with fail
  refine (lay_any _ _ lA [88, 89] 2 _ ((Bs.litF w2 5 lA _ _ rfl (by decide) _ rfl).kept ((Kept.refl [] _).alloc _)) (Bs.litF _ 5 [88, 89] _ _ rfl (by decide) (w2.heap.size + 1) (by simp)) (by decide) (by decide)).mono ?_
  rintro e w3 ⟨v3, rfl, O3, k3⟩
  have kk3 : Kept [] w2 w3 := (((Kept.refl [] w2).alloc _).alloc _).then k3
  have b3 := Bs.ofOwn O3
  rw [show over lA 2 [88, 89] = [97, 98, 88, 89, 101, 102] from rfl] at b3
  have b2 := b2.kept kk3
  have kk := (kk1.then kk2).then kk3
  obtain ⟨p2, c2, rfl, -⟩ := id b2
  obtain ⟨p3, c3, rfl, -⟩ := id b3
  have t2 : (convert 22 9 (.slice p2 3 c2)).run Try.prog w3 = .ok (.string ⟨#[99, 100, 101]⟩) w3 := b2.text
  have t3 : (convert 22 9 (.slice p3 6 c3)).run Try.prog w3 = .ok (.string ⟨#[97, 98, 88, 89, 101, 102]⟩) w3 := b3.text
  clear O3 k3 kk1 kk2 kk3 b2 b3
  go_wp2_with (go_at_call 10; refine (num_any _ _).mono ?_; rintro e w' ⟨rfl, rfl⟩)
  go_ret
  exact ⟨rfl, kk⟩
end Go.Proofs.Ytkghbmdicinnnaa
