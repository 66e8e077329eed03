/-
  OWN WORK. home.first.
-/
import Derived.Test.YtoildbbfnhjfoaaHomePick
namespace Go.Proofs.Ytoildbbfnhjfoaa
open Go.RowKit
set_option linter.unusedVariables false

set_option maxHeartbeats 1600000 in
theorem first_any (u f : Value) (a : List UInt8) (p : Nat → Nat → Bool → Bool) (w : World) (hu : Bs w u a) (hf : Picks w f p) :
    Calls Try.prog 34 #[u, f] w fun e w' => e = .returned (.tuple #[.int .i64 (fir p a 0 fun i => (i : Int)), .agg #[.int .i64 (fir p a 0 fun i => (slotK a (i : Int) : Int)), .int .u64 (fir p a 0 fun i => (slotV a (i : Int) : Int))], .bool (fir p a false fun _ => true)]) ∧ Kept [] w w' := by
  obtain ⟨gf, lb, rfl, eg, hp⟩ := hf
  have h8 := slots_le a
  obtain ⟨r, hr⟩ : ∃ r, r = firstIn p a := ⟨_, rfl⟩
  obtain ⟨zi, hzi⟩ : ∃ z, z = fir p a (0 : Int) fun i => (i : Int) := ⟨_, rfl⟩
  obtain ⟨zk, hzk⟩ : ∃ z, z = fir p a (0 : Int) fun i => (slotK a (i : Int) : Int) := ⟨_, rfl⟩
  obtain ⟨zv, hzv⟩ : ∃ z, z = fir p a (0 : Int) fun i => (slotV a (i : Int) : Int) := ⟨_, rfl⟩
  obtain ⟨zb, hzb⟩ : ∃ z, z = fir p a false fun _ => true := ⟨_, rfl⟩
  rw [← hzi, ← hzk, ← hzv, ← hzb]
  have HI : Hid (zi = fir p a (0 : Int) fun i => (i : Int)) := hzi
  have HK : Hid (zk = fir p a (0 : Int) fun i => (slotK a (i : Int) : Int)) := hzk
  have HV : Hid (zv = fir p a (0 : Int) fun i => (slotV a (i : Int) : Int)) := hzv
  have HB : Hid (zb = fir p a false fun _ => true) := hzb
  clear hzi hzk hzv hzb hr
  have k1 := (Kept.refl [] w).alloc (.cells #[.int .i64 0, .int .u64 0] 61)
  have H8 : Hid (slotsOf a ≤ 8) := h8
  clear h8
  go_enter Try.func34, Try.ntmps34
  go_wp2
  go_loopw [11] (fun x wr => ∃ (t : Nat), t ≤ 8 ∧ x = .int .i64 (t : Int) ∧ Hid (t ≤ slotsOf a ∧ ∀ j, j < t → pickAt p a j = false) ∧ Kept [] (w.alloc (.cells #[.int .i64 0, .int .u64 0] 61)) wr) (fun x _ => (8 - intOf x).toNat)
  case atStart => exact ⟨0, by omega, rfl, (show _ ∧ _ from ⟨by omega, fun j hj => by omega⟩), Kept.refl _ _⟩
  case round =>
    obtain ⟨t, ht, rfl, hr, kw⟩ := hrel
    have hn0 : firstIn p a = none → zi = 0 ∧ zk = 0 ∧ zv = 0 ∧ zb = false := fun h => ⟨HI.out.trans (fir_none h _ _), HK.out.trans (fir_none h _ _), HV.out.trans (fir_none h _ _), HB.out.trans (fir_none h _ _)⟩
    obtain ⟨c0, c1, f0, f1⟩ := two_free ((kw.block w.heap.size (by simp) (by simp)).trans (heap_alloc_new w _))
    by_cases hlt : t < slotsOf a
    · have hs := slot_any u a (t : Int) wr (hu.kept (k1.then kw))
      rw [placeE_at hlt] at hs
      have ct : (t : Int) < 8 := by have := H8.out; omega
      have et : IntKind.i64.wrap ((t : Int) + 1) = (t : Int) + 1 := by rw [IntKind.wrap_i64]; omega
      have HP : Hid (pickAt p a t = p (slotK a (t : Int)) (slotV a (t : Int)) (slotU a (t : Int))) := rfl
      have HT : Hid (t < slotsOf a) := hlt
      have HSK : Hid (firstIn p a = some t → zi = (t : Int) ∧ zk = (slotK a (t : Int) : Int) ∧ zv = (slotV a (t : Int) : Int) ∧ zb = true) := fun h => ⟨HI.out.trans (fir_some h _ _), HK.out.trans (fir_some h _ _), HV.out.trans (fir_some h _ _), HB.out.trans (fir_some h _ _)⟩
      generalize slotK a (t : Int) = K at *
      generalize slotV a (t : Int) = V at *
      generalize slotU a (t : Int) = U at *
      clear hlt hn0
      go_wp2_with fail
      refine hs.mono ?_
      rintro e w3 ⟨rfl, k3⟩
      go_wp2_with fail
      have k4 := k3.alloc (.cells #[.int .i64 (K : Int), .int .u64 (V : Int)] 61)
      refine (hp K V U _ (k1.then (kw.then k4))).mono ?_
      rintro e w5 ⟨rfl, k5⟩
      have k6 := (k1.then kw).then (k4.then k5)
      have hw3 : w.heap.size < w3.heap.size := by have := (kw.then k3).size; simp at this; omega
      obtain ⟨g0, g1, l0, l1⟩ := two_free ((k5.block w3.heap.size (by simp) (by simp)).trans (heap_alloc_new w3 _))
      have kk := k4.then k5
      obtain ⟨c0', c1', f0', f1'⟩ := two_free ((kk.block w.heap.size (by have := kw.size; simp at this; omega) (by simp)).trans ((kw.block w.heap.size (by simp) (by simp)).trans (heap_alloc_new w _)))
      by_cases hb : p K V U = true
      · have hfi : firstIn p a = some t := firstIn_some.2 ⟨HT.out, by rw [HP.out]; exact hb, hr.out.2⟩
        obtain ⟨rfl, rfl, rfl, rfl⟩ := HSK.out hfi
        rw [hb]
        clear hb hfi HSK HP HI HK HV HB
        have kf : Kept [] w ((w5.setCell ⟨w.heap.size, 0, none⟩ (.int .i64 (K : Int))).setCell ⟨w.heap.size, 1, none⟩ (.int .u64 (V : Int))) := (k6.setCell (.inr (Nat.le_refl _)) _).setCell (.inr (Nat.le_refl _)) _
        have s0 : ((w5.setCell ⟨w.heap.size, 0, none⟩ (.int .i64 (K : Int))).setCell ⟨w.heap.size, 1, none⟩ (.int .u64 (V : Int))).cell? ⟨w.heap.size, 0, none⟩ = some (.int .i64 (K : Int)) := by simp [go_sem, c0']
        have s1 : ((w5.setCell ⟨w.heap.size, 0, none⟩ (.int .i64 (K : Int))).setCell ⟨w.heap.size, 1, none⟩ (.int .u64 (V : Int))).cell? ⟨w.heap.size, 1, none⟩ = some (.int .u64 (V : Int)) := World.cell?_setCell_same' _ _ _ (by simp [go_sem, c1'])
        go_wp2
        go_region
        all_goals go_wp2
        all_goals
          refine bodyPost_ret (by simp [results, Try.results34, go_sem, s0, s1]; try rfl) rfl ?_
          exact ⟨rfl, kf.drew⟩
      · have hb' : p K V U = false := by simpa using hb
        rw [hb']
        have HR : Hid (t + 1 ≤ slotsOf a ∧ ∀ j, j < t + 1 → pickAt p a j = false) := ⟨HT.out, fun j hj => by
          rcases Nat.lt_or_ge j t with c | c
          · exact hr.out.2 j c
          · obtain rfl : j = t := by omega
            rw [HP.out]; exact hb'⟩
        go_wp2
        go_roundw
        case rel => exact ⟨t + 1, by omega, by go_num, HR, kw.then (k4.then k5)⟩
        case measure => simp [intOf]; omega
    · have hnone : firstIn p a = none := firstIn_none.2 fun j hj => hr.out.2 j (by omega)
      obtain ⟨rfl, rfl, rfl, rfl⟩ := hn0 hnone
      clear hn0 hnone HI HK HV HB
      by_cases ct : (t : Int) < 8
      · have hs := slot_any u a (t : Int) wr (hu.kept (k1.then kw))
        have hz : ¬ placeE a (t : Int) = 0 := fun h => by
          obtain ⟨j, e, hj, -⟩ := placeE_ok h
          omega
        generalize slotK a (t : Int) = K at *
        generalize slotV a (t : Int) = V at *
        generalize slotU a (t : Int) = U at *
        generalize placeE a (t : Int) = z at *
        clear hlt
        go_wp2_with fail
        refine hs.mono ?_
        rintro e w3 ⟨rfl, k3⟩
        have k4 := k3.alloc (.cells #[.int .i64 (K : Int), .int .u64 (V : Int)] 61)
        have k6 := (k1.then kw).then k4
        obtain ⟨c0', c1', f0', f1'⟩ := two_free ((k4.block w.heap.size (by have := kw.size; simp at this; omega) (by simp)).trans ((kw.block w.heap.size (by simp) (by simp)).trans (heap_alloc_new w _)))
        generalize hW : w3.alloc (.cells #[.int .i64 (K : Int), .int .u64 (V : Int)] 61) = W at *
        have s0 : ((W.setCell ⟨w.heap.size, 0, none⟩ (.int .i64 0)).setCell ⟨w.heap.size, 1, none⟩ (.int .u64 0)).cell? ⟨w.heap.size, 0, none⟩ = some (.int .i64 0) := by simp [go_sem, c0']
        have s1 : ((W.setCell ⟨w.heap.size, 0, none⟩ (.int .i64 0)).setCell ⟨w.heap.size, 1, none⟩ (.int .u64 0)).cell? ⟨w.heap.size, 1, none⟩ = some (.int .u64 0) := World.cell?_setCell_same' _ _ _ (by simp [go_sem, c1'])
        go_wp2
        refine bodyPost_ret (by simp [results, Try.results34, go_sem, s0, s1]; try rfl) rfl ?_
        exact ⟨rfl, (k6.setCell (.inr (Nat.le_refl _)) _).setCell (.inr (Nat.le_refl _)) _⟩
      · have s0 : ((wr.setCell ⟨w.heap.size, 0, none⟩ (.int .i64 0)).setCell ⟨w.heap.size, 1, none⟩ (.int .u64 0)).cell? ⟨w.heap.size, 0, none⟩ = some (.int .i64 0) := by simp [go_sem, c0]
        have s1 : ((wr.setCell ⟨w.heap.size, 0, none⟩ (.int .i64 0)).setCell ⟨w.heap.size, 1, none⟩ (.int .u64 0)).cell? ⟨w.heap.size, 1, none⟩ = some (.int .u64 0) := World.cell?_setCell_same' _ _ _ (by simp [go_sem, c1])
        go_wp2
        refine bodyPost_ret (by simp [results, Try.results34, go_sem, s0, s1]; try rfl) rfl ?_
        exact ⟨rfl, ((k1.then kw).setCell (.inr (Nat.le_refl _)) _).setCell (.inr (Nat.le_refl _)) _⟩
end Go.Proofs.Ytoildbbfnhjfoaa
