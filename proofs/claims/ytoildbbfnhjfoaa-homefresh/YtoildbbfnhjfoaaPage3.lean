/-
  OWN WORK. page.Slot, Fill, Free.
-/
import Derived.Test.YtoildbbfnhjfoaaPage2
namespace Go.Proofs.Ytoildbbfnhjfoaa
open Go.RowKit
set_option linter.unusedVariables false

/-- a block of two cells is written, and another is laid behind it -/
theorem two_set {w : World} {g : Nat} {u v x y : Value} (c0 : w.cell? ⟨g, 0, none⟩ = some u) (c1 : w.cell? ⟨g, 1, none⟩ = some v) (o : Obj) :
    (((w.setCell ⟨g, 0, none⟩ x).setCell ⟨g, 1, none⟩ y).alloc o).cell? ⟨g, 0, none⟩ = some x ∧ (((w.setCell ⟨g, 0, none⟩ x).setCell ⟨g, 1, none⟩ y).alloc o).cell? ⟨g, 1, none⟩ = some y := by
  have hl := lt_of_cell c0
  have e1 : ((w.setCell ⟨g, 0, none⟩ x).setCell ⟨g, 1, none⟩ y).cell? ⟨g, 1, none⟩ = some y := World.cell?_setCell_same' _ _ _ (by simp [go_sem, c1])
  have e0 : ((w.setCell ⟨g, 0, none⟩ x).setCell ⟨g, 1, none⟩ y).cell? ⟨g, 0, none⟩ = some x := by simp [go_sem, c0]
  exact ⟨(World.cell?_alloc_lt _ _ _ (by simpa using hl)).trans e0, (World.cell?_alloc_lt _ _ _ (by simpa using hl)).trans e1⟩
theorem two_free {w : World} {g : Nat} {u v : Value} {t : TypeId} (h : w.heap[g]? = some (.cells #[u, v] t (0, 0))) :
    w.cell? ⟨g, 0, none⟩ = some u ∧ w.cell? ⟨g, 1, none⟩ = some v ∧ w.frozen? ⟨g, 0, none⟩ = false ∧ w.frozen? ⟨g, 1, none⟩ = false := by
  refine ⟨?_, ?_, ?_, ?_⟩
  · simp [World.cell?, h]
  · simp [World.cell?, h]
  · simp [World.frozen?, h]
  · simp [World.frozen?, h]
set_option maxHeartbeats 800000 in
theorem slot_any (u : Value) (a : List UInt8) (i : Int) (w : World) (hu : Bs w u a) :
    Calls Try.prog 27 #[u, .int .i64 i] w fun e w' => e = .returned (.tuple #[.agg #[.int .i64 (slotK a i : Int), .int .u64 (slotV a i : Int)], .bool (slotU a i), .int .i64 (placeE a i)]) ∧ Kept [] w w' := by
  obtain ⟨z, hz⟩ : ∃ z, z = placeE a i := ⟨_, rfl⟩
  have k0 := (Kept.refl [] w).alloc (.cells #[.int .i64 0, .int .u64 0] 61)
  have hu1 := hu.kept k0
  have hp := lookForSlot_any u a i _ hu1
  rw [← hz] at hp ⊢
  by_cases h0 : z = 0
  · subst h0
    obtain ⟨j, rfl, hj, h8⟩ := placeE_ok hz.symm
    have hs := slotBytes_any u a j _ hu1 hj
    have eU : slotU a (j : Int) = rowU (slotRow a j) := by rw [slotU_at hj, rowU_at hj]
    have he := fun v w hv => entry_any v (slotRow a j) w hv (slotRow_length hj)
    rw [← rowK_at hj, ← rowV_at hj, eU]
    generalize rowK (slotRow a j) = K at *
    generalize rowV (slotRow a j) = V at *
    generalize rowU (slotRow a j) = U at *
    clear hz eU
    go_enter Try.func27, Try.ntmps27
    go_wp2_with fail
    refine hp.mono ?_
    rintro e w' ⟨rfl, rfl⟩
    go_wp2_with fail
    refine hs.mono ?_
    rintro e w' ⟨v, rfl, hv, rfl⟩
    go_wp2_with fail
    refine (he v _ hv).mono ?_
    rintro e w2 ⟨rfl, k2⟩
    have hlt : w.heap.size < w2.heap.size := Nat.lt_of_lt_of_le (by simp) k2.size
    obtain ⟨c0, c1, f0, f1⟩ := two_free ((k2.block w.heap.size (by simp) (by simp)).trans (heap_alloc_new w _))
    have k3 := k0.then k2
    obtain ⟨r0, r1⟩ := two_set (x := .int .i64 (K : Int)) (y := .int .u64 (V : Int)) c0 c1 (.cells #[.int .i64 (K : Int), .int .u64 (V : Int)] 61)
    go_wp2
    refine bodyPost_ret (by simp [results, Try.results27, go_sem, r0, r1]; try rfl) rfl ?_
    exact ⟨rfl, ((k3.setCell (.inr (Nat.le_refl _)) _).setCell (.inr (Nat.le_refl _)) _).alloc _⟩
  · have eU : slotU a i = false := by unfold slotU; rw [← hz]; simp [h0]
    have eK : slotK a i = 0 := by unfold slotK; rw [eU]; rfl
    have eV : slotV a i = 0 := by unfold slotV; rw [eU]; rfl
    rw [eU, eK, eV]
    clear hz eU eK eV
    go_enter Try.func27, Try.ntmps27
    go_wp2_with fail
    refine hp.mono ?_
    rintro e w' ⟨rfl, rfl⟩
    go_wp2
    go_returns
    exact ⟨rfl, (Kept.refl [] w).alloc _⟩
set_option maxHeartbeats 800000 in
theorem free_any (u : Value) (a : List UInt8) (i : Int) (w : World) (hu : Bs w u a) :
    Calls Try.prog 33 #[u, .int .i64 i] w fun e w' => ∃ v, e = .returned (.tuple #[v, .int .i64 (placeE a i)]) ∧ w'.ownsRow w.heap.size 5 1 v (freeL a i).length (u8s (freeL a i)) ∧ Kept [] w w' := by
  have hp := lookForSlot_any u a i w hu
  obtain ⟨z, hz⟩ : ∃ z, z = placeE a i := ⟨_, rfl⟩
  rw [← hz] at hp ⊢
  by_cases h0 : z = 0
  · subst h0
    obtain ⟨j, rfl, hj, h8⟩ := placeE_ok hz.symm
    have hsl := slots_le a
    have hlen := slots_len a h8
    have eL : freeL a (j : Int) = over a (16 + 16 * j) (zeros 16) := by unfold freeL; rw [if_pos hz.symm]; rfl
    have eN : (over a (16 + 16 * j) (zeros 16)).length = a.length := over_length _ _ _ (by rw [zeros_length]; omega)
    rw [eL, eN]
    have hmk := fun u => run_make_bs (P := Try.prog) u 33 5 Try.underlying33 (by kernel_rfl) 16 16 (by omega) (by omega)
    rw [show ((16 : Nat) : Int) = 16 from rfl] at hmk
    have HL : Hid (a.length = 24 + 16 * slotsOf a) := hlen
    have hB : ∀ w0 : World, w0.heap = w.heap → Bs (w0.alloc (.cells (madeCells #[.int .u8 0] 16) 5)) (.slice (some ⟨w.heap.size, 0, none⟩) 16 16) (zeros 16) := fun w0 h => by
      have := Bs.ofOwn (own_made w0 5 w0.heap.size 16 16 (Nat.le_refl _) (by omega) (by unfold maxLen; omega)) (l := zeros 16)
      rw [h] at this
      exact this
    have hlay := fun (v : Value) (w0 : World) (hv : Bs w0 v (zeros 16)) (hu0 : Bs w0 u a) => lay_any u v a (zeros 16) (16 + 16 * j) w0 hu0 hv (by rw [zeros_length]; omega) (by omega)
    simp only [show ((16 + 16 * j : Nat) : Int) = 16 + 16 * (j : Int) by omega] at hlay
    clear hlen hz eL eN
    go_enter Try.func33, Try.ntmps33
    go_wp2_with fail
    refine hp.mono ?_
    rintro e w' ⟨rfl, rfl⟩
    go_wp2_with fail
    go_region_held3 (fun _ => True) (trivial)
      (first
        | (go_at_call 44; refine (slotAt_any j _ (by omega)).mono ?_; rintro e w2 ⟨rfl, rfl⟩)
        | (go_at_call 43; refine (hlay _ _ (by exact hB _ rfl) (by exact hu.kept (((Kept.refl [] w').drew).alloc _))).mono ?_; rintro e w3 ⟨v, rfl, o3, k3⟩))
    all_goals
      have k3 : Kept [] (w'.alloc (.cells (madeCells #[.int .u8 0] 16) 5)) w3 := ⟨k3.os, k3.tape, k3.output, k3.size, k3.block⟩
      go_wp2
      go_ret2
      exact ⟨_, rfl, own_late (o := .cells (madeCells #[.int .u8 0] 16) 5) o3, ((Kept.refl [] w').alloc _).then k3⟩
  · have eL : freeL a i = [] := by unfold freeL; rw [if_neg (by rw [← hz]; exact h0)]
    rw [eL]
    clear hz eL
    go_enter Try.func33, Try.ntmps33
    go_wp2_with fail
    refine hp.mono ?_
    rintro e w' ⟨rfl, rfl⟩
    go_wp2
    go_ret2
    exact ⟨_, rfl, by simpa [u8s] using World.ownsRow_nil _ _ _ _, Kept.refl [] _⟩
theorem fillE_ok' {a : List UInt8} {i k : Int} (h : fillE a i k = 0) : ∃ (j x : Nat), i = (j : Int) ∧ k = (x : Int) ∧ j < slotsOf a ∧ slotsOf a ≠ 0 ∧ x < 4294967296 ∧ placeE a i = 0 := by
  unfold fillE at h
  split at h
  · rename_i c
    split at h
    · omega
    · obtain ⟨j, rfl, h1, h2⟩ := placeE_ok c
      exact ⟨j, k.toNat, rfl, by omega, h1, h2, by omega, c⟩
  · rename_i c
    exact absurd h c
set_option maxHeartbeats 1600000 in
theorem fill_any (u : Value) (a : List UInt8) (i k : Int) (v : Nat) (w : World) (hu : Bs w u a) (hv : v < 18446744073709551616) :
    Calls Try.prog 29 #[u, .int .i64 i, .agg #[.int .i64 k, .int .u64 (v : Int)]] w fun e w' => ∃ c, e = .returned (.tuple #[c, .int .i64 (fillE a i k)]) ∧ w'.ownsRow w.heap.size 5 1 c (fillL a i k v).length (u8s (fillL a i k v)) ∧ Kept [] w w' := by
  have hk0 := (Kept.refl [] w).alloc (.cells #[.int .i64 k, .int .u64 (v : Int)] 61)
  have hu1 := hu.kept hk0
  have hp := lookForSlot_any u a i _ hu1
  by_cases h0 : fillE a i k = 0
  · obtain ⟨j, x, rfl, rfl, hj, h8, hx, hpl⟩ := fillE_ok' h0
    have hsl := slots_le a
    have hlen := slots_len a h8
    have eL : fillL a (j : Int) (x : Int) v = over a (16 + 16 * j) (rowOf x v) := by unfold fillL; rw [if_pos h0]; rfl
    have eN : (over a (16 + 16 * j) (rowOf x v)).length = a.length := over_length _ _ _ (by rw [rowOf_length]; omega)
    rw [h0, eL, eN]
    rw [hpl] at hp
    have c1 : ¬ (x : Int) < 0 := by omega
    have c2 : ¬ (4294967295 : Int) < (x : Int) := by omega
    have eu : IntKind.u32.wrap (x : Int) = (x : Int) := wrap_u32 (by omega)
    have hlay := fun (r : Value) (w0 : World) (hr : Bs w0 r (rowOf x v)) (hu0 : Bs w0 u a) => lay_any u r a (rowOf x v) (16 + 16 * j) w0 hu0 hr (by rw [rowOf_length]; omega) (by omega)
    simp only [show ((16 + 16 * j : Nat) : Int) = 16 + 16 * (j : Int) by omega] at hlay
    have HL : Hid (a.length = 24 + 16 * slotsOf a) := hlen
    have HX : Hid (x < 4294967296) := hx
    have HV : Hid (v < 18446744073709551616) := hv
    clear hlen h0 eL eN hpl hx hv
    go_enter Try.func29, Try.ntmps29
    go_wp2_with fail
    refine hp.mono ?_
    rintro e w' ⟨rfl, rfl⟩
    go_wp2_with fail
    have hB := Bs.litAt (w.alloc (.cells #[.int .i64 (x : Int), .int .u64 (v : Int)] 61)) 5 [1, 0, 0, 0] #[.int .u8 1, .int .u8 0, .int .u8 0, .int .u8 0] rfl (by simp [maxLen]) (w.heap.size + 1) (by simp)
    refine (put32_any _ [1, 0, 0, 0] x _ hB (by simp) (by have := HX.out; omega)).mono ?_
    rintro e w2 ⟨r1, rfl, o1, k1⟩
    have k2 : Kept [] w w2 := (hk0.alloc _).then k1
    have hc : w2.cell? ⟨w.heap.size, 1, none⟩ = some (.int .u64 (v : Int)) := k1.cell (by simp [go_sem]) (by simp)
    have hr1 : Bs w2 r1 ([1, 0, 0, 0] ++ lay 4 x) := Bs.ofOwn o1
    have hu2 := hu.kept k2
    go_wp2_with fail
    go_region_held3 (fun w' => w'.cell? ⟨w.heap.size, 1, none⟩ = some (.int .u64 (v : Int))) (first | go_keep | exact hc | exact k3.cell hc (by simp) | exact k4.cell (k3.cell hc (by simp)) (by simp))
      (first
        | (go_at_call 44; refine (slotAt_any j _ (by omega)).mono ?_; rintro e w5 ⟨rfl, rfl⟩)
        | (go_at_call 45; refine (put64_any _ ([1, 0, 0, 0] ++ lay 4 x) v _ (by exact hr1.heap rfl) (by simp [lay_length]) (by have := HV.out; omega)).mono ?_; rintro e w3 ⟨r2, rfl, o2, k3⟩)
        | (go_at_call 43; refine (hlay _ _ (by exact Bs.ofOwn o2) (by exact hu2.kept ⟨k3.os, k3.tape, k3.output, k3.size, k3.block⟩)).mono ?_; rintro e w4 ⟨c, rfl, o4, k4⟩))
    all_goals
      have k3 : Kept [] w2 w3 := ⟨k3.os, k3.tape, k3.output, k3.size, k3.block⟩
      have k4 : Kept [] w3 w4 := ⟨k4.os, k4.tape, k4.output, k4.size, k4.block⟩
      have k5 : Kept [] w w3 := k2.then k3
      go_wp2
      go_ret2
      exact ⟨_, rfl, own_mono o4 k5.size, k5.then k4⟩
  · have eL : fillL a i k v = [] := by unfold fillL; rw [if_neg h0]
    rw [eL]
    by_cases hpl : placeE a i = 0
    · have eE : fillE a i k = 50 := by
        unfold fillE at h0 ⊢
        rw [if_pos hpl] at h0 ⊢
        split at h0
        · rename_i c; rw [if_pos c]
        · exact absurd rfl h0
      have hk : k < 0 ∨ 4294967295 < k := by
        unfold fillE at h0
        rw [if_pos hpl] at h0
        split at h0
        · assumption
        · exact absurd rfl h0
      rw [eE]
      rw [hpl] at hp
      clear hpl eE eL h0
      by_cases c1 : k < 0
      · go_enter Try.func29, Try.ntmps29
        go_wp2_with fail
        refine hp.mono ?_
        rintro e w' ⟨rfl, rfl⟩
        go_wp2
        go_ret2
        exact ⟨_, rfl, by simpa [u8s] using World.ownsRow_nil _ _ _ _, hk0⟩
      · have c2 : 4294967295 < k := by omega
        clear hk
        go_enter Try.func29, Try.ntmps29
        go_wp2_with fail
        refine hp.mono ?_
        rintro e w' ⟨rfl, rfl⟩
        go_wp2
        go_ret2
        exact ⟨_, rfl, by simpa [u8s] using World.ownsRow_nil _ _ _ _, hk0⟩
    · have eE : fillE a i k = placeE a i := by unfold fillE; rw [if_neg hpl]
      rw [eE]
      generalize placeE a i = z at *
      clear eE eL h0
      go_enter Try.func29, Try.ntmps29
      go_wp2_with fail
      refine hp.mono ?_
      rintro e w' ⟨rfl, rfl⟩
      go_wp2
      go_ret2
      exact ⟨_, rfl, by simpa [u8s] using World.ownsRow_nil _ _ _ _, hk0⟩
end Go.Proofs.Ytoildbbfnhjfoaa
