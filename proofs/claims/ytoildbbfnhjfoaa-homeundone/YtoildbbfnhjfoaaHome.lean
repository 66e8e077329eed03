/-
  OWN WORK. home.Of, Find, Value, Put, Delete: what is done to a page is a function that is handed on.
-/
import Derived.Test.YtoildbbfnhjfoaaHomeFirst
import Derived.Test.YtoildbbfnhjfoaaHomeRef2
namespace Go.Proofs.Ytoildbbfnhjfoaa
open Go.RowKit
set_option linter.unusedVariables false

/-- the pick of a key finds what Find tells -/
def keyP (key : Int) : Nat → Nat → Bool → Bool := fun k _ u => u && decide ((k : Int) = key)
def freeP : Nat → Nat → Bool → Bool := fun _ _ u => !u
theorem keyP_at {a : List UInt8} {key : Int} {j : Nat} (h : j < slotsOf a) : pickAt (keyP key) a j = true ↔ (usedAt a j = true ∧ (keyAt a j : Int) = key) := by
  unfold pickAt keyP
  rw [slotU_at h]
  cases hu : usedAt a j with
  | false => simp
  | true => rw [slotK_at h hu]; simp
theorem first_key (a : List UInt8) (key : Int) : firstIn (keyP key) a = findIn a key := by
  cases h : findIn a key with
  | none =>
    exact firstIn_none.2 fun j hj => by
      have := findIn_none h j hj
      cases e : pickAt (keyP key) a j with
      | false => rfl
      | true => exact absurd ((keyP_at hj).1 e) this
  | some i =>
    obtain ⟨h1, h2, h3, h4⟩ := findIn_some h
    exact firstIn_some.2 ⟨h1, (keyP_at h1).2 ⟨h2, h3⟩, fun j hj => by
      cases e : pickAt (keyP key) a j with
      | false => rfl
      | true => exact absurd ((keyP_at (by omega)).1 e) (h4 j hj)⟩
theorem first_free (a : List UInt8) : firstIn freeP a = freeIn a := by
  have hf : ∀ j, j < slotsOf a → pickAt freeP a j = !usedAt a j := fun j hj => by unfold pickAt freeP; rw [slotU_at hj]
  cases h : freeIn a with
  | none => exact firstIn_none.2 fun j hj => by rw [hf j hj, freeIn_none h j hj]; rfl
  | some i =>
    obtain ⟨h1, h2, h3⟩ := freeIn_some h
    exact firstIn_some.2 ⟨h1, by rw [hf i h1, h2]; rfl, fun j hj => by rw [hf j (by omega), h3 j hj]; rfl⟩
theorem of_any (key pages keys : Int) (w : World) :
    Calls Try.prog 9 #[.int .i64 key, .int .i64 pages, .int .i64 keys] w fun e w' => e = .returned (.tuple #[.int .i64 (ofN key pages keys), .int .i64 (ofE key pages keys)]) ∧ Kept [] w w' := by
  by_cases h1 : pages < 1 ∨ 16 < pages
  · have e1 : ofE key pages keys = 40 := by unfold ofE; rw [if_pos h1]
    have e2 : ofN key pages keys = 0 := by unfold ofN; rw [e1]; rfl
    rw [e1, e2]
    clear e1 e2
    by_cases c1 : pages < 1
    · go_enter Try.func9, Try.ntmps9
      go_wp2
      go_ret2
      exact ⟨rfl, Kept.refl _ _⟩
    · have c2 : 16 < pages := by omega
      go_enter Try.func9, Try.ntmps9
      go_wp2
      go_ret2
      exact ⟨rfl, Kept.refl _ _⟩
  · have p1 : ¬ pages < 1 := by omega
    have p2 : ¬ 16 < pages := by omega
    by_cases h2 : keys < 1 ∨ 1048576 < keys ∨ key < 0 ∨ keys ≤ key
    · have e1 : ofE key pages keys = 50 := by unfold ofE; rw [if_neg h1, if_pos h2]
      have e2 : ofN key pages keys = 0 := by unfold ofN; rw [e1]; rfl
      rw [e1, e2]
      clear e1 e2 h1
      by_cases c1 : keys < 1
      · go_enter Try.func9, Try.ntmps9
        go_wp2
        go_ret2
        exact ⟨rfl, Kept.refl _ _⟩
      · by_cases c2 : 1048576 < keys
        · go_enter Try.func9, Try.ntmps9
          go_wp2
          go_ret2
          exact ⟨rfl, Kept.refl _ _⟩
        · by_cases c3 : key < 0
          · go_enter Try.func9, Try.ntmps9
            go_wp2
            go_ret2
            exact ⟨rfl, Kept.refl _ _⟩
          · have c4 : keys ≤ key := by omega
            go_enter Try.func9, Try.ntmps9
            go_wp2
            go_ret2
            exact ⟨rfl, Kept.refl _ _⟩
    · have e1 : ofE key pages keys = 0 := by unfold ofE; rw [if_neg h1, if_neg h2]
      have e2 : ofN key pages keys = key % pages := by unfold ofN; rw [if_pos e1]
      rw [e1, e2]
      have c1 : ¬ keys < 1 := by omega
      have c2 : ¬ 1048576 < keys := by omega
      have c3 : ¬ key < 0 := by omega
      have c4 : ¬ keys ≤ key := by omega
      have c5 : ¬ pages = 0 := by omega
      clear e1 e2 h1 h2
      go_enter Try.func9, Try.ntmps9
      go_wp2
      go_ret2
      exact ⟨rfl, Kept.refl _ _⟩
theorem fir_key {α : Type} (a : List UInt8) (key : Int) (z : α) (g : Nat → α) : fir (keyP key) a z g = match findIn a key with
    | some i => g i
    | none => z := by
  unfold fir
  rw [first_key]
  cases findIn a key <;> rfl
theorem fir_findI (a : List UInt8) (key : Int) : (fir (keyP key) a 0 fun i => (i : Int)) = (findI a key : Int) := by
  rw [fir_key]; unfold findI; cases findIn a key <;> rfl
theorem fir_findB (a : List UInt8) (key : Int) : (fir (keyP key) a false fun _ => true) = findB a key := by
  rw [fir_key]; unfold findB; cases findIn a key <;> rfl
theorem fir_valI (a : List UInt8) (key : Int) : (fir (keyP key) a 0 fun i => (slotV a (i : Int) : Int)) = (valI a key : Int) := by
  rw [fir_key]; unfold valI
  cases h : findIn a key with
  | none => rfl
  | some i =>
    obtain ⟨h1, h2, -⟩ := findIn_some h
    simp only [slotV_at h1 h2]
theorem find_any (u : Value) (a : List UInt8) (key : Int) (w : World) (hu : Bs w u a) :
    Calls Try.prog 17 #[u, .int .i64 key] w fun e w' => e = .returned (.tuple #[.int .i64 (findI a key : Int), .bool (findB a key)]) ∧ Kept [] w w' := by
  rw [← fir_findI, ← fir_findB]
  go_enter Try.func17, Try.ntmps17
  go_wp2_with fail
  refine (has_any key w).mono ?_
  rintro e w2 ⟨f, rfl, hf, k2⟩
  go_wp2_with fail
  refine (first_any u f a (keyP key) w2 (hu.kept k2) hf).mono ?_
  rintro e w3 ⟨rfl, k3⟩
  go_wp2
  go_ret2
  exact ⟨rfl, (k2.then k3).alloc _⟩
theorem value_any (u : Value) (a : List UInt8) (key : Int) (w : World) (hu : Bs w u a) :
    Calls Try.prog 15 #[u, .int .i64 key] w fun e w' => e = .returned (.tuple #[.int .u64 (valI a key : Int), .bool (findB a key)]) ∧ Kept [] w w' := by
  rw [← fir_valI, ← fir_findB]
  go_enter Try.func15, Try.ntmps15
  go_wp2_with fail
  refine (has_any key w).mono ?_
  rintro e w2 ⟨f, rfl, hf, k2⟩
  go_wp2_with fail
  refine (first_any u f a (keyP key) w2 (hu.kept k2) hf).mono ?_
  rintro e w3 ⟨rfl, k3⟩
  go_wp2
  go_ret2
  exact ⟨rfl, (k2.then k3).alloc _⟩
/-- f is a function that gives, of a page and a slot, a new page, or none -/
def Does (w : World) (f : Value) (a : List UInt8) (L : Int → List UInt8) (E : Int → Int) : Prop :=
  ∃ (gf : Nat) (lb : Array Value), f = .func (.func gf) #[] lb ∧ (∀ args w, (callFunc gf args).run Try.prog w = .ok (.enter gf args) w) ∧
    ∀ (u : Value) (i : Int) (W : World), Kept [] w W → Bs W u a → Calls Try.prog gf (#[u, .int .i64 i] ++ lb) W fun e W' => ∃ c, e = .returned (.tuple #[c, .int .i64 (E i)]) ∧ W'.ownsRow W.heap.size 5 1 c (L i).length (u8s (L i)) ∧ Kept [] W W'
theorem Does.kept {w w' : World} {f : Value} {a : List UInt8} {L : Int → List UInt8} {E : Int → Int} (h : Does w f a L E) (k : Kept [] w w') : Does w' f a L E := by
  obtain ⟨gf, lb, h1, h2, h3⟩ := h
  exact ⟨gf, lb, h1, h2, fun u i W hk hu => h3 u i W (k.then hk) hu⟩
def chL (p : Nat → Nat → Bool → Bool) (a : List UInt8) (L : Int → List UInt8) : List UInt8 := fir p a [] fun i => L (i : Int)
def chB (p : Nat → Nat → Bool → Bool) (a : List UInt8) (E : Int → Int) : Bool := fir p a false fun i => E (i : Int) == 0
set_option maxHeartbeats 1600000 in
theorem change_any (u f d : Value) (a : List UInt8) (p : Nat → Nat → Bool → Bool) (L : Int → List UInt8) (E : Int → Int) (w : World) (hu : Bs w u a) (hf : Picks w f p) (hd : Does w d a L E) :
    Calls Try.prog 30 #[u, f, d] w fun e w' => ∃ c, e = .returned (.tuple #[c, .bool (chB p a E)]) ∧ w'.ownsRow w.heap.size 5 1 c (chL p a L).length (u8s (chL p a L)) ∧ Kept [] w w' := by
  have hfi := first_any u f a p w hu hf
  obtain ⟨gf, lb, rfl, eg, hdo⟩ := hd
  cases h : firstIn p a with
  | none =>
    rw [show chB p a E = false from fir_none h _ _, show chL p a L = [] from fir_none h _ _]
    simp only [fir_none h] at hfi
    clear h
    go_enter Try.func30, Try.ntmps30
    go_wp2_with fail
    refine hfi.mono ?_
    rintro e w2 ⟨rfl, k2⟩
    go_wp2
    go_ret2
    exact ⟨_, rfl, by simpa [u8s] using World.ownsRow_nil _ _ _ _, k2.alloc _⟩
  | some i =>
    rw [show chB p a E = (E (i : Int) == 0) from fir_some h _ _, show chL p a L = L (i : Int) from fir_some h _ _]
    simp only [fir_some h] at hfi
    clear h
    generalize slotK a (i : Int) = K at *
    generalize slotV a (i : Int) = V at *
    go_enter Try.func30, Try.ntmps30
    go_wp2_with fail
    refine hfi.mono ?_
    rintro e w2 ⟨rfl, k2⟩
    have k3 := k2.alloc (.cells #[.int .i64 (K : Int), .int .u64 (V : Int)] 61)
    have h3 := hdo u (i : Int) _ k3 (hu.kept k3)
    go_wp2_with fail
    refine h3.mono ?_
    rintro e w4 ⟨c, rfl, o4, k4⟩
    go_wp2
    go_ret2
    exact ⟨_, rfl, own_mono o4 k3.size, k3.then k4⟩
theorem free_does (w : World) (a : List UInt8) : Does w (.func (.func 33) #[] #[]) a (fun i => freeL a i) (fun i => placeE a i) :=
  ⟨33, #[], rfl, enters_of Try.func33 (by kernel_rfl) rfl, fun u i W hk hu => free_any u a i W hu⟩
theorem fillFn_any (u : Value) (a : List UInt8) (i key : Int) (v g : Nat) (w : World) (hu : Bs w u a) (hv : v < 18446744073709551616) (c0 : w.cell? ⟨g, 0, none⟩ = some (.int .i64 key)) (c1 : w.cell? ⟨g + 1, 0, none⟩ = some (.int .u64 (v : Int))) :
    Calls Try.prog 28 #[u, .int .i64 i, .pointer (some ⟨g, 0, none⟩), .pointer (some ⟨g + 1, 0, none⟩)] w fun e w' => ∃ c, e = .returned (.tuple #[c, .int .i64 (fillE a i key)]) ∧ w'.ownsRow w.heap.size 5 1 c (fillL a i key v).length (u8s (fillL a i key v)) ∧ Kept [] w w' := by
  have hfl := fill_any u a i key v w hu hv
  have HV : Hid (v < 18446744073709551616) := hv
  clear hv
  generalize fillE a i key = E at *
  go_enter Try.func28, Try.ntmps28
  go_wp2_with fail
  refine hfl.mono ?_
  rintro e w2 ⟨c, rfl, o2, k2⟩
  go_wp2
  go_ret2
  exact ⟨_, rfl, o2, k2⟩
theorem fill_does (a : List UInt8) (key : Int) (v g : Nat) (w : World) (hv : v < 18446744073709551616) (c0 : w.cell? ⟨g, 0, none⟩ = some (.int .i64 key)) (c1 : w.cell? ⟨g + 1, 0, none⟩ = some (.int .u64 (v : Int))) :
    Does w (.func (.func 28) #[] #[.pointer (some ⟨g, 0, none⟩), .pointer (some ⟨g + 1, 0, none⟩)]) a (fun i => fillL a i key v) (fun i => fillE a i key) :=
  ⟨28, _, rfl, enters_of Try.func28 (by kernel_rfl) rfl, fun u i W hk hu => fillFn_any u a i key v g W hu hv (hk.cell c0 (by simp)) (hk.cell c1 (by simp))⟩
theorem hdel_any (u : Value) (a : List UInt8) (key : Int) (w : World) (hu : Bs w u a) :
    Calls Try.prog 14 #[u, .int .i64 key] w fun e w' => ∃ v, e = .returned (.tuple #[v, .bool (findB a key)]) ∧ w'.ownsRow w.heap.size 5 1 v (delL a key).length (u8s (delL a key)) ∧ Kept [] w w' := by
  have e1 : chL (keyP key) a (fun i => freeL a i) = delL a key := by
    unfold chL delL
    rw [fir_key]
    cases h : findIn a key with
    | none => rfl
    | some i => simp only [freeL, if_pos (placeE_at (findIn_some h).1), Int.toNat_natCast]
  have e2 : chB (keyP key) a (fun i => placeE a i) = findB a key := by
    unfold chB findB
    rw [fir_key]
    cases h : findIn a key with
    | none => rfl
    | some i => simp [placeE_at (findIn_some h).1]
  rw [← e1, ← e2]
  clear e1 e2
  go_enter Try.func14, Try.ntmps14
  go_wp2_with fail
  refine (has_any key w).mono ?_
  rintro e w2 ⟨f, rfl, hf, k2⟩
  go_wp2_with fail
  refine (change_any u f _ a (keyP key) _ _ w2 (hu.kept k2) hf (free_does w2 a)).mono ?_
  rintro e w3 ⟨c, rfl, o3, k3⟩
  go_wp2
  go_ret2
  exact ⟨_, rfl, own_mono o3 k2.size, k2.then k3⟩
set_option maxHeartbeats 1600000 in
theorem hput_any (u : Value) (a : List UInt8) (key : Int) (v : Nat) (w : World) (hu : Bs w u a) (hv : v < 18446744073709551616) :
    Calls Try.prog 13 #[u, .int .i64 key, .int .u64 (v : Int)] w fun e w' => ∃ c, e = .returned (.tuple #[c, .int .i64 (putE a key)]) ∧ w'.ownsRow w.heap.size 5 1 c (putL a key v).length (u8s (putL a key v)) ∧ Kept [] w w' := by
  have hmf : ∀ (fn : Fn) (first cap : Array Value) (w : World), (Instr.makeFunc fn first cap).run Try.prog w = .ok (.func fn first cap) w := fun _ _ _ _ => rfl
  have k1 := ((Kept.refl [] w).alloc (.cells #[.int .i64 key] 3)).alloc (.cells #[.int .u64 (v : Int)] 32)
  have hs := slot_any u a 0 _ (hu.kept k1)
  have HV : Hid (v < 18446744073709551616) := hv
  clear hv
  by_cases h0 : slotsOf a = 0
  · have e1 : putE a key = 40 := by unfold putE; rw [if_pos h0]
    have e2 : putL a key v = [] := by unfold putL; rw [if_neg (by rw [e1]; omega)]
    rw [e1, e2]
    rw [show placeE a 0 = 40 by unfold placeE; rw [if_pos h0]] at hs
    clear e1 e2 h0
    generalize slotK a 0 = K at *
    generalize slotV a 0 = V at *
    generalize slotU a 0 = U at *
    go_enter Try.func13, Try.ntmps13
    go_wp2_with fail
    refine hs.mono ?_
    rintro e w2 ⟨rfl, k2⟩
    go_wp2
    go_ret2
    exact ⟨_, rfl, by simpa [u8s] using World.ownsRow_nil _ _ _ _, (k1.then k2).alloc _⟩
  · have HS0 : Hid (slotsOf a ≠ 0) := h0
    rw [show placeE a 0 = 0 from placeE_at (a := a) (j := 0) (by omega)] at hs
    generalize slotK a 0 = K at *
    generalize slotV a 0 = V at *
    generalize slotU a 0 = U at *
    have q0 : ∀ w2, Kept [] ((w.alloc (.cells #[.int .i64 key] 3)).alloc (.cells #[.int .u64 (v : Int)] 32)) w2 → w2.cell? ⟨w.heap.size, 0, none⟩ = some (.int .i64 key) ∧ w2.cell? ⟨w.heap.size + 1, 0, none⟩ = some (.int .u64 (v : Int)) := fun w2 k => ⟨k.cell (by simp [go_sem]) (by simp), k.cell (by simp [go_sem]) (by simp)⟩
    by_cases hbad : key < 0 ∨ 4294967295 < key
    · have e1 : putE a key = 50 := by unfold putE; rw [if_neg h0, if_pos hbad]
      have e2 : putL a key v = [] := by unfold putL; rw [if_neg (by rw [e1]; omega)]
      rw [e1, e2]
      clear e1 e2 h0
      by_cases c1 : key < 0
      · go_enter Try.func13, Try.ntmps13
        go_wp2_with fail
        refine hs.mono ?_
        rintro e w2 ⟨rfl, k2⟩
        obtain ⟨q1, q2⟩ := q0 _ (k2.alloc (.cells #[.int .i64 (K : Int), .int .u64 (V : Int)] 61))
        have k3 := (k1.then k2).alloc (.cells #[.int .i64 (K : Int), .int .u64 (V : Int)] 61)
        go_wp2
        go_ret2
        exact ⟨_, rfl, by simpa [u8s] using World.ownsRow_nil _ _ _ _, k3⟩
      · have c2 : 4294967295 < key := by omega
        clear hbad
        go_enter Try.func13, Try.ntmps13
        go_wp2_with fail
        refine hs.mono ?_
        rintro e w2 ⟨rfl, k2⟩
        obtain ⟨q1, q2⟩ := q0 _ (k2.alloc (.cells #[.int .i64 (K : Int), .int .u64 (V : Int)] 61))
        have k3 := (k1.then k2).alloc (.cells #[.int .i64 (K : Int), .int .u64 (V : Int)] 61)
        go_wp2
        go_ret2
        exact ⟨_, rfl, by simpa [u8s] using World.ownsRow_nil _ _ _ _, k3⟩
    · have c1 : ¬ key < 0 := by omega
      have c2 : ¬ (4294967295 : Int) < key := by omega
      have HBAD : Hid (¬ (key < 0 ∨ 4294967295 < key)) := hbad
      clear hbad h0
      cases hc : findIn a key with
      | some i =>
        obtain ⟨e3, e4, e5⟩ := put_fill v (show putAt a key = some i by unfold putAt; rw [hc]) HBAD.out
        have eL : chL (keyP key) a (fun i => fillL a i key v) = putL a key v := by unfold chL; rw [fir_key, hc, e5]
        have eB : chB (keyP key) a (fun i => fillE a i key) = true := by unfold chB; rw [fir_key, hc]; simp [e4]
        have hch := fun f d w hu hf hd => change_any u f d a (keyP key) (fun i => fillL a i key v) (fun i => fillE a i key) w hu hf hd
        rw [eL, eB] at hch
        rw [e3]
        clear e3 e4 e5 eL eB hc
        go_enter Try.func13, Try.ntmps13
        go_wp2_with fail
        refine hs.mono ?_
        rintro e w2 ⟨rfl, k2⟩
        obtain ⟨q1, q2⟩ := q0 _ (k2.alloc (.cells #[.int .i64 (K : Int), .int .u64 (V : Int)] 61))
        have k3 := (k1.then k2).alloc (.cells #[.int .i64 (K : Int), .int .u64 (V : Int)] 61)
        go_wp2_with fail
        refine (has_any key _).mono ?_
        rintro e w4 ⟨f, rfl, hf, k4⟩
        have k5 := k3.then k4
        go_wp2_with fail
        refine (hch f _ w4 (hu.kept k5) hf (fill_does a key v w.heap.size w4 HV.out (k4.cell q1 (by simp)) (k4.cell q2 (by simp)))).mono ?_
        rintro e w6 ⟨c, rfl, o6, k6⟩
        go_wp2
        go_ret2
        exact ⟨_, rfl, own_mono o6 k5.size, k5.then k6⟩
      | none =>
        have eL : chL (keyP key) a (fun i => fillL a i key v) = [] := by unfold chL; rw [fir_key, hc]
        have eB : chB (keyP key) a (fun i => fillE a i key) = false := by unfold chB; rw [fir_key, hc]
        have hch := fun f d w hu hf hd => change_any u f d a (keyP key) (fun i => fillL a i key v) (fun i => fillE a i key) w hu hf hd
        rw [eL, eB] at hch
        have hch2 := fun d w hu hd => change_any u (.func (.func 32) #[] #[]) d a freeP (fun i => fillL a i key v) (fun i => fillE a i key) w hu (unused_picks w) hd
        have HA : Hid (putAt a key = freeIn a) := (show putAt a key = freeIn a by unfold putAt; rw [hc])
        clear eL eB hc
        obtain ⟨B, hB⟩ : ∃ B, B = chB freeP a (fun i => fillE a i key) := ⟨_, rfl⟩
        obtain ⟨L, hL⟩ : ∃ L, L = chL freeP a (fun i => fillL a i key v) := ⟨_, rfl⟩
        rw [← hB, ← hL] at hch2
        obtain ⟨zE, hzE⟩ : ∃ z, z = putE a key := ⟨_, rfl⟩
        obtain ⟨zL, hzL⟩ : ∃ z, z = putL a key v := ⟨_, rfl⟩
        rw [← hzE, ← hzL]
        have HBL : Hid ((B = true ∧ zE = 0 ∧ zL = L) ∨ (B = false ∧ zE = 42 ∧ zL = [])) := by
          rw [hzE, hzL]
          unfold chB fir at hB
          unfold chL fir at hL
          rw [first_free] at hB hL
          cases hfr : freeIn a with
          | none =>
            obtain ⟨e1, e2⟩ := put_full (show putAt a key = none by rw [HA.out, hfr]) HS0.out HBAD.out v
            rw [hfr] at hB
            exact .inr ⟨hB, e1, e2⟩
          | some i =>
            obtain ⟨e3, e4, e5⟩ := put_fill v (show putAt a key = some i by rw [HA.out, hfr]) HBAD.out
            rw [hfr] at hB hL
            exact .inl ⟨by simpa [e4] using hB, e3, by rw [hL]; exact e5⟩
        clear hB hL hzE hzL
        go_enter Try.func13, Try.ntmps13
        go_wp2_with fail
        refine hs.mono ?_
        rintro e w2 ⟨rfl, k2⟩
        obtain ⟨q1, q2⟩ := q0 _ (k2.alloc (.cells #[.int .i64 (K : Int), .int .u64 (V : Int)] 61))
        have k3 := (k1.then k2).alloc (.cells #[.int .i64 (K : Int), .int .u64 (V : Int)] 61)
        go_wp2_with fail
        refine (has_any key _).mono ?_
        rintro e w4 ⟨f, rfl, hf, k4⟩
        have k5 := k3.then k4
        have p1 := k4.cell q1 (by simp)
        have p2 := k4.cell q2 (by simp)
        go_wp2_with fail
        refine (hch f _ w4 (hu.kept k5) hf (fill_does a key v w.heap.size w4 HV.out p1 p2)).mono ?_
        rintro e w6 ⟨c, rfl, o6, k6⟩
        have k7 := k5.then k6
        go_wp2_with fail
        refine (hch2 _ w6 (hu.kept k7) (fill_does a key v w.heap.size w6 HV.out (k6.cell p1 (by simp)) (k6.cell p2 (by simp)))).mono ?_
        rintro e w8 ⟨c, rfl, o8, k8⟩
        rcases HBL.out with ⟨rfl, rfl, rfl⟩ | ⟨rfl, rfl, rfl⟩
        · go_wp2
          go_ret2
          exact ⟨_, rfl, own_mono o8 k7.size, k7.then k8⟩
        · go_wp2
          go_ret2
          exact ⟨_, rfl, by simpa [u8s] using World.ownsRow_nil _ _ _ _, k7.then k8⟩
end Go.Proofs.Ytoildbbfnhjfoaa
