import Derived.Test.YtnjfahgmebmakaaGreatDoorC5
/-
  OWN WORK (by mkpq1.py). The law's listed and has (layer 18).
-/
namespace Go.Proofs.YtnjfahgmebmakaaGreatDoor
open Go.RowKit
set_option linter.unusedVariables false
set_option linter.unusedSimpArgs false

theorem src_asC {P : Program} (w : World) (t e : TypeId) (ht : P.underlying t = some (.slice e)) (a b : Int) (d : Bool) : Src P 3 t (.slice (some ⟨w.heap.size, 0, none⟩) 1 1) 1 [.int .i64 a, .int .u64 b, .bool d] (w.alloc (.cells #[.int .i64 a, .int .u64 b, .bool d] e)) := by
  refine Src.ofSlice _ ht _ _ _ _ rfl (fun j u hj => ?_) (fun u hu => ?_)
  · rw [add_none rfl]
    have q := (Blk.new w e [.int .i64 a, .int .u64 b, .bool d]).cell hj
    simpa using q
  · simp at hu
    rcases hu with rfl | rfl | rfl <;> rfl
theorem look_at {l : List (Int × Int)} {k : Nat} {x : Int × Int} {key : Int} (hx : l[k]? = some x) (hn : ∀ j y, j < k → l[j]? = some y → y.1 ≠ key) (e : x.1 = key) : lookE l key = some x.2 := by
  unfold lookE
  have hf : l.find? (fun e => e.1 == key) = some x := by
    rw [split_at hx, List.find?_append, List.find?_eq_none.2 fun y hy => ?_]
    · simp [e]
    · obtain ⟨i, hi, rfl⟩ := List.getElem_of_mem hy
      have hik : i < k := by simp at hi; omega
      have hl := (List.getElem?_eq_some_iff.1 hx).1
      have := hn i l[i] hik (List.getElem?_eq_getElem (by omega))
      simpa using this
  rw [hf]; rfl
theorem look_no {l : List (Int × Int)} {key : Int} (hn : ∀ j y, j < l.length → l[j]? = some y → y.1 ≠ key) : lookE l key = none := lookE_none.2 fun e he => by
  obtain ⟨i, hi, rfl⟩ := List.getElem_of_mem he
  exact hn i _ hi (List.getElem?_eq_getElem hi)
theorem asC_take {l : List (Int × Int)} {k : Nat} {x : Int × Int} (h : l[k]? = some x) : (l.take (k + 1)).map asC = (l.take k).map asC ++ [asC x] := by
  rw [List.take_add_one, h, List.map_append]; rfl
set_option maxRecDepth 20000 in
set_option maxHeartbeats 6400000 in
theorem has_any (v : Value) (l : List (Int × Int)) (key u : Int) (b : Nat) (w : World) (h : Es w b v l) : Calls Tryz.prog 25 #[v, .int .i64 key, .int .u64 u] w fun e w' => e = .returned (.bool (hasE l key u)) ∧ Kept [] w w' := by
  obtain ⟨p, c, hpa, hnc, hcm⟩ := h.shape
  subst hpa
  obtain ⟨n, hn⟩ : ∃ n, n = l.length := ⟨_, rfl⟩
  have HN := @hideH _ (And.intro hn (Nat.le_trans hnc hcm))
  have HA := @hideH _ h
  rw [← hn] at HA ⊢
  clear h hn hnc hcm
  go_enter Tryz.func25, Tryz.ntmps25
  go_wp2
  go_loopw [7] (fun vi wr => ∃ k : Nat, k ≤ n ∧ vi = .int .i64 k ∧ Hid (Kept [] w wr ∧ ∀ j y, j < k → l[j]? = some y → y.1 ≠ key)) (fun vi _ => n - (intOf vi).toNat)
  case atStart => exact ⟨0, Nat.zero_le _, rfl, Kept.refl _ _, fun j y hj => by omega⟩
  case round =>
    obtain ⟨k, hk, rfl, hh⟩ := hrel
    by_cases hkl : k < n
    · have hkl' : (k : Int) < (n : Int) := by omega
      have h0 : (0 : Int) ≤ (k : Int) := by omega
      have wk : IntKind.i64.wrap ((k : Int) + 1) = (k : Int) + 1 := wrap_i64_of (by omega) (by have e := HN.out.2; rw [← HN.out.1] at e; unfold maxLen at e; omega)
      obtain ⟨x, hx⟩ : ∃ x, l[k]? = some x := ⟨_, List.getElem?_eq_getElem (by have := HN.out.1; omega)⟩
      obtain ⟨ga, epa, -, -, a0, a1⟩ := (HA.out.kept hh.out.1 (by simp)).at hx
      subst epa
      have HH := @hideH _ hh.out
      clear hh
      by_cases hxk : x.1 = key
      · have hq : (x.1 == key) = true := by simpa using hxk
        have HR := @hideH _ (show hasE l key u = (x.2 == u) by unfold hasE; rw [look_at hx HH.out.2 hxk])
        clear hx
        go_wp2
        go_ret
        exact ⟨by rw [HR.out]; rfl, HH.out.1⟩
      · have hq : (x.1 == key) = false := by simpa using hxk
        have HR := @hideH _ (show ∀ j y, j < k + 1 → l[j]? = some y → y.1 ≠ key from fun j y hj hy => by
          by_cases e : j = k
          · subst e; rw [hx] at hy; cases hy; exact hxk
          · exact HH.out.2 j y (by omega) hy)
        clear hx
        go_wp2
        go_roundw
        case rel => exact ⟨k + 1, by omega, by go_num, HH.out.1, HR.out⟩
        case measure => simp [intOf]; omega
    · have hkl' : ¬ (k : Int) < (n : Int) := by omega
      have HR := @hideH _ (show hasE l key u = false by unfold hasE; rw [look_no (fun j y hj => hh.out.2 j y (by have := HN.out.1; omega))])
      go_wp2
      go_ret
      exact ⟨by rw [HR.out]; rfl, hh.out.1⟩
set_option maxRecDepth 20000 in
set_option maxHeartbeats 6400000 in
theorem listed_any (v : Value) (l : List (Int × Int)) (b0 : Nat) (w : World) (h : Es w b0 v l) (hl : l.length ≤ 3600000000000) : Calls Tryz.prog 24 #[v] w fun e w' => ∃ vo, e = .returned vo ∧ Cs w' w.heap.size vo (l.map asC) ∧ Kept [] w w' := by
  obtain ⟨p, c, hpa, hnc, hcm⟩ := h.shape
  subst hpa
  obtain ⟨n, hn⟩ : ∃ n, n = l.length := ⟨_, rfl⟩
  have HN := @hideH _ (And.intro hn (show n ≤ 3600000000000 by omega))
  have HA := @hideH _ h
  rw [← hn] at HA ⊢
  clear h hn hnc hcm hl
  obtain ⟨infC, hin1, hin2, hin3, hin4⟩ := info_parts3 (show (Tryz.prog.info? 50).map (fun i => (i.zero, i.size, i.bytes)) = some (some (.agg #[.int .i64 0, .int .u64 0, .bool false]), 3, 24) by kernel_rfl)
  have HIC := @hideH _ (And.intro hin1 (And.intro hin2 (And.intro hin3 hin4)))
  clear hin1 hin2 hin3 hin4
  go_enter Tryz.func24, Tryz.ntmps24
  go_wp2
  go_loopw [3, 4] (fun vo vi wr => ∃ (k : Nat) (po : Option Addr) (co : Nat), k ≤ n ∧ vi = .int .i64 k ∧ vo = .slice po k co ∧ Hid (Cs wr w.heap.size (.slice po k co) ((l.take k).map asC) ∧ Kept [] w wr)) (fun _ vi _ => n - (intOf vi).toNat)
  case atStart => exact ⟨0, none, 0, Nat.zero_le _, rfl, rfl, Cs.nil _ _, Kept.refl _ _⟩
  case round =>
    obtain ⟨k, po, co, hk, rfl, rfl, hh⟩ := hrel
    have HB := @hideH _ hh.out
    clear hh
    by_cases hkl : k < n
    rotate_left
    · have hkl' : ¬ (k : Int) < (n : Int) := by omega
      have HE := @hideH _ (show l.take k = l ∧ k = l.length from ⟨List.take_of_length_le (by have := HN.out.1; omega), by have := HN.out.1; omega⟩)
      go_wp2
      go_ret
      refine ⟨_, rfl, ?_, HB.out.2⟩
      have q := HB.out.1
      rw [HE.out.1] at q
      exact q
    have hkl' : (k : Int) < (n : Int) := by omega
    have h0 : (0 : Int) ≤ (k : Int) := by omega
    have wk : IntKind.i64.wrap ((k : Int) + 1) = (k : Int) + 1 := wrap_i64_of (by omega) (by have e := HN.out.2; omega)
    obtain ⟨x, hx⟩ : ∃ x, l[k]? = some x := ⟨_, List.getElem?_eq_getElem (by have := HN.out.1; omega)⟩
    obtain ⟨b, epa, -, -, a0, a1⟩ := HA.out.at hx
    subst epa
    have HX := @hideH _ (And.intro a0 a1)
    have HTX := @hideH _ (asC_take hx)
    have HLJ := @hideH _ (show ((l.take k).map asC).length = k by rw [List.length_map, List.length_take]; have := HN.out.1; omega)
    clear a0 a1 hx
    go_upto_region 5 with fail
    have KS := fun (wx : World) (kk : Kept [] w wx) => (⟨kk.cell HX.out.1 (by simp), kk.cell HX.out.2 (by simp)⟩ : (fun w' => w'.cell? ⟨b, k * 2, none⟩ = some (.int .i64 x.1) ∧ w'.cell? ⟨b, k * 2 + 1, none⟩ = some (.int .u64 x.2)) wx)
    obtain ⟨w6, hw6⟩ : ∃ wx, wx = wr.drew := ⟨_, rfl⟩
    have k6 : Kept [] wr w6 := by rw [hw6]; exact (Kept.refl [] wr).drew
    have hS := KS w6 (HB.out.2.then k6)
    try dsimp only at hS
    obtain ⟨w7, hw7⟩ : ∃ wx, wx = w6.alloc (.cells #[.int .i64 x.1, .int .u64 x.2, .bool false] 50) := ⟨_, rfl⟩
    have k67 : Kept [] w6 w7 := by rw [hw7]; exact (Kept.refl [] w6).alloc _
    have k7 := k6.then k67
    have hS7 := KS w7 (HB.out.2.then k7)
    try dsimp only at hS7
    have hsrc := src_asC (P := Tryz.prog) w6 48 50 Tryz.underlying48 x.1 x.2 false
    rw [← hw7] at hsrc
    have R7 : Row w7 w.heap.size 3 (.slice po k co) k (ccells ((l.take k).map asC)) := by have q := HB.out.1.kept k7 (by simp); unfold Cs at q; rw [HLJ.out] at q; exact q
    have hba : w.heap.size ≤ w7.heap.size := (HB.out.2.then k7).size
    have HKS := @hideH _ KS
    have HK7 := @hideH _ k7
    clear KS k7 k6 k67
    refine wp_region_late (fun w' => w'.cell? ⟨b, k * 2, none⟩ = some (.int .i64 x.1) ∧ w'.cell? ⟨b, k * 2 + 1, none⟩ = some (.int .u64 x.2)) 15 (by kernel_rfl) ?_
    rw [← hw6]
    clear hw6
    refine wpAnyZ_takeD 0 (v := ?va0_1) rfl (by kernel_rfl) (by rfl) (by kernel_rfl) (by kernel_rfl) (fun _ _ _ h => h) (by rfl) ?hya0_1 hS ?resta0_1
    case hya0_1 => (intro wx hSx; obtain ⟨s1, s2⟩ := hSx; go_simp; (try with_reducible rfl))
    (try simp only [Act.put, List.getElem_toArray, List.getElem_cons_zero, List.getElem_cons_succ, List.setIfInBounds_toArray, List.set_cons_zero, List.set_cons_succ])
    refine wpAnyZ_takeD 1 (v := ?va1_2) rfl (by kernel_rfl) (by rfl) (by kernel_rfl) (by kernel_rfl) (fun _ _ _ h => h) (by rfl) ?hya1_2 hS ?resta1_2
    case hya1_2 => (intro wx hSx; obtain ⟨s1, s2⟩ := hSx; go_simp; (try with_reducible rfl))
    (try simp only [Act.put, List.getElem_toArray, List.getElem_cons_zero, List.getElem_cons_succ, List.setIfInBounds_toArray, List.set_cons_zero, List.set_cons_succ])
    refine wpAnyZ_takeD 2 (v := ?va2_3) rfl (by kernel_rfl) (by rfl) (by kernel_rfl) (by kernel_rfl) (fun _ _ _ h => h) (by rfl) ?hya2_3 hS ?resta2_3
    case hya2_3 => (intro wx hSx; obtain ⟨s1, s2⟩ := hSx; go_simp; (try with_reducible rfl))
    (try simp only [Act.put, List.getElem_toArray, List.getElem_cons_zero, List.getElem_cons_succ, List.setIfInBounds_toArray, List.set_cons_zero, List.set_cons_succ])
    refine wpAnyZ_takeD 3 (v := ?va3_4) rfl (by kernel_rfl) (by rfl) (by kernel_rfl) (by kernel_rfl) (fun _ _ _ h => h) (by rfl) ?hya3_4 hS ?resta3_4
    case hya3_4 => (intro wx hSx; obtain ⟨s1, s2⟩ := hSx; go_simp; (try with_reducible rfl))
    (try simp only [Act.put, List.getElem_toArray, List.getElem_cons_zero, List.getElem_cons_succ, List.setIfInBounds_toArray, List.set_cons_zero, List.set_cons_succ])
    refine wpAnyZ_takeD 4 (v := ?va4_5) rfl (by kernel_rfl) (by rfl) (by kernel_rfl) (by kernel_rfl) (fun _ _ _ h => h) (by rfl) ?hya4_5 hS ?resta4_5
    case hya4_5 => (intro wx hSx; obtain ⟨s1, s2⟩ := hSx; go_simp; (try with_reducible rfl))
    (try simp only [Act.put, List.getElem_toArray, List.getElem_cons_zero, List.getElem_cons_succ, List.setIfInBounds_toArray, List.set_cons_zero, List.set_cons_succ])
    refine wpAnyZ_takeD 5 (v := ?va5_6) rfl (by kernel_rfl) (by rfl) (by kernel_rfl) (by kernel_rfl) (fun _ _ _ h => h) (by rfl) ?hya5_6 hS ?resta5_6
    case hya5_6 => (intro wx hSx; obtain ⟨s1, s2⟩ := hSx; go_simp; (try with_reducible rfl))
    (try simp only [Act.put, List.getElem_toArray, List.getElem_cons_zero, List.getElem_cons_succ, List.setIfInBounds_toArray, List.set_cons_zero, List.set_cons_succ])
    refine wpAnyZ_takeD 6 (v := ?va6_7) rfl (by kernel_rfl) (by rfl) (by kernel_rfl) (by kernel_rfl) (fun _ _ _ h => h) (by rfl) ?hya6_7 hS ?resta6_7
    case hya6_7 => (intro wx hSx; obtain ⟨s1, s2⟩ := hSx; go_simp; (try with_reducible rfl))
    (try simp only [Act.put, List.getElem_toArray, List.getElem_cons_zero, List.getElem_cons_succ, List.setIfInBounds_toArray, List.set_cons_zero, List.set_cons_succ])
    refine wpAnyZ_takeD 7 (v := ?va7_8) rfl (by kernel_rfl) (by rfl) (by kernel_rfl) (by kernel_rfl) (fun _ _ _ h => h) (by rfl) ?hya7_8 hS ?resta7_8
    case hya7_8 => (intro wx hSx; obtain ⟨s1, s2⟩ := hSx; go_simp; (try with_reducible rfl))
    (try simp only [Act.put, List.getElem_toArray, List.getElem_cons_zero, List.getElem_cons_succ, List.setIfInBounds_toArray, List.set_cons_zero, List.set_cons_succ])
    refine wpAnyZ_takeD 8 (v := ?va8_9) rfl (by kernel_rfl) (by rfl) (by kernel_rfl) (by kernel_rfl) (fun _ _ _ h => h) (by rfl) ?hya8_9 hS ?resta8_9
    case hya8_9 => (intro wx hSx; obtain ⟨s1, s2⟩ := hSx; go_simp; (try with_reducible rfl))
    (try simp only [Act.put, List.getElem_toArray, List.getElem_cons_zero, List.getElem_cons_succ, List.setIfInBounds_toArray, List.set_cons_zero, List.set_cons_succ])
    refine wpAnyZ_takeD 9 (v := ?va9_10) rfl (by kernel_rfl) (by rfl) (by kernel_rfl) (by kernel_rfl) (fun _ _ _ h => h) (by rfl) ?hya9_10 hS ?resta9_10
    case hya9_10 => (intro wx hSx; obtain ⟨s1, s2⟩ := hSx; go_simp; (try with_reducible rfl))
    (try simp only [Act.put, List.getElem_toArray, List.getElem_cons_zero, List.getElem_cons_succ, List.setIfInBounds_toArray, List.set_cons_zero, List.set_cons_succ])
    refine wpAnyZ_takeD 10 (v := ?va10_11) rfl (by kernel_rfl) (by rfl) (by kernel_rfl) (by kernel_rfl) (fun _ _ _ h => h) (by rfl) ?hya10_11 hS ?resta10_11
    case hya10_11 => (intro wx hSx; obtain ⟨s1, s2⟩ := hSx; go_simp; (try with_reducible rfl))
    (try simp only [Act.put, List.getElem_toArray, List.getElem_cons_zero, List.getElem_cons_succ, List.setIfInBounds_toArray, List.set_cons_zero, List.set_cons_succ])
    refine wpAnyZ_takeD 11 (v := ?va11_12) rfl (by kernel_rfl) (by rfl) (by kernel_rfl) (by kernel_rfl) (fun _ _ _ h => h) (by rfl) ?hya11_12 hS ?resta11_12
    case hya11_12 => (intro wx hSx; obtain ⟨s1, s2⟩ := hSx; go_simp; (try with_reducible rfl))
    (try simp only [Act.put, List.getElem_toArray, List.getElem_cons_zero, List.getElem_cons_succ, List.setIfInBounds_toArray, List.set_cons_zero, List.set_cons_succ])
    refine wpAnyZ_one 12 rfl (by kernel_rfl) (fun K hK => ?_)
    go_simp
    rw [← hw7]
    refine hK _ _ (fun _ => hS7) ?_
    clear hK K hS hw7
    (try simp only [Act.put, List.getElem_toArray, List.getElem_cons_zero, List.getElem_cons_succ, List.setIfInBounds_toArray, List.set_cons_zero, List.set_cons_succ])
    refine wpAnyZ_one 13 rfl (by kernel_rfl) (fun K hK => ?_)
    refine step_append_row2 rfl (.tmp 11) (.tmp 23) 48 rfl w.heap.size 50 infC (.agg #[.int .i64 0, .int .u64 0, .bool false]) 3 24 Tryz.underlying48 HIC.out.1 HIC.out.2.1 HIC.out.2.2.1 HIC.out.2.2.2 rfl _ _ _ (by rfl) R7 _ 1 _ (by rfl) hsrc (by have e1 := HN.out.2; omega) (by have e1 := HN.out.2; unfold maxLen; omega) (by have e1 := HN.out.2; omega) hba ?_
    intro v' w8 r8 k8 o8
    obtain ⟨pw8, cw8, hv', -⟩ := Row.shape r8
    subst hv'
    have HB8 := @hideH _ (show Cs w8 w.heap.size (.slice pw8 (k + 1) cw8) ((l.take (k + 1)).map asC) ∧ Kept [] w w8 from ⟨by unfold Cs; rw [HTX.out, List.length_append, HLJ.out, ccells_append]; exact r8, (HB.out.2.then HK7.out).trans k8 (fun y hy => .inr (Row.lt HB.out.1 y (own_mem.1 hy)).1)⟩)
    have hS8 := HKS.out w8 HB8.out.2
    try dsimp only at hS8
    clear r8 k8 o8 hsrc R7 hba hS7 HK7 HKS HB
    refine hK _ _ (fun _ => hS8) ?_
    clear hK K
    (try simp only [Act.put, List.getElem_toArray, List.getElem_cons_zero, List.getElem_cons_succ, List.setIfInBounds_toArray, List.set_cons_zero, List.set_cons_succ])
    refine wpAnyZ_takeD 14 (v := ?va14_13) rfl (by kernel_rfl) (by rfl) (by kernel_rfl) (by kernel_rfl) (fun _ _ _ h => h) (by rfl) ?hya14_13 hS8 ?resta14_13
    case hya14_13 => (intro wx hSx; obtain ⟨s1, s2⟩ := hSx; go_simp; (try with_reducible rfl))
    (try simp only [Act.put, List.getElem_toArray, List.getElem_cons_zero, List.getElem_cons_succ, List.setIfInBounds_toArray, List.set_cons_zero, List.set_cons_succ])
    refine wpAnyZ_done (by kernel_rfl) ?_ _
    clear hS8
    go_wp2
    go_roundw
    case rel => exact ⟨k + 1, pw8, cw8, by omega, by go_num, rfl, HB8.out⟩
    case measure => simp [intOf]; omega
end Go.Proofs.YtnjfahgmebmakaaGreatDoor

