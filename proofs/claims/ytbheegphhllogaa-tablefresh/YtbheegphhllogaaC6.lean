import Derived.Shelf.RegionOpenPlain
import Derived.Test.YtbheegphhllogaaRows
import Derived.Test.YtbheegphhllogaaC5
/-
  OWN WORK (by mktr0.py). The landed table: how it lies; New, Count, what a row is compared by.
-/
namespace Go.Proofs.Ytbheegphhllogaa
open Go.RowKit
set_option linter.unusedVariables false
set_option linter.unusedSimpArgs false

/-- the landed table at block g, in the blocks F: it tells S -/
def Tr (w : World) (g : Nat) (F : List Nat) (m : Int) (S : List RowR) : Prop :=
  ∃ v, Blk w g 56 [.int .i64 m, v] ∧ Rw w 0 v S ∧ OkT m S ∧ F = g :: v.ownBlock.toList ∧ ∀ x, v.ownBlock = some x → x ≠ g
theorem Tr.kept {w w' : World} {g : Nat} {F : List Nat} {m : Int} {S : List RowR} {D : List Nat} (h : Tr w g F m S) (k : Kept D w w') (hD : ∀ x ∈ F, x ∉ D) : Tr w' g F m S := by
  obtain ⟨v, h1, h2, h4, rfl, h6⟩ := h
  exact ⟨v, h1.kept k (hD g (by simp)), h2.kept k (fun x hx => hD x (List.mem_cons_of_mem _ (own_mem.2 hx))), h4, rfl, h6⟩
theorem Tr.lt {w : World} {g : Nat} {F : List Nat} {m : Int} {S : List RowR} (h : Tr w g F m S) : ∀ x ∈ F, x < w.heap.size := by
  obtain ⟨v, h1, h2, h4, rfl, h6⟩ := h
  intro x hx
  rcases List.mem_cons.1 hx with rfl | hx
  · exact h1.lt
  · exact (h2.lt (own_mem.1 hx)).2
theorem Tr.ok {w : World} {g : Nat} {F : List Nat} {m : Int} {S : List RowR} (h : Tr w g F m S) : OkT m S := by
  obtain ⟨v, h1, h2, h4, h5, h6⟩ := h
  exact h4
/-- what a walk reads of it -/
theorem Tr.open_ {w : World} {g : Nat} {F : List Nat} {m : Int} {S : List RowR} (h : Tr w g F m S) : ∃ p c, w.cell? ⟨g, 0, none⟩ = some (.int .i64 m) ∧ w.cell? ⟨g, 1, none⟩ = some (.slice p S.length c) ∧ Rw w 0 (.slice p S.length c) S ∧ S.length ≤ 8 := by
  obtain ⟨v, h1, h2, h4, h5, h6⟩ := h
  obtain ⟨p, c, rfl⟩ := h2.shape
  have e1 := h4.len; have e2 := h4.most
  exact ⟨p, c, h1.cell (j := 0) rfl, h1.cell (j := 1) rfl, h2, by omega⟩
theorem qNew (most : Int) (w : World) : Calls Try.prog 16 #[.int .i64 most] w fun e w' => (isM most ∧ ∃ g F, e = .returned (.tuple #[.pointer (some ⟨g, 0, none⟩), .int .i64 0]) ∧ Tr w' g F most [] ∧ (∀ x ∈ F, w.heap.size ≤ x) ∧ Kept [] w w') ∨ (¬ isM most ∧ e = .returned (.tuple #[.pointer none, .int .i64 161]) ∧ Kept [] w w') := by
  go_enter Try.func16, Try.ntmps16
  by_cases h1 : most < (1 : Int)
  · have HM := @hideH _ (show ¬ isM most from fun h => by have := h.1; omega)
    go_wp2
    go_ret2
    exact .inr ⟨HM.out, rfl, Kept.refl _ _⟩
  · by_cases h2 : (8 : Int) < most
    · have HM := @hideH _ (show ¬ isM most from fun h => by have := h.2; omega)
      go_wp2
      go_ret2
      exact .inr ⟨HM.out, rfl, Kept.refl _ _⟩
    · have HM := @hideH _ (show isM most from ⟨by omega, by omega⟩)
      go_wp2
      go_ret2
      refine .inl ⟨HM.out, w.heap.size, rfl, [w.heap.size], ⟨_, Blk.new w _ [.int .i64 most, .slice none 0 0], Rw.nil _ _, OkT.new HM.out, rfl, fun x hx => by cases hx⟩, by simp, (Kept.refl [] w).alloc _⟩
theorem qCount {g : Nat} {F : List Nat} {m : Int} {S : List RowR} (w : World) (h : Tr w g F m S) : Calls Try.prog 10 #[.pointer (some ⟨g, 0, none⟩)] w fun e w' => e = .returned (.int .i64 (S.length : Int)) ∧ Kept [] w w' := by
  obtain ⟨p, c, c0, c1, E, h8⟩ := h.open_
  clear E h h8
  go_enter Try.func10, Try.ntmps10
  go_wp2
  go_ret
  exact ⟨rfl, Kept.refl _ _⟩
/-- how two numbers stand -/
def cmpI (a b : Int) : Int := if a < b then -1 else if b < a then 1 else 0
theorem cmpI_lt {a b : Int} : cmpI a b < 0 ↔ a < b := by
  unfold cmpI
  by_cases h : a < b
  · rw [if_pos h]; exact ⟨fun _ => h, fun _ => by omega⟩
  · rw [if_neg h]
    refine ⟨fun q => ?_, fun q => absurd q h⟩
    by_cases h2 : b < a
    · rw [if_pos h2] at q; omega
    · rw [if_neg h2] at q; omega
theorem cmpI_eq {a b : Int} : cmpI a b = 0 ↔ a = b := by
  unfold cmpI
  by_cases h : a < b
  · rw [if_pos h]; exact ⟨fun q => by omega, fun q => by omega⟩
  · rw [if_neg h]
    by_cases h2 : b < a
    · rw [if_pos h2]; exact ⟨fun q => by omega, fun q => by omega⟩
    · rw [if_neg h2]; exact ⟨fun q => by omega, fun q => rfl⟩
theorem qNaN (a : Int) (w : World) : Calls Try.prog 42 #[.int .i64 a] w fun e w' => e = .returned (.bool false) ∧ w = w' := by
  go_enter Try.func42, Try.ntmps42
  go_wp2
  go_ret
  exact ⟨by simp, rfl⟩
set_option maxRecDepth 20000 in
theorem qCompare (a b : Int) (w : World) : Calls Try.prog 39 #[.int .i64 a, .int .i64 b] w fun e w' => e = .returned (.int .i64 (cmpI a b)) ∧ w = w' := by
  go_enter Try.func39, Try.ntmps39
  go_wp2_with fail
  refine (qNaN a w).mono ?_
  rintro e w1 ⟨rfl, hw1⟩
  subst hw1
  go_wp2_with fail
  refine (qNaN b w).mono ?_
  rintro e w1 ⟨rfl, hw1⟩
  subst hw1
  by_cases h : a < b
  · have HC := @hideH _ (show cmpI a b = -1 from if_pos h)
    go_wp2
    go_ret
    exact ⟨by rw [HC.out]; rfl, rfl⟩
  · by_cases h2 : b < a
    · have HC := @hideH _ (show cmpI a b = 1 by unfold cmpI; rw [if_neg h, if_pos h2])
      go_wp2
      go_ret
      exact ⟨by rw [HC.out]; rfl, rfl⟩
    · have HC := @hideH _ (show cmpI a b = 0 by unfold cmpI; rw [if_neg h, if_neg h2])
      go_wp2
      go_ret
      exact ⟨by rw [HC.out]; rfl, rfl⟩
set_option maxRecDepth 20000 in
theorem qNumber (x : RowR) (w : World) : Calls Try.prog 60 #[x.v] w fun e w' => e = .returned (.int .i64 x.birth) ∧ Kept [] w w' := by
  obtain ⟨w1, hw1⟩ : ∃ wx, wx = w.alloc (.cells #[.int .i64 x.birth, .int .i64 x.id, .int .i64 x.state, .int .i64 x.last, .int .i64 x.next] 57) := ⟨_, rfl⟩
  have kw1 : Kept [] w w1 := by rw [hw1]; exact (Kept.refl [] w).alloc _
  have X : Blk w1 w.heap.size 57 x.cs := by rw [hw1]; exact Blk.new w _ _
  have HK1 := @hideH _ kw1
  clear kw1
  show Calls Try.prog 60 #[.agg #[.int .i64 x.birth, .int .i64 x.id, .int .i64 x.state, .int .i64 x.last, .int .i64 x.next]] w _
  have z0 := X.cell (j := 0) rfl
  have z1 := X.cell (j := 1) rfl
  have z2 := X.cell (j := 2) rfl
  have z3 := X.cell (j := 3) rfl
  have z4 := X.cell (j := 4) rfl
  clear X
  go_enter Try.func60, Try.ntmps60
  go_upto_region 1 with fail
  rw [← hw1]
  clear hw1
  go_wp2
  go_ret
  exact ⟨rfl, HK1.out⟩
set_option maxRecDepth 20000 in
theorem qPlace1 (x : RowR) (b : Int) (w : World) : Calls Try.prog 38 #[x.v, .int .i64 b] w fun e w' => e = .returned (.int .i64 (cmpI x.birth b)) ∧ Kept [] w w' := by
  obtain ⟨w1, hw1⟩ : ∃ wx, wx = w.alloc (.cells #[.int .i64 x.birth, .int .i64 x.id, .int .i64 x.state, .int .i64 x.last, .int .i64 x.next] 57) := ⟨_, rfl⟩
  have kw1 : Kept [] w w1 := by rw [hw1]; exact (Kept.refl [] w).alloc _
  have X : Blk w1 w.heap.size 57 x.cs := by rw [hw1]; exact Blk.new w _ _
  have HK1 := @hideH _ kw1
  clear kw1
  have q := qNumber x w1
  unfold RowR.v at q
  have HQ := @hideH _ q
  clear q
  show Calls Try.prog 38 #[.agg #[.int .i64 x.birth, .int .i64 x.id, .int .i64 x.state, .int .i64 x.last, .int .i64 x.next], .int .i64 b] w _
  have z0 := X.cell (j := 0) rfl
  have z1 := X.cell (j := 1) rfl
  have z2 := X.cell (j := 2) rfl
  have z3 := X.cell (j := 3) rfl
  have z4 := X.cell (j := 4) rfl
  clear X
  go_enter Try.func38, Try.ntmps38
  go_upto_region 1 with fail
  rw [← hw1]
  clear hw1
  go_wp2_with fail
  refine HQ.out.mono ?_
  clear HQ
  rintro e w2 ⟨rfl, k2⟩
  have HK2 := @hideH _ (HK1.out.then k2)
  clear k2
  go_wp2_with fail
  refine (qCompare x.birth b w2).mono ?_
  rintro e w3 ⟨rfl, hw3⟩
  subst hw3
  go_wp2
  go_ret
  exact ⟨rfl, HK2.out⟩
end Go.Proofs.Ytbheegphhllogaa

/-
  OWN WORK (by mktr7.py). slices.Delete at the table's rows.
-/
namespace Go.Proofs.Ytbheegphhllogaa
open Go.RowKit
set_option linter.unusedVariables false
set_option linter.unusedSimpArgs false

set_option maxRecDepth 100000 in
set_option maxHeartbeats 4000000 in
theorem qDelete (g q c k : Nat) (S : List RowR) (w : World) (h : Rw w 0 (.slice (some ⟨g, 0, none⟩) (q + 1) c) S) (hn : q + 1 = S.length) (h8 : q ≤ 8) (hk : k ≤ q) : Calls Try.prog 34 #[.slice (some ⟨g, 0, none⟩) (q + 1) c, .int .i64 (k : Int), .int .i64 ((k : Int) + 1)] w fun e w' => e = .returned (.slice (some ⟨g, 0, none⟩) q c) ∧ Rw w' 0 (.slice (some ⟨g, 0, none⟩) q c) (S.take k ++ S.drop (k + 1)) ∧ Kept [g] w w' := by
  have hR : Row w 0 5 (.slice (some ⟨g, 0, none⟩) (q + 1) c) (q + 1) (rcells S) := by have r := h; unfold Rw at r; rw [← hn] at r; exact r
  obtain ⟨-, -, p', c', e', hnc, hcm, h5⟩ := hR
  cases e'
  rcases h5 with ⟨h5, -⟩ | ⟨g', e', hg6, hg7, hg8, hg9⟩
  · cases h5
  cases e'
  obtain ⟨i0, hi0, hz0, hs0, hb0⟩ := info_parts3 (show (Try.prog.info? 57).map (fun i => (i.zero, i.size, i.bytes)) = some (some (.agg #[.int .i64 0, .int .i64 0, .int .i64 0, .int .i64 0, .int .i64 0]), 5, 40) by kernel_rfl)
  obtain ⟨v5, hv5⟩ : ∃ v, v = Value.slice (if c = k + 1 then some ⟨g, 0, none⟩ else (some (⟨g, 0, none⟩ : Addr)).map (·.add ((k + 1) * 5))) (q + 1 - (k + 1)) (c - (k + 1)) := ⟨_, rfl⟩
  have hcut5 : ∀ w, (Instr.slice 52 (.slice (some ⟨g, 0, none⟩) (q + 1) c) (some (.int .i64 ((k : Int) + 1))) none none).run Try.prog w = .ok v5 w := fun w => by rw [hv5, show (k : Int) + 1 = ((k + 1 : Nat) : Int) by omega]; exact run_cut_from_sz w 52 57 5 Try.underlying52 (by kernel_rfl) _ _ _ _ (by omega)
  have htl : (rcells (S.drop (k + 1))).length = (q - k) * 5 := by rw [rcells_length, List.length_drop]; omega
  have hsrc : Src Try.prog 5 52 v5 (q - k) (rcells (S.drop (k + 1))) w.drew := by
    rw [hv5]
    by_cases hc : c = k + 1
    · rw [if_pos hc]
      have e0 : q = k := by omega
      rw [show q + 1 - (k + 1) = 0 by omega, show q - k = 0 by omega, show rcells (S.drop (k + 1)) = [] from List.eq_nil_of_length_eq_zero (by rw [htl]; omega)]
      exact Src.ofSlice w.drew Try.underlying52 ⟨g, 0, none⟩ 0 (c - (k + 1)) [] rfl (fun j u hj => by simp at hj) (fun u hu => by simp at hu)
    · rw [if_neg hc, Option.map_some, show q + 1 - (k + 1) = q - k by omega]
      refine Src.ofSlice w.drew Try.underlying52 _ (q - k) (c - (k + 1)) _ htl (fun j u hj => ?_) (rcells_one _)
      rw [add_none rfl, add_none rfl]
      rw [← rcells_drop, List.getElem?_drop] at hj
      have := hg8 _ u hj
      simpa using this
  have hap : (Builtin.append_ #[52, 52] 52 #[.slice (some ⟨g, 0, none⟩) k c, v5]).run Try.prog w.drew = .ok (.slice (some ⟨g, 0, none⟩) q c) (w.drew.setCells g (k * 5) (rcells (S.drop (k + 1)))) := by
    have r := run_append_room_src (P := Try.prog) w.drew 52 52 52 57 i0 Try.underlying52 hi0 g 0 k c v5 (q - k) (rcells (S.drop (k + 1))) (by rw [hs0]; exact hsrc) (by omega) (fun j hj => (hg9 _ (by rw [hs0]; rw [htl] at hj; omega)).1) (fun j hj => (hg9 _ (by rw [hs0]; rw [htl] at hj; omega)).2)
    rw [hs0, Nat.zero_add, show k + (q - k) = q by omega] at r
    exact r
  obtain ⟨W1, hW1⟩ : ∃ W1, W1 = w.drew.setCells g (k * 5) (rcells (S.drop (k + 1))) := ⟨_, rfl⟩
  rw [← hW1] at hap
  obtain ⟨a1, FIN⟩ := (h.kept ((Kept.refl [] w).drew) (by simp)).closed hn hk hW1
  have hcl : (Builtin.clear_ #[52] 0 #[.slice (some ⟨g, q * 5, none⟩) 1 (c - q)]).run Try.prog W1 = .ok (.tuple #[]) (W1.setCells g (q * 5) zero5) := run_clear_row W1 52 57 _ Try.underlying52 Try.zeroValue57 g (q * 5) (c - q) (fun j hj => (a1 _ (by omega)).1) (fun j hj => (a1 _ (by omega)).2)
  obtain ⟨W2, hW2⟩ : ∃ W2, W2 = W1.setCells g (q * 5) zero5 := ⟨_, rfl⟩
  rw [← hW2] at hcl FIN
  have HF := @hideH _ FIN
  have HA := @hideH _ hap
  have hz2 : ((k : Int) == (k : Int) + 1) = false := by simp; omega
  have hk1 : (k : Int) ≤ (k : Int) + 1 := by omega
  have hk2 : (k : Int) + 1 ≤ (q : Int) + 1 := by omega
  have hk0 : (0 : Int) ≤ (k : Int) := by omega
  have hk3 : (0 : Int) ≤ (k : Int) + 1 := by omega
  have hqc : (q : Int) + 1 ≤ (c : Int) := by omega
  have hkc : (k : Int) ≤ (c : Int) := by omega
  have hq0 : (q : Int) ≤ (q : Int) + 1 := by omega
  have hcq : ¬ c = q := by omega
  have HC := @hideH _ (show ¬ q + 1 = k by omega)
  have htk : ((k : Int) + 1).toNat = k + 1 := by omega
  have htq : ((q : Int) + 1).toNat = q + 1 := by omega
  clear h hn h8 hk hg6 hg7 hg8 hg9 hcm hnc hsrc htl hap hW1 hW2 a1 FIN hv5 hi0 hz0 hs0 hb0
  go_enter Try.func34, Try.ntmps34
  go_upto_region 5 with fail
  refine wp_region_late (fun _ => True) 7 (by kernel_rfl) ?_
  refine wpAnyZ_take 0 (v := ?va0) rfl (by kernel_rfl) (by kernel_rfl) (by kernel_rfl) (by kernel_rfl) (fun _ _ _ h => h) (by rfl) ?hya0 trivial ?resta0
  case hya0 => (intro wx hSx; obtain - := hSx; go_simp; (try with_reducible rfl))
  (try simp only [Act.put, List.getElem_toArray, List.getElem_cons_zero, List.getElem_cons_succ, List.setIfInBounds_toArray, List.set_cons_zero, List.set_cons_succ])
  refine wpAnyZ_take 1 (v := ?va1) rfl (by kernel_rfl) (by kernel_rfl) (by kernel_rfl) (by kernel_rfl) (fun _ _ _ h => h) (by rfl) ?hya1 trivial ?resta1
  case hya1 => (intro wx hSx; obtain - := hSx; go_simp; (try with_reducible rfl))
  (try simp only [Act.put, List.getElem_toArray, List.getElem_cons_zero, List.getElem_cons_succ, List.setIfInBounds_toArray, List.set_cons_zero, List.set_cons_succ])
  refine wpAnyZ_take 2 (v := ?va2) rfl (by kernel_rfl) (by kernel_rfl) (by kernel_rfl) (by kernel_rfl) (fun _ _ _ h => h) (by rfl) ?hya2 trivial ?resta2
  case hya2 => (intro wx hSx; obtain - := hSx; go_simp; (try with_reducible rfl))
  (try simp only [Act.put, List.getElem_toArray, List.getElem_cons_zero, List.getElem_cons_succ, List.setIfInBounds_toArray, List.set_cons_zero, List.set_cons_succ])
  refine wpAnyZ_take 3 (v := ?va3) rfl (by kernel_rfl) (by kernel_rfl) (by kernel_rfl) (by kernel_rfl) (fun _ _ _ h => h) (by rfl) ?hya3 trivial ?resta3
  case hya3 => (intro wx hSx; obtain - := hSx; go_simp; (try with_reducible rfl))
  (try simp only [Act.put, List.getElem_toArray, List.getElem_cons_zero, List.getElem_cons_succ, List.setIfInBounds_toArray, List.set_cons_zero, List.set_cons_succ])
  refine wpAnyZ_take 4 (v := ?va4) rfl (by kernel_rfl) (by kernel_rfl) (by kernel_rfl) (by kernel_rfl) (fun _ _ _ h => h) (by rfl) ?hya4 trivial ?resta4
  case hya4 => (intro wx hSx; obtain - := hSx; go_simp; (try with_reducible rfl))
  (try simp only [Act.put, List.getElem_toArray, List.getElem_cons_zero, List.getElem_cons_succ, List.setIfInBounds_toArray, List.set_cons_zero, List.set_cons_succ])
  refine wpAnyZ_take 5 (v := ?va5) rfl (by kernel_rfl) (by kernel_rfl) (by kernel_rfl) (by kernel_rfl) (fun _ _ _ h => h) (by rfl) ?hya5 trivial ?resta5
  case hya5 => (intro wx hSx; obtain - := hSx; go_simp; (try with_reducible rfl))
  (try simp only [Act.put, List.getElem_toArray, List.getElem_cons_zero, List.getElem_cons_succ, List.setIfInBounds_toArray, List.set_cons_zero, List.set_cons_succ])
  refine wpAnyZ_one 6 rfl (by kernel_rfl) (fun K hK => ?_)
  refine step_append_runT rfl (.tmp 22) (.tmp 25) 52 52 rfl _ _ (by rfl) (by rfl) HA.out ?_
  refine hK _ _ (fun _ => trivial) ?_
  clear hK K HA hcut5
  (try simp only [Act.put, List.getElem_toArray, List.getElem_cons_zero, List.getElem_cons_succ, List.setIfInBounds_toArray, List.set_cons_zero, List.set_cons_succ])
  refine wpAnyZ_one 7 rfl (by kernel_rfl) (fun K hK => ?_)
  go_simp
  refine hK _ _ (fun h => absurd rfl h) ?_
  clear hK K
  (try simp only [Act.put, List.getElem_toArray, List.getElem_cons_zero, List.getElem_cons_succ, List.setIfInBounds_toArray, List.set_cons_zero, List.set_cons_succ])
  refine wpAnyZ_done (by kernel_rfl) ?_ _
  go_wp2
  go_ret
  exact ⟨rfl, HF.out.1, (((Kept.refl [] w).drew).mono (T := [g]) (by simp)).trans HF.out.2 (fun y hy => .inl hy)⟩
end Go.Proofs.Ytbheegphhllogaa

/-
  OWN WORK (by mktr5.py). slices.Insert at the table's rows.
-/
namespace Go.Proofs.Ytbheegphhllogaa
open Go.RowKit
set_option linter.unusedVariables false
set_option linter.unusedSimpArgs false

theorem row_src {P : Program} (w : World) (t e : TypeId) (ht : P.underlying t = some (.slice e)) {vb : Nat} {x : RowR} (B : Blk w vb e x.cs) : Src P 5 t (.slice (some ⟨vb, 0, none⟩) 1 1) 1 x.cs w :=
  Src.ofSlice w ht ⟨vb, 0, none⟩ 1 1 x.cs rfl (fun j u hj => by rw [add_none rfl]; simpa using B.cell hj) (cs_one x)
theorem drew_cellT (w : World) (a : Addr) : w.drew.cell? a = w.cell? a := rfl
theorem drew_frozenT (w : World) (a : Addr) : w.drew.frozen? a = w.frozen? a := rfl
theorem insEnd_cells {n : Nat} {S : List RowR} (x : RowR) (h : n = S.length) : (insAt S n x).length = n + 1 ∧ rcells (insAt S n x) = rcells S ++ x.cs := by
  subst h
  exact ⟨insAt_length S _ x (Nat.le_refl _), by rw [insAt_cells, List.take_length, List.drop_length]; simp [rcells]⟩
/-- what Insert leaves: the rows with x at k, in the old block or in a new one -/
def InsE (w : World) (s : Value) (S : List RowR) (k : Nat) (x : RowR) (e : Ending) (w' : World) : Prop := ∃ v', e = .returned v' ∧ Rw w' 0 v' (insAt S k x) ∧ Kept s.ownBlock.toList w w' ∧ (v'.ownBlock = s.ownBlock ∨ ∃ b, v'.ownBlock = some b ∧ w.heap.size ≤ b)
set_option maxRecDepth 100000 in
set_option maxHeartbeats 4000000 in
theorem qInsEnd (p : Option Addr) (n c vb : Nat) (S : List RowR) (x : RowR) (w : World) (h : Rw w 0 (.slice p n c) S) (hn : n = S.length) (h8 : n ≤ 8) (B : Blk w vb 57 x.cs) : Calls Try.prog 33 #[.slice p n c, .int .i64 (n : Int), .slice (some ⟨vb, 0, none⟩) 1 1] w (InsE w (.slice p n c) S n x) := by
  obtain ⟨inf, hin1, hin2, hin3, hin4⟩ := info_parts3 (show (Try.prog.info? 57).map (fun i => (i.zero, i.size, i.bytes)) = some (some (.agg #[.int .i64 0, .int .i64 0, .int .i64 0, .int .i64 0, .int .i64 0]), 5, 40) by kernel_rfl)
  have HI := @hideH _ (And.intro hin1 (And.intro hin2 (And.intro hin3 hin4)))
  clear hin1 hin2 hin3 hin4
  have HR := @hideH _ (show Row w 0 5 (.slice p n c) n (rcells S) by have q := h; unfold Rw at q; rw [← hn] at q; exact q)
  have HS := @hideH _ (row_src (P := Try.prog) w 52 57 Try.underlying52 B)
  have HN := @hideH _ (And.intro hn h8)
  have hcut := run_cut_from_sz (P := Try.prog) w 52 57 5 Try.underlying52 (by kernel_rfl) p n c n (Nat.le_refl _)
  obtain ⟨v12, hv12⟩ : ∃ v, v = Value.slice (if c = n then p else p.map (·.add (n * 5))) (n - n) (c - n) := ⟨_, rfl⟩
  rw [← hv12] at hcut
  clear h hn h8 B hv12
  go_enter Try.func33, Try.ntmps33
  go_wp2_with (at_builtin; refine wpList_append_row2 rfl (.tmp 23) (.tmp 24) 52 rfl 0 57 inf (.agg #[.int .i64 0, .int .i64 0, .int .i64 0, .int .i64 0, .int .i64 0]) 5 40 Try.underlying52 HI.out.1 HI.out.2.1 HI.out.2.2.1 HI.out.2.2.2 rfl _ _ _ (by rfl) HR.out _ 1 _ (by rfl) HS.out (by have e1 := HN.out; omega) (by have e1 := HN.out; unfold maxLen; omega) (by have e1 := HN.out; omega) (Nat.zero_le _) ?_; intro v' w8 r8 k8 o8; obtain ⟨p8, c8, hv8, -⟩ := Row.shape r8; subst hv8)
  go_ret
  refine ⟨_, rfl, ?_, k8, ?_⟩
  · show Row _ _ _ _ _ _
    rw [(insEnd_cells x HN.out.1).1, (insEnd_cells x HN.out.1).2]
    exact r8
  · rcases o8 with o8 | o8
    · exact .inl o8
    · exact .inr ⟨_, o8.1, Nat.le_refl _⟩
set_option maxRecDepth 100000 in
set_option maxHeartbeats 4000000 in
theorem qInsShift (g n c vb k : Nat) (S : List RowR) (x : RowR) (w : World) (h : Rw w 0 (.slice (some ⟨g, 0, none⟩) n c) S) (hn : n = S.length) (h8 : n ≤ 8) (B : Blk w vb 57 x.cs) (hvg : vb ≠ g) (hk : k < n) (hroom : n + 1 ≤ c) : Calls Try.prog 33 #[.slice (some ⟨g, 0, none⟩) n c, .int .i64 (k : Int), .slice (some ⟨vb, 0, none⟩) 1 1] w (InsE w (.slice (some ⟨g, 0, none⟩) n c) S k x) := by
  have hR : Row w 0 5 (.slice (some ⟨g, 0, none⟩) n c) n (rcells S) := by have q := h; unfold Rw at q; rw [← hn] at q; exact q
  obtain ⟨-, -, p', c', e', -, hcm, h5⟩ := hR
  cases e'
  rcases h5 with ⟨h5, -⟩ | ⟨g', e', hg6, hg7, hg8, hg9⟩
  · cases h5
  cases e'
  obtain ⟨tB, kB, hsb, hkB⟩ := shape_of_cell (hg9 0 (by omega)).1
  have hov : ∀ lb cb, (callFunc 40 #[.slice (some ⟨vb, 0, none⟩) 1 1, .slice (some ⟨g, (k + 1) * 5, none⟩) lb cb]).run Try.prog w = .ok (.value (.bool false)) w := fun lb cb => by
    rw [run_callFunc_extern Try.func40 (by kernel_rfl) (by kernel_rfl) (by kernel_rfl) (e := Extern.SlicesOverlaps.overlaps #[52, 52] #[4]) (by kernel_rfl),
      Lib.run_overlaps_apart w 52 4 57 Try.underlying52 5 Try.sizeOf57 ⟨vb, 0, none⟩ ⟨g, (k + 1) * 5, none⟩ 1 1 lb cb hvg _ tB _ kB B.shape hsb hkB (B.free 0) (B.free _)]
    rfl
  have HH := @hideH _ (And.intro h (And.intro hn h8))
  have HG := @hideH _ (And.intro hg8 hg9)
  have HB := @hideH _ B
  have hz2 : ((k : Int) == (n : Int)) = false := by simp; omega
  have hz3 : ¬ (c : Int) < (n : Int) + 1 := by omega
  have hkn : (k : Int) ≤ (n : Int) := by omega
  have hk0 : (0 : Int) ≤ (k : Int) := by omega
  have hck : ¬ c = k := by omega
  have hck1 : ¬ c = k + 1 := by omega
  have wn : IntKind.i64.wrap ((n : Int) + 1) = (n : Int) + 1 := wrap_i64_of (by omega) (by omega)
  have wk : IntKind.i64.wrap ((k : Int) + 1) = (k : Int) + 1 := wrap_i64_of (by omega) (by omega)
  have hkn1 : (k : Int) + 1 ≤ (n : Int) + 1 := by omega
  have hnc : (n : Int) + 1 ≤ (c : Int) := by omega
  have htn : ((k : Int) + 1).toNat = k + 1 := by omega
  have htm : ((n : Int) + 1).toNat = n + 1 := by omega
  have hkn2 : (k : Int) ≤ (n : Int) + 1 := by omega
  have hk10 : (0 : Int) ≤ (k : Int) + 1 := by omega
  have mixed : Try.prog.follows Departure.mixedOrders = true := by kernel_rfl
  have HKN := @hideH _ (And.intro hk hroom)
  have hdl : (rcells (S.drop k)).length = (n - k) * 5 := by rw [rcells_length, List.length_drop, hn]
  have HC1 := @hideH _ (show ∀ ty dc sc, (Builtin.copy_ #[52, 52] ty #[.slice (some ⟨g, (k + 1) * 5, none⟩) (n - k) dc, .slice (some ⟨g, k * 5, none⟩) (n + 1 - k) sc]).run Try.prog w.drew = .ok (goInt (Nat.min (n + 1 - k) (n - k))) (w.drew.setCells g ((k + 1) * 5) (rcells (S.drop k))) from fun ty dc sc => by
    refine run_copy_cells_k w.drew _ _ ty 57 5 g ((k + 1) * 5) _ _ ⟨g, k * 5, none⟩ _ _ _ Try.underlying52 (by kernel_rfl) (by rw [hdl]; simp only [Nat.min_def]; split <;> omega) (fun j v hj => ?_) (fun j hj => ?_) (fun j hj => ?_) (rcells_one _)
    · rw [add_none rfl]
      have hj2 : (rcells S)[k * 5 + j]? = some v := by rw [← rcells_drop, List.getElem?_drop] at hj; exact hj
      exact hg8 _ v hj2
    · rw [hdl] at hj; exact (hg9 _ (by omega)).1
    · rw [hdl] at hj; exact (hg9 _ (by omega)).2)
  clear h hn h8 B hg8 hg9 hg7 hg6 hsb hkB hcm hk hroom
  go_enter Try.func33, Try.ntmps33
  go_upto_region 15 with (simp only [hov])
  clear hov
  have hcp1 := HC1.out 3 (c - (k + 1)) (c - k)
  clear HC1
  go_region
  clear hcp1
  obtain ⟨W1, hW1⟩ : ∃ W, W = w.drew.setCells g ((k + 1) * 5) (rcells (S.drop k)) := ⟨_, rfl⟩
  rw [← hW1]
  have hdl : (rcells (S.drop k)).length = (n - k) * 5 := by rw [rcells_length, List.length_drop, HH.out.2.1]
  have q1 : ∀ j, j < (rcells (S.drop k)).length → (w.drew.cell? ⟨g, (k + 1) * 5 + j, none⟩).isSome = true := fun j hj => (HG.out.2 _ (by have := HKN.out; rw [hdl] at hj; omega)).1
  have HC2 := @hideH _ (show ∀ ty dc, (Builtin.copy_ #[52, 52] ty #[.slice (some ⟨g, k * 5, none⟩) (n + 1 - k) dc, .slice (some ⟨vb, 0, none⟩) 1 1]).run Try.prog W1 = .ok (goInt (Nat.min 1 (n + 1 - k))) (W1.setCells g (k * 5) x.cs) from fun ty dc => by
    refine run_copy_cells_k W1 _ _ ty 57 5 g (k * 5) _ _ ⟨vb, 0, none⟩ _ _ _ Try.underlying52 (by kernel_rfl) (by rw [show Nat.min 1 (n + 1 - k) = 1 by have := HKN.out; simp only [Nat.min_def]; split <;> omega]; rfl) (fun j v hj => ?_) (fun j hj => ?_) (fun j hj => ?_) (cs_one x)
    · rw [add_none rfl, hW1, World.cell?_setCells_out g _ _ _ _ (fun e _ => absurd e hvg)]
      have := HB.out.cell hj
      simpa using this
    · rw [hW1]
      have hj5 : j < 5 := hj
      exact isSome_setCellsT g _ _ _ q1 _ (HG.out.2 _ (by have := HKN.out; omega)).1
    · rw [hW1, World.frozen?_setCells]
      have hj5 : j < 5 := hj
      exact (HG.out.2 _ (by have := HKN.out; omega)).2)
  have HF := @hideH _ (Rw.opened (x := x) (k := k) (HH.out.1.kept ((Kept.refl [] w).drew) (by simp)) (by have := HKN.out; omega) HKN.out.2 HH.out.2.1 rfl)
  have HW := @hideH _ (show W1.setCells g (k * 5) x.cs = opened w.drew g (k * 5) x.cs (rcells (S.drop k)) by unfold opened; rw [hW1, show k * 5 + x.cs.length = (k + 1) * 5 by have : x.cs.length = 5 := rfl; omega])
  clear hW1 q1 hdl
  have hcp2 := HC2.out 3 (c - k)
  rw [HW.out] at hcp2
  clear HC2
  go_wp2
  clear hcp2
  go_ret
  exact ⟨_, rfl, HF.out.1, (((Kept.refl [] w).drew).mono (T := [g]) (by simp)).trans HF.out.2 (fun y hy => .inl hy), .inl rfl⟩
set_option maxRecDepth 100000 in
set_option maxHeartbeats 4000000 in
theorem qInsGrow (g n c vb k : Nat) (S : List RowR) (x : RowR) (w : World) (h : Rw w 0 (.slice (some ⟨g, 0, none⟩) n c) S) (hn : n = S.length) (h8 : n ≤ 8) (B : Blk w vb 57 x.cs) (hk : k < n) (hnc : n ≤ c) (hroom : c < n + 1) : Calls Try.prog 33 #[.slice (some ⟨g, 0, none⟩) n c, .int .i64 (k : Int), .slice (some ⟨vb, 0, none⟩) 1 1] w (InsE w (.slice (some ⟨g, 0, none⟩) n c) S k x) := by
  obtain ⟨inf, hin1, hin2, hin3, hin4⟩ := info_parts3 (show (Try.prog.info? 57).map (fun i => (i.zero, i.size, i.bytes)) = some (some (.agg #[.int .i64 0, .int .i64 0, .int .i64 0, .int .i64 0, .int .i64 0]), 5, 40) by kernel_rfl)
  have HI := @hideH _ (And.intro hin1 (And.intro hin2 (And.intro hin3 hin4)))
  clear hin1 hin2 hin3 hin4
  have hR : Row w 0 5 (.slice (some ⟨g, 0, none⟩) n c) n (rcells S) := by have q := h; unfold Rw at q; rw [← hn] at q; exact q
  obtain ⟨-, -, p', c', e', -, hcm, h5⟩ := hR
  cases e'
  rcases h5 with ⟨h5, -⟩ | ⟨g', e', hg6, hg7, hg8, hg9⟩
  · cases h5
  cases e'
  obtain ⟨G, W, hrz, hrm⟩ := run_append_rows_zeros (P := Try.prog) w 52 3 52 57 inf _ Try.underlying52 Try.underlying3 HI.out.1 HI.out.2.1 HI.out.2.2.1 HI.out.2.2.2 rfl g n c k S h hn h8 hk hroom
  obtain ⟨N, hN⟩ : ∃ N, N = w.heap.size := ⟨_, rfl⟩
  rw [← hN] at hrz hrm
  have HR := @hideH _ hrz
  have HM := @hideH _ hrm
  have HGR := @hideH _ (And.intro hrm.room hN)
  have HH := @hideH _ (And.intro h (And.intro hn h8))
  have HG := @hideH _ (And.intro hg7 (And.intro hg8 hg9))
  have HB := @hideH _ B
  have hz2 : ((k : Int) == (n : Int)) = false := by simp; omega
  have hz3 : (c : Int) < (n : Int) + 1 := by omega
  have hkn : (k : Int) ≤ (n : Int) := by omega
  have hk0 : (0 : Int) ≤ (k : Int) := by omega
  have hck : ¬ c = k := by omega
  have hkc : (k : Int) ≤ (c : Int) := by omega
  have wn : IntKind.i64.wrap ((n : Int) + 1) = (n : Int) + 1 := wrap_i64_of (by omega) (by omega)
  have wnk : IntKind.i64.wrap ((n : Int) + 1 - (k : Int)) = (n : Int) + 1 - (k : Int) := wrap_i64_of (by omega) (by omega)
  have wk : IntKind.i64.wrap ((k : Int) + 1) = (k : Int) + 1 := wrap_i64_of (by omega) (by omega)
  have hkn1 : (k : Int) + 1 ≤ (n : Int) + 1 := by omega
  have htn : ((k : Int) + 1).toNat = k + 1 := by omega
  have hkn2 : (k : Int) ≤ (n : Int) + 1 := by omega
  have hk10 : (0 : Int) ≤ (k : Int) + 1 := by omega
  have hGk : ¬ G = k := by have := hrm.room; omega
  have hGk1 : ¬ G = k + 1 := by have := hrm.room; omega
  have HKN := @hideH _ (And.intro hk (And.intro hnc hroom))
  clear h hn h8 B hg8 hg9 hg7 hg6 hcm hk hroom hnc hrz hrm hN
  go_enter Try.func33, Try.ntmps33
  go_upto_region 10 with (at_builtin; refine Lib.wpList_append_run _ rfl _ _ _ _ rfl _ _ rfl rfl _ _ HR.out ?_)
  clear HR
  have HLT := @hideH _ (show vb ≠ N ∧ g ≠ N by have := HGR.out.2; have := HG.out.1; have := HB.out.lt; omega)
  have HB2 := @hideH _ (HB.out.kept HM.out.kept (by simp))
  have hcp1 := show (Builtin.copy_ #[52, 52] 3 #[.slice (some ⟨N, k * 5, none⟩) (n + 1 - k) (G - k), .slice (some ⟨vb, 0, none⟩) 1 1]).run Try.prog W = .ok (goInt (Nat.min 1 (n + 1 - k))) (W.setCells N (k * 5) x.cs) by
    refine run_copy_cells_k W _ _ 3 57 5 N (k * 5) _ _ ⟨vb, 0, none⟩ _ _ _ Try.underlying52 (by kernel_rfl) (by rw [show Nat.min 1 (n + 1 - k) = 1 by have := HKN.out; simp only [Nat.min_def]; split <;> omega]; rfl) (fun j v hj => ?_) (fun j hj => ?_) (fun j hj => ?_) (cs_one x)
    · rw [add_none rfl]
      have := HB2.out.cell hj
      simpa using this
    · have hj5 : j < 5 := hj
      exact (HM.out.all _ (by have := HKN.out; have := HGR.out; omega)).1
    · have hj5 : j < 5 := hj
      exact (HM.out.all _ (by have := HKN.out; have := HGR.out; omega)).2
  obtain ⟨W1, hW1⟩ : ∃ W1, W1 = W.setCells N (k * 5) x.cs := ⟨_, rfl⟩
  rw [← hW1] at hcp1
  have HW1 := @hideH _ (show Kept [N] W W1 by rw [hW1]; exact kept_setCells N _ _ W)
  have HW1c := @hideH _ hW1
  clear hW1
  go_upto_region 11 with fail
  clear hcp1
  have k1d : Kept [N] W W1.drew := HW1.out.trans ((Kept.refl [N] W1).drew) (fun y hy => .inl hy)
  have HL := @hideH _ (HM.out.laid (x := x) (W1 := W1.drew) HH.out.2.1 (by have := HKN.out; omega) (fun a => by rw [drew_cellT, HW1c.out]) (fun a => by rw [drew_frozenT, HW1c.out]; exact World.frozen?_setCells N _ _ W a) k1d)
  have hg9 := HG.out.2.2
  have hg8 := HG.out.2.1
  have kall : Kept [] w W1.drew := HM.out.kept.trans k1d (fun y hy => .inr (by simp at hy; have := HGR.out.2; omega))
  have hdl : (rcells (S.drop k)).length = (n - k) * 5 := by rw [rcells_length, List.length_drop, HH.out.2.1]
  have hcp2 := show (Builtin.copy_ #[52, 52] 3 #[.slice (some ⟨N, (k + 1) * 5, none⟩) (n - k) (G - (k + 1)), .slice (some ⟨g, k * 5, none⟩) (n - k) (c - k)]).run Try.prog W1.drew = .ok (goInt (Nat.min (n - k) (n - k))) (W1.drew.setCells N ((k + 1) * 5) (rcells (S.drop k))) by
    refine run_copy_cells_k W1.drew _ _ 3 57 5 N ((k + 1) * 5) _ _ ⟨g, k * 5, none⟩ _ _ _ Try.underlying52 (by kernel_rfl) (by rw [hdl, show Nat.min (n - k) (n - k) = n - k from Nat.min_self _]) (fun j v hj => ?_) (fun j hj => ?_) (fun j hj => ?_) (rcells_one _)
    · rw [add_none rfl]
      have hj2 : (rcells S)[k * 5 + j]? = some v := by rw [← rcells_drop, List.getElem?_drop] at hj; exact hj
      exact kall.cell (hg8 _ v hj2) (by simp)
    · have q := (HM.out.all ((k + 1) * 5 + j) (by rw [hdl] at hj; have := HKN.out; have := HGR.out; omega)).1
      have q2 : (W1.drew.cell? ⟨N, (k + 1) * 5 + j, none⟩) = (W.setCells N (k * 5) x.cs).cell? ⟨N, (k + 1) * 5 + j, none⟩ := by rw [drew_cellT, HW1c.out]
      rw [q2]
      exact isSome_setCellsT N _ _ _ (fun t ht => (HM.out.all _ (by have ht5 : t < 5 := ht; have := HKN.out; have := HGR.out; omega)).1) _ q
    · have q := (HM.out.all ((k + 1) * 5 + j) (by rw [hdl] at hj; have := HKN.out; have := HGR.out; omega)).2
      have q2 : (W1.drew.frozen? ⟨N, (k + 1) * 5 + j, none⟩) = (W.setCells N (k * 5) x.cs).frozen? ⟨N, (k + 1) * 5 + j, none⟩ := by rw [drew_frozenT, HW1c.out]
      rw [q2, World.frozen?_setCells]
      exact q
  clear k1d hg9 hg8 kall hdl
  go_region
  clear hcp2
  obtain ⟨W2, hW2⟩ : ∃ W2, W2 = W1.drew.setCells N ((k + 1) * 5) (rcells (S.drop k)) := ⟨_, rfl⟩
  rw [← hW2] at HL
  rw [← hW2]
  clear hW2
  go_wp2
  go_ret
  exact ⟨_, rfl, HL.out.1, HL.out.2.mono (by simp), .inr ⟨N, rfl, by have := HGR.out.2; omega⟩⟩
/-- a row is inserted -/
theorem qInsert (s : Value) (n vb k : Nat) (S : List RowR) (x : RowR) (w : World) (h : Rw w 0 s S) (hn : n = S.length) (h8 : n ≤ 8) (B : Blk w vb 57 x.cs) (hvg : s.ownBlock ≠ some vb) (hk : k ≤ n) : Calls Try.prog 33 #[s, .int .i64 (k : Int), .slice (some ⟨vb, 0, none⟩) 1 1] w (InsE w s S k x) := by
  obtain ⟨p, c, hv⟩ := h.shape
  rw [← hn] at hv
  subst hv
  by_cases c1 : k = n
  · subst c1
    exact qInsEnd p k c vb S x w h hn h8 B
  · have hR : Row w 0 5 (.slice p n c) n (rcells S) := by have q := h; unfold Rw at q; rw [← hn] at q; exact q
    obtain ⟨g, rfl, -⟩ := Row.pos hR (by omega)
    obtain ⟨p', c', e', h3, -⟩ := Row.shape hR
    cases e'
    by_cases c2 : n + 1 ≤ c
    · exact qInsShift g n c vb k S x w h hn h8 B (fun e => hvg (by rw [e]; rfl)) (by omega) c2
    · exact qInsGrow g n c vb k S x w h hn h8 B (by omega) h3 (by omega)
end Go.Proofs.Ytbheegphhllogaa

/-
  OWN WORK (by mktr2.py). The landed table: the search by halves; place.
-/
namespace Go.Proofs.Ytbheegphhllogaa
open Go.RowKit
set_option linter.unusedVariables false
set_option linter.unusedSimpArgs false

/-- where b stands, or would stand -/
structure Plc (S : List RowR) (b : Int) (k : Nat) : Prop where
  le : k ≤ S.length
  lo : ∀ (i : Nat) (y : RowR), i < k → S[i]? = some y → y.birth < b
  hi : ∀ (i : Nat) (y : RowR), k ≤ i → S[i]? = some y → ¬ y.birth < b
/-- what the search answers -/
def PlcE (S : List RowR) (b : Int) (e : Ending) : Prop := (∃ (k : Nat) (x : RowR), e = .returned (.tuple #[.int .i64 (k : Int), .bool true]) ∧ S[k]? = some x ∧ x.birth = b ∧ findB S b = some x ∧ Plc S b k) ∨ (∃ k : Nat, e = .returned (.tuple #[.int .i64 (k : Int), .bool false]) ∧ findB S b = none ∧ Plc S b k)
structure Half (S : List RowR) (b : Int) (i j : Nat) : Prop where
  le : i ≤ j ∧ j ≤ S.length
  lo : ∀ (k : Nat) (y : RowR), k < i → S[k]? = some y → y.birth < b
  hi : ∀ (k : Nat) (y : RowR), j ≤ k → S[k]? = some y → ¬ y.birth < b
theorem Half.start (S : List RowR) (b : Int) : Half S b 0 S.length := ⟨⟨Nat.zero_le _, Nat.le_refl _⟩, fun k y hk => absurd hk (Nat.not_lt_zero k), fun k y hk hy => absurd (List.getElem?_eq_some_iff.1 hy).1 (by omega)⟩
def UpB (S : List RowR) : Prop := S.Pairwise fun x y => x.birth < y.birth
theorem UpB.le {S : List RowR} (h : UpB S) {i j : Nat} {x y : RowR} (hi : S[i]? = some x) (hj : S[j]? = some y) (q : i ≤ j) : x.birth ≤ y.birth := by
  obtain ⟨h1, e1⟩ := List.getElem?_eq_some_iff.1 hi
  obtain ⟨h2, e2⟩ := List.getElem?_eq_some_iff.1 hj
  by_cases c : i = j
  · subst c; rw [e1] at e2; rw [e2]; exact Int.le_refl _
  · have := List.pairwise_iff_getElem.1 h i j h1 h2 (by omega)
    rw [e1, e2] at this; omega
theorem Half.low {S : List RowR} {b : Int} {i j m : Nat} {x : RowR} (h : Half S b i j) (up : UpB S) (hm : i ≤ m ∧ m < j) (hx : S[m]? = some x) (q : x.birth < b) : Half S b (m + 1) j :=
  ⟨⟨by omega, h.le.2⟩, fun k y hk hy => by have := up.le hy hx (by omega); omega, h.hi⟩
theorem Half.high {S : List RowR} {b : Int} {i j m : Nat} {x : RowR} (h : Half S b i j) (up : UpB S) (hm : i ≤ m ∧ m < j) (hx : S[m]? = some x) (q : ¬ x.birth < b) : Half S b i m :=
  ⟨⟨hm.1, by have := h.le.2; omega⟩, h.lo, fun k y hk hy => by have := up.le hx hy hk; omega⟩
theorem Half.plc {S : List RowR} {b : Int} {i j : Nat} (h : Half S b i j) (q : ¬ i < j) : Plc S b i := ⟨by have := h.le; omega, h.lo, fun k y hk hy => h.hi k y (by omega) hy⟩
theorem Plc.found {S : List RowR} {b : Int} {k : Nat} {x : RowR} (h : Plc S b k) (hx : S[k]? = some x) (e : x.birth = b) : findB S b = some x := findB_at hx e fun i y hi hy => by have := h.lo i y hi hy; omega
theorem Plc.none {S : List RowR} {b : Int} {k : Nat} (up : UpB S) (h : Plc S b k) (hx : ∀ x, S[k]? = some x → x.birth ≠ b) : findB S b = none := findB_no fun i y hi hy => by
  by_cases c : i < k
  · have := h.lo i y c hy; omega
  · by_cases c2 : i = k
    · subst c2; exact hx y hy
    · have h1 : k < S.length := by omega
      have h2 := h.hi k S[k] (Nat.le_refl _) (List.getElem?_eq_getElem h1)
      have h3 := hx S[k] (List.getElem?_eq_getElem h1)
      have h4 := up.le (List.getElem?_eq_getElem h1) hy (by omega)
      omega
theorem mid_wrap {i j : Nat} (h : i + j ≤ 16) : wrap64 (IntKind.u64.wrap (wrap64 ((i : Int) + (j : Int))) / 2) = (((i + j) / 2 : Nat) : Int) := by
  rw [IntWalk.wrap64_in ((i : Int) + (j : Int)) (by omega), show IntKind.u64.wrap ((i : Int) + (j : Int)) = (i : Int) + (j : Int) by simp [IntKind.wrap, IntKind.bits, IntKind.signed]; omega, IntWalk.wrap64_in _ (by omega)]
  omega
theorem half_mid {i j : Nat} (h : i < j) : i ≤ (i + j) / 2 ∧ (i + j) / 2 < j := by omega
set_option maxRecDepth 20000 in
set_option maxHeartbeats 1600000 in
theorem qSearch (v : Value) (S : List RowR) (b : Int) (b1 : Nat) (w : World) (h : Rw w b1 v S) (up : UpB S) (h8 : S.length ≤ 8) : Calls Try.prog 37 #[v, .int .i64 b, .func (.func 38) #[] #[]] w fun e w' => PlcE S b e ∧ Kept [] w w' := by
  obtain ⟨p, c, hv⟩ := h.shape
  subst hv
  obtain ⟨n, hn⟩ : ∃ n, n = S.length := ⟨_, rfl⟩
  rw [← hn]
  have HN := @hideH _ (And.intro hn h8)
  have HR := @hideH _ h
  rw [← hn] at HR
  have HU := @hideH _ up
  have HS := @hideH _ (Half.start S b)
  rw [← hn] at HS
  clear h hn h8 up
  go_enter Try.func37, Try.ntmps37
  go_wp2
  go_loopw [9, 10] (fun vi vj wr => ∃ i j : Nat, vi = .int .i64 i ∧ vj = .int .i64 j ∧ Hid (Half S b i j ∧ Kept [] w wr)) (fun vi vj _ => (intOf vj).toNat - (intOf vi).toNat)
  case atStart => exact ⟨0, n, rfl, rfl, HS.out, Kept.refl _ _⟩
  case round =>
    clear HS
    obtain ⟨i, j, rfl, rfl, hh⟩ := hrel
    by_cases hij : i < j
    · have hij' : (i : Int) < (j : Int) := by omega
      obtain ⟨m, hm⟩ : ∃ m, m = (i + j) / 2 := ⟨_, rfl⟩
      have hmw := mid_wrap (i := i) (j := j) (by have := hh.out.1.le.2; have := HN.out; omega)
      rw [← hm] at hmw
      have hmm := half_mid hij
      rw [← hm] at hmm
      have HM := @hideH _ hmm
      clear hm hmm
      go_upto_region 5 with fail
      rw [hmw]
      clear hmw
      have hmn : (m : Int) < (n : Int) := by have := HM.out; have := hh.out.1.le.2; have := HN.out; omega
      have hm0 : (0 : Int) ≤ (m : Int) := by omega
      obtain ⟨x, hx⟩ : ∃ x, S[m]? = some x := ⟨_, List.getElem?_eq_getElem (by have := HN.out.1; omega)⟩
      obtain ⟨gl, hp, -, -, ⟨d0, d1, d2, d3, d4⟩, -⟩ := (HR.out.kept hh.out.2 (by simp)).at hx
      subst hp
      have HX := @hideH _ hx
      clear hx
      have q := qPlace1 x b wr
      unfold RowR.v at q
      obtain ⟨r, hr⟩ : ∃ r, r = cmpI x.birth b := ⟨_, rfl⟩
      rw [← hr] at q
      have HQ := @hideH _ q
      have HC := @hideH _ hr
      clear q hr
      go_wp2_with fail
      refine HQ.out.mono ?_
      clear HQ
      rintro e w1 ⟨rfl, k1⟩
      have HK := @hideH _ (hh.out.2.then k1)
      clear k1 d0 d1 d2 d3 d4
      by_cases hr : r < 0
      · have HH := @hideH _ (hh.out.1.low HU.out HM.out HX.out (cmpI_lt.1 (by rw [← HC.out]; exact hr)))
        have wm : IntKind.i64.wrap ((m : Int) + 1) = (m : Int) + 1 := wrap_i64_of (by omega) (by have e1 := HN.out; omega)
        go_wp2
        go_roundw
        case rel => exact ⟨m + 1, j, by go_num, rfl, HH.out, HK.out⟩
        case measure => have := HM.out; simp [intOf]; omega
      · have HH := @hideH _ (hh.out.1.high HU.out HM.out HX.out (fun q => hr (by rw [HC.out]; exact cmpI_lt.2 q)))
        go_wp2
        go_roundw
        case rel => exact ⟨i, m, rfl, rfl, HH.out, HK.out⟩
        case measure => have := HM.out; simp [intOf]; omega
    · have hij' : ¬ (i : Int) < (j : Int) := by omega
      have HP := @hideH _ (hh.out.1.plc hij)
      by_cases hin : i < n
      · have q : True := trivial
        clear q
        have hin : (i : Int) < (n : Int) := by omega
        have hi0 : (0 : Int) ≤ (i : Int) := by omega
        obtain ⟨x, hx⟩ : ∃ x, S[i]? = some x := ⟨_, List.getElem?_eq_getElem (by have := HN.out.1; omega)⟩
        obtain ⟨gl, hp, -, -, ⟨d0, d1, d2, d3, d4⟩, -⟩ := (HR.out.kept hh.out.2 (by simp)).at hx
        subst hp
        have HX := @hideH _ hx
        clear hx
        have q := qPlace1 x b wr
        unfold RowR.v at q
        obtain ⟨r, hr⟩ : ∃ r, r = cmpI x.birth b := ⟨_, rfl⟩
        rw [← hr] at q
        have HQ := @hideH _ q
        have HC := @hideH _ hr
        clear q hr
        go_wp2_with fail
        refine HQ.out.mono ?_
        clear HQ
        rintro e w1 ⟨rfl, k1⟩
        have HK := @hideH _ (hh.out.2.then k1)
        clear k1 d0 d1 d2 d3 d4
        by_cases hr : r = 0
        · have hr' : (r == 0) = true := by simpa using hr
          have HB := @hideH _ (cmpI_eq.1 (show cmpI x.birth b = 0 by rw [← HC.out]; exact hr))
          clear hr
          go_wp2
          go_ret2
          exact ⟨.inl ⟨i, x, rfl, HX.out, HB.out, HP.out.found HX.out HB.out, HP.out⟩, HK.out⟩
        · have hr' : (r == 0) = false := by simpa using hr
          have HB := @hideH _ (show findB S b = none from HP.out.none HU.out (fun y hy => by rw [HX.out] at hy; cases hy; exact fun q => hr (by rw [HC.out]; exact cmpI_eq.2 q)))
          clear hr
          go_wp2
          go_ret2
          exact ⟨.inr ⟨i, rfl, HB.out, HP.out⟩, HK.out⟩
      · have hin' : ¬ (i : Int) < (n : Int) := by omega
        have HB := @hideH _ (show findB S b = none from HP.out.none HU.out (fun y hy => absurd (List.getElem?_eq_some_iff.1 hy).1 (by have := HN.out; omega)))
        go_wp2
        go_ret2
        exact ⟨.inr ⟨i, rfl, HB.out, HP.out⟩, hh.out.2⟩
/-- where it stands is one place -/
theorem qPlace {g : Nat} {F : List Nat} {m : Int} {S : List RowR} (b : Int) (w : World) (h : Tr w g F m S) : Calls Try.prog 31 #[.pointer (some ⟨g, 1, none⟩), .int .i64 b] w fun e w' => PlcE S b e ∧ Kept [] w w' := by
  obtain ⟨p, c, c0, c1, E, h8⟩ := h.open_
  have HQ := @hideH _ (qSearch _ S b 0 w E h.ok.up h8)
  clear E h8 c0 h
  go_enter Try.func31, Try.ntmps31
  go_wp2_with fail
  refine HQ.out.mono ?_
  rintro e w1 ⟨(⟨k, x, rfl, h1⟩ | ⟨k, rfl, h1⟩), k1⟩
  · have HA := @hideH _ (And.intro h1 k1)
    clear h1 k1 HQ
    go_wp2
    go_ret2
    exact ⟨.inl ⟨k, x, rfl, HA.out.1⟩, HA.out.2⟩
  · have HA := @hideH _ (And.intro h1 k1)
    clear h1 k1 HQ
    go_wp2
    go_ret2
    exact ⟨.inr ⟨k, rfl, HA.out.1⟩, HA.out.2⟩
end Go.Proofs.Ytbheegphhllogaa

/-
  OWN WORK (by mktr6.py). The landed table: lay.
-/
namespace Go.Proofs.Ytbheegphhllogaa
open Go.RowKit
set_option linter.unusedVariables false
set_option linter.unusedSimpArgs false

theorem insB_plc {x : RowR} : ∀ {S : List RowR} {k : Nat}, Plc S x.birth k → (∀ y ∈ S, y.birth ≠ x.birth) → insB x S = insAt S k x
  | [], k, h, _ => by
    have : k = 0 := by have := h.le; simpa using this
    subst this; rfl
  | y :: t, 0, h, hn => by
    have h1 := h.hi 0 y (Nat.le_refl _) rfl
    have h2 := hn y (by simp)
    show (if x.birth < y.birth then x :: y :: t else y :: insB x t) = _
    rw [if_pos (by omega)]; rfl
  | y :: t, k + 1, h, hn => by
    have h1 := h.lo 0 y (by omega) rfl
    show (if x.birth < y.birth then x :: y :: t else y :: insB x t) = _
    rw [if_neg (by omega), insB_plc (S := t) (k := k) ⟨by have := h.le; simp at this; omega, fun i z hi hz => h.lo (i + 1) z (by omega) (by simpa using hz), fun i z hi hz => h.hi (i + 1) z (by omega) (by simpa using hz)⟩ (fun z hz => hn z (by simp [hz]))]
    rfl
/-- the table's parts -/
structure Tp (w : World) (g : Nat) (m : Int) (v : Value) (S : List RowR) : Prop where
  box : Blk w g 56 [.int .i64 m, v]
  row : Rw w 0 v S
  ap : ∀ x, v.ownBlock = some x → x ≠ g
theorem Tr.parts {w : World} {g : Nat} {F : List Nat} {m : Int} {S : List RowR} (h : Tr w g F m S) : ∃ v, Tp w g m v S ∧ F = g :: v.ownBlock.toList := by
  obtain ⟨v, h1, h2, h4, h5, h6⟩ := h
  exact ⟨v, ⟨h1, h2, h6⟩, h5⟩
theorem Tp.kept {w w' : World} {g : Nat} {m : Int} {v : Value} {S : List RowR} {D : List Nat} (h : Tp w g m v S) (k : Kept D w w') (hg : g ∉ D) (hD : ∀ x, v.ownBlock = some x → x ∉ D) : Tp w' g m v S := ⟨h.box.kept k hg, h.row.kept k hD, h.ap⟩
theorem Tp.set {w : World} {g gl n c k : Nat} {m : Int} {S : List RowR} {x : RowR} (h : Tp w g m (.slice (some ⟨gl, 0, none⟩) n c) S) (hk : k < S.length) : Tp (setRow w gl (k * 5) x) g m (.slice (some ⟨gl, 0, none⟩) n c) (S.set k x) ∧ Kept (g :: (Value.slice (some ⟨gl, 0, none⟩) n c).ownBlock.toList) w (setRow w gl (k * 5) x) := by
  obtain ⟨r, k1⟩ := h.row.set hk x
  have hne : gl ≠ g := h.ap gl rfl
  exact ⟨⟨h.box.kept k1 (by simp; omega), r, h.ap⟩, k1.mono (by simp [Value.ownBlock])⟩
/-- the list's field is set to another row -/
theorem Tp.put {w w' : World} {g : Nat} {m : Int} {v v' : Value} {S S' : List RowR} {D : List Nat} (h : Tp w g m v S) (k : Kept D w w') (hg : g ∉ D) (r : Rw w' 0 v' S') (hv : ∀ x, v'.ownBlock = some x → x ≠ g) : Tp (w'.setCell ⟨g, 1, none⟩ v') g m v' S' ∧ Kept (g :: D) w (w'.setCell ⟨g, 1, none⟩ v') := by
  obtain ⟨b, k1⟩ := (h.box.kept k hg).set 1 v'
  exact ⟨⟨b, r.kept k1 (fun x hx => by have := hv x hx; simp; omega), hv⟩, (k.mono (T := g :: D) (fun y hy => List.mem_cons_of_mem _ hy)).trans k1 (fun y hy => .inl (by simp at hy; simp [hy]))⟩
theorem qPlaceP {g : Nat} {m : Int} {v : Value} {S : List RowR} (b : Int) (w : World) (h : Tp w g m v S) (up : UpB S) (h8 : S.length ≤ 8) : Calls Try.prog 31 #[.pointer (some ⟨g, 1, none⟩), .int .i64 b] w fun e w' => PlcE S b e ∧ Kept [] w w' := by
  obtain ⟨p, c, hv⟩ := h.row.shape
  have c1 := h.box.cell (j := 1) rfl
  have HQ := @hideH _ (qSearch v S b 0 w h.row up h8)
  subst hv
  clear h up h8
  go_enter Try.func31, Try.ntmps31
  go_wp2_with fail
  refine HQ.out.mono ?_
  rintro e w1 ⟨(⟨k, x, rfl, h1⟩ | ⟨k, rfl, h1⟩), k1⟩
  · have HA := @hideH _ (And.intro h1 k1)
    clear h1 k1 HQ
    go_wp2
    go_ret2
    exact ⟨.inl ⟨k, x, rfl, HA.out.1⟩, HA.out.2⟩
  · have HA := @hideH _ (And.intro h1 k1)
    clear h1 k1 HQ
    go_wp2
    go_ret2
    exact ⟨.inr ⟨k, rfl, HA.out.1⟩, HA.out.2⟩
set_option maxRecDepth 100000 in
set_option maxHeartbeats 4000000 in
theorem qLayS {g : Nat} {m : Int} {v : Value} {S : List RowR} (x : RowR) (w : World) (h : Tp w g m v S) (up : UpB S) (h8 : S.length ≤ 8) {y : RowR} (hf : findB S x.birth = some y) : Calls Try.prog 23 #[.pointer (some ⟨g, 1, none⟩), x.v] w fun e w' => e = .returned (.tuple #[]) ∧ ∃ k, S[k]? = some y ∧ y.birth = x.birth ∧ Tp w' g m v (S.set k x) ∧ Kept (g :: v.ownBlock.toList) w w' := by
  obtain ⟨p, c, hv⟩ := h.row.shape
  obtain ⟨n, hn⟩ : ∃ n, n = S.length := ⟨_, rfl⟩
  rw [← hn] at hv
  subst hv
  have HN := @hideH _ (And.intro hn h8)
  have HT := @hideH _ h
  have HU := @hideH _ up
  clear hn h8 h up
  obtain ⟨w1, hw1⟩ : ∃ wx, wx = w.alloc (.cells #[.int .i64 x.birth, .int .i64 x.id, .int .i64 x.state, .int .i64 x.last, .int .i64 x.next] 57) := ⟨_, rfl⟩
  have kw1 : Kept [] w w1 := by rw [hw1]; exact (Kept.refl [] w).alloc _
  have X : Blk w1 w.heap.size 57 x.cs := by rw [hw1]; exact Blk.new w _ _
  have HX := @hideH _ X
  have HK1 := @hideH _ kw1
  have q := qNumber x w1
  unfold RowR.v at q
  have HQ := @hideH _ q
  clear q X kw1
  show Calls Try.prog 23 #[.pointer (some ⟨g, 1, none⟩), .agg #[.int .i64 x.birth, .int .i64 x.id, .int .i64 x.state, .int .i64 x.last, .int .i64 x.next]] w _
  have z0 := HX.out.cell (j := 0) rfl
  have z1 := HX.out.cell (j := 1) rfl
  have z2 := HX.out.cell (j := 2) rfl
  have z3 := HX.out.cell (j := 3) rfl
  have z4 := HX.out.cell (j := 4) rfl
  go_enter Try.func23, Try.ntmps23
  go_upto_region 1 with fail
  rw [← hw1]
  clear hw1
  go_wp2_with fail
  refine HQ.out.mono ?_
  clear HQ
  rintro e w2 ⟨rfl, k2⟩
  have HK2 := @hideH _ (HK1.out.then k2)
  have HX2 := @hideH _ (HX.out.kept k2 (by simp))
  clear k2 z0 z1 z2 z3 z4
  have HQ := @hideH _ (qPlaceP x.birth w2 (HT.out.kept HK2.out (by simp) (by simp)) HU.out (by have := HN.out; omega))
  go_wp2_with fail
  refine HQ.out.mono ?_
  clear HQ
  rintro e w3 ⟨(⟨k, y', rfl, hx, hb, hf', -⟩ | ⟨k, rfl, hf', -⟩), k3⟩
  rotate_left
  · rw [hf] at hf'; cases hf'
  rw [hf] at hf'
  cases hf'
  have HF := @hideH _ (And.intro hx hb)
  have HK3 := @hideH _ (HK2.out.then k3)
  have hkn' : (k : Int) < (n : Int) := by have := HN.out.1; have := (List.getElem?_eq_some_iff.1 hx).1; omega
  have hk0 : (0 : Int) ≤ (k : Int) := by omega
  obtain ⟨gl, hp, -⟩ := HT.out.row.at hx
  subst hp
  have HX3 := @hideH _ (HX2.out.kept k3 (by simp))
  clear hx hb k3 hf
  go_upto_region 3 with fail
  obtain ⟨w6, hw6⟩ : ∃ wx, wx = w3.drew := ⟨_, rfl⟩
  have k36 : Kept [] w3 w6 := by rw [hw6]; exact (Kept.refl [] w3).drew
  have k6 := HK3.out.then k36
  have T6 := HT.out.kept k6 (by simp) (by simp)
  have c1 := T6.box.cell (j := 1) rfl
  have X6 := HX3.out.kept k36 (by simp)
  obtain ⟨gl', hp, -, -, ⟨d0, d1, d2, d3, d4⟩, f0, f1, f2, f3, f4⟩ := T6.row.at HF.out.1
  cases hp
  have hS : (fun w' => w'.cell? ⟨g, 1, none⟩ = some (.slice (some ⟨gl, 0, none⟩) n c) ∧ w'.cell? ⟨w.heap.size, 0, none⟩ = some (.int .i64 x.birth) ∧ w'.cell? ⟨w.heap.size, 1, none⟩ = some (.int .i64 x.id) ∧ w'.cell? ⟨w.heap.size, 2, none⟩ = some (.int .i64 x.state) ∧ w'.cell? ⟨w.heap.size, 3, none⟩ = some (.int .i64 x.last) ∧ w'.cell? ⟨w.heap.size, 4, none⟩ = some (.int .i64 x.next)) w6 := ⟨c1, X6.cell (j := 0) rfl, X6.cell (j := 1) rfl, X6.cell (j := 2) rfl, X6.cell (j := 3) rfl, X6.cell (j := 4) rfl⟩
  try dsimp only at hS
  have HFIN := @hideH _ (T6.set (x := x) (k := k) (by have := (List.getElem?_eq_some_iff.1 HF.out.1).1; omega))
  have HK6 := @hideH _ k6
  refine wp_region_late (fun w' => w'.cell? ⟨g, 1, none⟩ = some (.slice (some ⟨gl, 0, none⟩) n c) ∧ w'.cell? ⟨w.heap.size, 0, none⟩ = some (.int .i64 x.birth) ∧ w'.cell? ⟨w.heap.size, 1, none⟩ = some (.int .i64 x.id) ∧ w'.cell? ⟨w.heap.size, 2, none⟩ = some (.int .i64 x.state) ∧ w'.cell? ⟨w.heap.size, 3, none⟩ = some (.int .i64 x.last) ∧ w'.cell? ⟨w.heap.size, 4, none⟩ = some (.int .i64 x.next)) 7 (by kernel_rfl) ?_
  rw [← hw6]
  clear hw6 c1 T6 X6 k36 k6
  refine wpAnyZ_take 0 (v := ?va0) rfl (by kernel_rfl) (by kernel_rfl) (by kernel_rfl) (by kernel_rfl) (fun _ _ _ h => h) (by rfl) ?hya0 hS ?resta0
  case hya0 => (intro wx hSx; obtain ⟨s1, s2, s3, s4, s5, s6⟩ := hSx; go_simp; (try with_reducible rfl))
  (try simp only [Act.put, List.getElem_toArray, List.getElem_cons_zero, List.getElem_cons_succ, List.setIfInBounds_toArray, List.set_cons_zero, List.set_cons_succ])
  refine wpAnyZ_take 1 (v := ?va1) rfl (by kernel_rfl) (by kernel_rfl) (by kernel_rfl) (by kernel_rfl) (fun _ _ _ h => h) (by rfl) ?hya1 hS ?resta1
  case hya1 => (intro wx hSx; obtain ⟨s1, s2, s3, s4, s5, s6⟩ := hSx; go_simp; (try with_reducible rfl))
  (try simp only [Act.put, List.getElem_toArray, List.getElem_cons_zero, List.getElem_cons_succ, List.setIfInBounds_toArray, List.set_cons_zero, List.set_cons_succ])
  refine wpAnyZ_take 2 (v := ?va2) rfl (by kernel_rfl) (by kernel_rfl) (by kernel_rfl) (by kernel_rfl) (fun _ _ _ h => h) (by rfl) ?hya2 hS ?resta2
  case hya2 => (intro wx hSx; obtain ⟨s1, s2, s3, s4, s5, s6⟩ := hSx; go_simp; (try with_reducible rfl))
  (try simp only [Act.put, List.getElem_toArray, List.getElem_cons_zero, List.getElem_cons_succ, List.setIfInBounds_toArray, List.set_cons_zero, List.set_cons_succ])
  refine wpAnyZ_take 3 (v := ?va3) rfl (by kernel_rfl) (by kernel_rfl) (by kernel_rfl) (by kernel_rfl) (fun _ _ _ h => h) (by rfl) ?hya3 hS ?resta3
  case hya3 => (intro wx hSx; obtain ⟨s1, s2, s3, s4, s5, s6⟩ := hSx; go_simp; (try with_reducible rfl))
  (try simp only [Act.put, List.getElem_toArray, List.getElem_cons_zero, List.getElem_cons_succ, List.setIfInBounds_toArray, List.set_cons_zero, List.set_cons_succ])
  refine wpAnyZ_take 4 (v := ?va4) rfl (by kernel_rfl) (by kernel_rfl) (by kernel_rfl) (by kernel_rfl) (fun _ _ _ h => h) (by rfl) ?hya4 hS ?resta4
  case hya4 => (intro wx hSx; obtain ⟨s1, s2, s3, s4, s5, s6⟩ := hSx; go_simp; (try with_reducible rfl))
  (try simp only [Act.put, List.getElem_toArray, List.getElem_cons_zero, List.getElem_cons_succ, List.setIfInBounds_toArray, List.set_cons_zero, List.set_cons_succ])
  refine wpAnyZ_take 5 (v := ?va5) rfl (by kernel_rfl) (by kernel_rfl) (by kernel_rfl) (by kernel_rfl) (fun _ _ _ h => h) (by rfl) ?hya5 hS ?resta5
  case hya5 => (intro wx hSx; obtain ⟨s1, s2, s3, s4, s5, s6⟩ := hSx; go_simp; (try with_reducible rfl))
  (try simp only [Act.put, List.getElem_toArray, List.getElem_cons_zero, List.getElem_cons_succ, List.setIfInBounds_toArray, List.set_cons_zero, List.set_cons_succ])
  refine wpAnyZ_one 6 rfl (by kernel_rfl) (fun K hK => ?_)
  go_simp
  refine hK _ _ (fun _ => hS) ?_
  clear hK K
  (try simp only [Act.put, List.getElem_toArray, List.getElem_cons_zero, List.getElem_cons_succ, List.setIfInBounds_toArray, List.set_cons_zero, List.set_cons_succ])
  refine wpAnyZ_one 7 rfl (by kernel_rfl) (fun K hK => ?_)
  go_simp
  refine hK _ _ (fun h => absurd rfl h) ?_
  clear hK K
  (try simp only [Act.put, List.getElem_toArray, List.getElem_cons_zero, List.getElem_cons_succ, List.setIfInBounds_toArray, List.set_cons_zero, List.set_cons_succ])
  refine wpAnyZ_done (by kernel_rfl) ?_ _
  obtain ⟨w9, hw9⟩ : ∃ wx, wx = setRow w6 gl (k * 5) x := ⟨_, rfl⟩
  rw [← hw9] at HFIN
  unfold setRow at hw9
  rw [← hw9]
  clear hw9 hS d0 d1 d2 d3 d4 f0 f1 f2 f3 f4
  go_wp2
  refine bodyPost_ret (v := .tuple #[]) (by simp [results, Try.results23, go_sem]; try rfl) rfl ?_
  exact ⟨rfl, k, HF.out.1, HF.out.2, HFIN.out.1, (HK6.out.mono (T := g :: (Value.slice (some ⟨gl, 0, none⟩) n c).ownBlock.toList) (by simp)).trans HFIN.out.2 (fun z hz => .inl hz)⟩
set_option maxRecDepth 100000 in
set_option maxHeartbeats 4000000 in
theorem qLayN {g : Nat} {m : Int} {v : Value} {S : List RowR} (x : RowR) (w : World) (h : Tp w g m v S) (up : UpB S) (h8 : S.length ≤ 8) (hf : findB S x.birth = none) : Calls Try.prog 23 #[.pointer (some ⟨g, 1, none⟩), x.v] w fun e w' => e = .returned (.tuple #[]) ∧ ∃ k v', Plc S x.birth k ∧ Tp w' g m v' (insAt S k x) ∧ (v'.ownBlock = v.ownBlock ∨ ∃ b, v'.ownBlock = some b ∧ w.heap.size ≤ b) ∧ Kept (g :: v.ownBlock.toList) w w' := by
  obtain ⟨p, c, hv⟩ := h.row.shape
  obtain ⟨n, hn⟩ : ∃ n, n = S.length := ⟨_, rfl⟩
  rw [← hn] at hv
  subst hv
  have HN := @hideH _ (And.intro hn h8)
  have HT := @hideH _ h
  have HU := @hideH _ up
  clear hn h8 h up
  obtain ⟨w1, hw1⟩ : ∃ wx, wx = w.alloc (.cells #[.int .i64 x.birth, .int .i64 x.id, .int .i64 x.state, .int .i64 x.last, .int .i64 x.next] 57) := ⟨_, rfl⟩
  have kw1 : Kept [] w w1 := by rw [hw1]; exact (Kept.refl [] w).alloc _
  have X : Blk w1 w.heap.size 57 x.cs := by rw [hw1]; exact Blk.new w _ _
  have HX := @hideH _ X
  have HK1 := @hideH _ kw1
  have q := qNumber x w1
  unfold RowR.v at q
  have HQ := @hideH _ q
  clear q X kw1
  show Calls Try.prog 23 #[.pointer (some ⟨g, 1, none⟩), .agg #[.int .i64 x.birth, .int .i64 x.id, .int .i64 x.state, .int .i64 x.last, .int .i64 x.next]] w _
  have z0 := HX.out.cell (j := 0) rfl
  have z1 := HX.out.cell (j := 1) rfl
  have z2 := HX.out.cell (j := 2) rfl
  have z3 := HX.out.cell (j := 3) rfl
  have z4 := HX.out.cell (j := 4) rfl
  go_enter Try.func23, Try.ntmps23
  go_upto_region 1 with fail
  rw [← hw1]
  clear hw1
  go_wp2_with fail
  refine HQ.out.mono ?_
  clear HQ
  rintro e w2 ⟨rfl, k2⟩
  have HK2 := @hideH _ (HK1.out.then k2)
  have HX2 := @hideH _ (HX.out.kept k2 (by simp))
  clear k2 z0 z1 z2 z3 z4
  have HQ := @hideH _ (qPlaceP x.birth w2 (HT.out.kept HK2.out (by simp) (by simp)) HU.out (by have := HN.out; omega))
  go_wp2_with fail
  refine HQ.out.mono ?_
  clear HQ
  rintro e w3 ⟨(⟨k, y', rfl, hx, hb, hf', -⟩ | ⟨k, rfl, -, hpl⟩), k3⟩
  · rw [hf] at hf'; cases hf'
  have HF := @hideH _ hpl
  have HK3 := @hideH _ (HK2.out.then k3)
  have HX3 := @hideH _ (HX2.out.kept k3 (by simp))
  clear hpl k3 hf
  go_upto_region 4 with fail
  obtain ⟨w6, hw6⟩ : ∃ wx, wx = w3.drew := ⟨_, rfl⟩
  have k36 : Kept [] w3 w6 := by rw [hw6]; exact (Kept.refl [] w3).drew
  have k6 := HK3.out.then k36
  have T6 := HT.out.kept k6 (by simp) (by simp)
  have c1 := T6.box.cell (j := 1) rfl
  have X6 := HX3.out.kept k36 (by simp)
  obtain ⟨w7, hw7⟩ : ∃ wx, wx = w6.alloc (.cells #[.int .i64 x.birth, .int .i64 x.id, .int .i64 x.state, .int .i64 x.last, .int .i64 x.next] 57) := ⟨_, rfl⟩
  have kw7 : Kept [] w6 w7 := by rw [hw7]; exact (Kept.refl [] w6).alloc _
  have V : Blk w7 w6.heap.size 57 x.cs := by rw [hw7]; exact Blk.new w6 _ _
  have hS : (fun w' => w'.cell? ⟨g, 1, none⟩ = some (.slice p n c) ∧ w'.cell? ⟨w.heap.size, 0, none⟩ = some (.int .i64 x.birth) ∧ w'.cell? ⟨w.heap.size, 1, none⟩ = some (.int .i64 x.id) ∧ w'.cell? ⟨w.heap.size, 2, none⟩ = some (.int .i64 x.state) ∧ w'.cell? ⟨w.heap.size, 3, none⟩ = some (.int .i64 x.last) ∧ w'.cell? ⟨w.heap.size, 4, none⟩ = some (.int .i64 x.next)) w6 := ⟨c1, X6.cell (j := 0) rfl, X6.cell (j := 1) rfl, X6.cell (j := 2) rfl, X6.cell (j := 3) rfl, X6.cell (j := 4) rfl⟩
  try dsimp only at hS
  have T7 := T6.kept kw7 (by simp) (by simp)
  have X7 := X6.kept kw7 (by simp)
  have c7 := T7.box.cell (j := 1) rfl
  have hS7 : (fun w' => w'.cell? ⟨g, 1, none⟩ = some (.slice p n c) ∧ w'.cell? ⟨w.heap.size, 0, none⟩ = some (.int .i64 x.birth) ∧ w'.cell? ⟨w.heap.size, 1, none⟩ = some (.int .i64 x.id) ∧ w'.cell? ⟨w.heap.size, 2, none⟩ = some (.int .i64 x.state) ∧ w'.cell? ⟨w.heap.size, 3, none⟩ = some (.int .i64 x.last) ∧ w'.cell? ⟨w.heap.size, 4, none⟩ = some (.int .i64 x.next)) w7 := ⟨c7, X7.cell (j := 0) rfl, X7.cell (j := 1) rfl, X7.cell (j := 2) rfl, X7.cell (j := 3) rfl, X7.cell (j := 4) rfl⟩
  try dsimp only at hS7
  have hlt : ∀ y, (Value.slice p n c).ownBlock = some y → y < w.heap.size := fun y hy => (HT.out.row.lt hy).2
  have k7 := k6.then kw7
  have HZ := @hideH _ (show w.heap.size ≤ w6.heap.size from k6.size)
  have HQ := @hideH _ (qInsert (.slice p n c) n w6.heap.size k S x w7 T7.row HN.out.1 (by have := HN.out; omega) V (fun e => by have := hlt _ e; have := HZ.out; omega) (by have := HF.out.le; have := HN.out; omega))
  have HXX := @hideH _ (And.intro T7 (And.intro X7 (And.intro k7 hlt)))
  refine wp_region_late (fun w' => w'.cell? ⟨g, 1, none⟩ = some (.slice p n c) ∧ w'.cell? ⟨w.heap.size, 0, none⟩ = some (.int .i64 x.birth) ∧ w'.cell? ⟨w.heap.size, 1, none⟩ = some (.int .i64 x.id) ∧ w'.cell? ⟨w.heap.size, 2, none⟩ = some (.int .i64 x.state) ∧ w'.cell? ⟨w.heap.size, 3, none⟩ = some (.int .i64 x.last) ∧ w'.cell? ⟨w.heap.size, 4, none⟩ = some (.int .i64 x.next)) 11 (by kernel_rfl) ?_
  rw [← hw6]
  clear hw6 c1 T6 X6 k36 k6 T7 X7 c7 V kw7 k7 hlt
  refine wpAnyZ_take 0 (v := ?va0) rfl (by kernel_rfl) (by kernel_rfl) (by kernel_rfl) (by kernel_rfl) (fun _ _ _ h => h) (by rfl) ?hya0 hS ?resta0
  case hya0 => (intro wx hSx; obtain ⟨s1, s2, s3, s4, s5, s6⟩ := hSx; go_simp; (try with_reducible rfl))
  (try simp only [Act.put, List.getElem_toArray, List.getElem_cons_zero, List.getElem_cons_succ, List.setIfInBounds_toArray, List.set_cons_zero, List.set_cons_succ])
  refine wpAnyZ_take 1 (v := ?va1) rfl (by kernel_rfl) (by kernel_rfl) (by kernel_rfl) (by kernel_rfl) (fun _ _ _ h => h) (by rfl) ?hya1 hS ?resta1
  case hya1 => (intro wx hSx; obtain ⟨s1, s2, s3, s4, s5, s6⟩ := hSx; go_simp; (try with_reducible rfl))
  (try simp only [Act.put, List.getElem_toArray, List.getElem_cons_zero, List.getElem_cons_succ, List.setIfInBounds_toArray, List.set_cons_zero, List.set_cons_succ])
  refine wpAnyZ_take 2 (v := ?va2) rfl (by kernel_rfl) (by kernel_rfl) (by kernel_rfl) (by kernel_rfl) (fun _ _ _ h => h) (by rfl) ?hya2 hS ?resta2
  case hya2 => (intro wx hSx; obtain ⟨s1, s2, s3, s4, s5, s6⟩ := hSx; go_simp; (try with_reducible rfl))
  (try simp only [Act.put, List.getElem_toArray, List.getElem_cons_zero, List.getElem_cons_succ, List.setIfInBounds_toArray, List.set_cons_zero, List.set_cons_succ])
  refine wpAnyZ_take 3 (v := ?va3) rfl (by kernel_rfl) (by kernel_rfl) (by kernel_rfl) (by kernel_rfl) (fun _ _ _ h => h) (by rfl) ?hya3 hS ?resta3
  case hya3 => (intro wx hSx; obtain ⟨s1, s2, s3, s4, s5, s6⟩ := hSx; go_simp; (try with_reducible rfl))
  (try simp only [Act.put, List.getElem_toArray, List.getElem_cons_zero, List.getElem_cons_succ, List.setIfInBounds_toArray, List.set_cons_zero, List.set_cons_succ])
  refine wpAnyZ_take 4 (v := ?va4) rfl (by kernel_rfl) (by kernel_rfl) (by kernel_rfl) (by kernel_rfl) (fun _ _ _ h => h) (by rfl) ?hya4 hS ?resta4
  case hya4 => (intro wx hSx; obtain ⟨s1, s2, s3, s4, s5, s6⟩ := hSx; go_simp; (try with_reducible rfl))
  (try simp only [Act.put, List.getElem_toArray, List.getElem_cons_zero, List.getElem_cons_succ, List.setIfInBounds_toArray, List.set_cons_zero, List.set_cons_succ])
  refine wpAnyZ_take 5 (v := ?va5) rfl (by kernel_rfl) (by kernel_rfl) (by kernel_rfl) (by kernel_rfl) (fun _ _ _ h => h) (by rfl) ?hya5 hS ?resta5
  case hya5 => (intro wx hSx; obtain ⟨s1, s2, s3, s4, s5, s6⟩ := hSx; go_simp; (try with_reducible rfl))
  (try simp only [Act.put, List.getElem_toArray, List.getElem_cons_zero, List.getElem_cons_succ, List.setIfInBounds_toArray, List.set_cons_zero, List.set_cons_succ])
  refine wpAnyZ_take 6 (v := ?va6) rfl (by kernel_rfl) (by kernel_rfl) (by kernel_rfl) (by kernel_rfl) (fun _ _ _ h => h) (by rfl) ?hya6 hS ?resta6
  case hya6 => (intro wx hSx; obtain ⟨s1, s2, s3, s4, s5, s6⟩ := hSx; go_simp; (try with_reducible rfl))
  (try simp only [Act.put, List.getElem_toArray, List.getElem_cons_zero, List.getElem_cons_succ, List.setIfInBounds_toArray, List.set_cons_zero, List.set_cons_succ])
  refine wpAnyZ_one 7 rfl (by kernel_rfl) (fun K hK => ?_)
  go_simp
  rw [← hw7]
  refine hK _ _ (fun _ => hS7) ?_
  clear hK K
  (try simp only [Act.put, List.getElem_toArray, List.getElem_cons_zero, List.getElem_cons_succ, List.setIfInBounds_toArray, List.set_cons_zero, List.set_cons_succ])
  clear hw7
  refine wpAnyZ_one 8 rfl (by kernel_rfl) (fun K hK => ?_)
  go_simp
  refine HQ.out.mono ?_
  clear HQ
  rintro e w8 ⟨v', rfl, R8, k8, o8⟩
  have T8 := HXX.out.1
  have hgn : g ∉ (Value.slice p n c).ownBlock.toList := fun hy => HT.out.ap g (own_mem.1 hy) rfl
  have B8 := HXX.out.1.box.kept k8 hgn
  have X8 := HXX.out.2.1.kept k8 (fun hy => by have := HXX.out.2.2.2 _ (own_mem.1 hy); omega)
  have c8 := B8.cell (j := 1) rfl
  have f8 := B8.free 1
  have hS8 : (fun w' => w'.cell? ⟨g, 1, none⟩ = some (.slice p n c) ∧ w'.cell? ⟨w.heap.size, 0, none⟩ = some (.int .i64 x.birth) ∧ w'.cell? ⟨w.heap.size, 1, none⟩ = some (.int .i64 x.id) ∧ w'.cell? ⟨w.heap.size, 2, none⟩ = some (.int .i64 x.state) ∧ w'.cell? ⟨w.heap.size, 3, none⟩ = some (.int .i64 x.last) ∧ w'.cell? ⟨w.heap.size, 4, none⟩ = some (.int .i64 x.next)) w8 := ⟨c8, X8.cell (j := 0) rfl, X8.cell (j := 1) rfl, X8.cell (j := 2) rfl, X8.cell (j := 3) rfl, X8.cell (j := 4) rfl⟩
  try dsimp only at hS8
  have hv8 : ∀ y, v'.ownBlock = some y → y ≠ g := fun y hy => by
    rcases o8 with o8 | ⟨b, o8, hb8⟩
    · rw [o8] at hy; exact HT.out.ap y hy
    · rw [o8] at hy; cases hy; have := HT.out.box.lt; have := HXX.out.2.2.1.size; omega
  have HFIN := @hideH _ (T8.put k8 hgn R8 hv8)
  have HO := @hideH _ (show v'.ownBlock = (Value.slice p n c).ownBlock ∨ ∃ b, v'.ownBlock = some b ∧ w.heap.size ≤ b from o8.imp id (fun ⟨b, q1, q2⟩ => ⟨b, q1, by have := HXX.out.2.2.1.size; omega⟩))
  refine hK _ _ (fun _ => hS8) ?_
  clear hK K o8 R8 k8 B8 X8 hv8 T8 hgn
  obtain ⟨p8, c8', hv⟩ : ∃ p8 c8', v' = .slice p8 (n + 1) c8' := by
    have q := HFIN.out.1.row
    obtain ⟨p8, c8', q2⟩ := q.shape
    rw [insAt_length S k x HF.out.le, ← HN.out.1] at q2
    exact ⟨p8, c8', q2⟩
  subst hv
  (try simp only [Act.put, List.getElem_toArray, List.getElem_cons_zero, List.getElem_cons_succ, List.setIfInBounds_toArray, List.set_cons_zero, List.set_cons_succ])
  refine wpAnyZ_one 9 rfl (by kernel_rfl) (fun K hK => ?_)
  go_simp
  refine hK _ _ (fun _ => hS8) ?_
  clear hK K
  (try simp only [Act.put, List.getElem_toArray, List.getElem_cons_zero, List.getElem_cons_succ, List.setIfInBounds_toArray, List.set_cons_zero, List.set_cons_succ])
  refine wpAnyZ_one 10 rfl (by kernel_rfl) (fun K hK => ?_)
  go_simp
  refine hK _ _ (fun _ => hS8) ?_
  clear hK K
  (try simp only [Act.put, List.getElem_toArray, List.getElem_cons_zero, List.getElem_cons_succ, List.setIfInBounds_toArray, List.set_cons_zero, List.set_cons_succ])
  refine wpAnyZ_one 11 rfl (by kernel_rfl) (fun K hK => ?_)
  go_simp
  refine hK _ _ (fun h => absurd rfl h) ?_
  clear hK K
  (try simp only [Act.put, List.getElem_toArray, List.getElem_cons_zero, List.getElem_cons_succ, List.setIfInBounds_toArray, List.set_cons_zero, List.set_cons_succ])
  refine wpAnyZ_done (by kernel_rfl) ?_ _
  obtain ⟨w9, hw9⟩ : ∃ wx, wx = w8.setCell ⟨g, 1, none⟩ (.slice p8 (n + 1) c8') := ⟨_, rfl⟩
  rw [← hw9] at HFIN
  rw [← hw9]
  clear hw9 hS8 hS7 hS c8 f8
  go_wp2
  go_end0
  exact ⟨rfl, k, _, HF.out, HFIN.out.1, HO.out, (HXX.out.2.2.1.mono (T := g :: (Value.slice p n c).ownBlock.toList) (by simp)).trans HFIN.out.2 (fun z hz => .inl hz)⟩
end Go.Proofs.Ytbheegphhllogaa

/-
  OWN WORK (by mktr3.py). The landed table: get, Get, ById, Rows.
-/
namespace Go.Proofs.Ytbheegphhllogaa
open Go.RowKit
set_option linter.unusedVariables false
set_option linter.unusedSimpArgs false

set_option maxRecDepth 20000 in
set_option maxHeartbeats 1600000 in
theorem qLGet {g : Nat} {F : List Nat} {m : Int} {S : List RowR} (b : Int) (w : World) (h : Tr w g F m S) : Calls Try.prog 21 #[.pointer (some ⟨g, 1, none⟩), .int .i64 b] w fun e w' => e = .returned (.tuple #[(rowOf (findB S b)).v, .bool (findB S b).isSome]) ∧ Kept [] w w' := by
  obtain ⟨w1, hw1⟩ : ∃ wx, wx = w.alloc (.cells #[.int .i64 0, .int .i64 0, .int .i64 0, .int .i64 0, .int .i64 0] 57) := ⟨_, rfl⟩
  have kw1 : Kept [] w w1 := by rw [hw1]; exact (Kept.refl [] w).alloc _
  have Z : Blk w1 w.heap.size 57 rowZ.cs := by rw [hw1]; exact Blk.new w _ _
  have HZ := @hideH _ (And.intro Z kw1)
  replace h := h.kept kw1 (by simp)
  clear Z kw1
  obtain ⟨p, c, c0, c1, E, h8⟩ := h.open_
  obtain ⟨n, hn⟩ : ∃ n, n = S.length := ⟨_, rfl⟩
  have HN := @hideH _ (And.intro hn h8)
  have HE := @hideH _ E
  rw [← hn] at c1
  rw [← hn] at HE
  have HT := @hideH _ h
  clear E hn h8 h c0
  have HA := @hideH _ (qPlace b w1 HT.out)
  go_enter Try.func21, Try.ntmps21
  go_upto_region 1 with fail
  rw [← hw1]
  clear hw1
  go_wp2_with fail
  refine HA.out.mono ?_
  clear HA
  rintro e w2 ⟨(⟨k, x, rfl, hx, -, hf, -⟩ | ⟨k, rfl, hf, -⟩), k2⟩
  · have HF := @hideH _ hf
    have HK2 := @hideH _ k2
    have hkn' : (k : Int) < (n : Int) := by have := HN.out.1; have := (List.getElem?_eq_some_iff.1 hx).1; omega
    have hk0 : (0 : Int) ≤ (k : Int) := by omega
    obtain ⟨gl, hp, -, -, ⟨d0, d1, d2, d3, d4⟩, -⟩ := (HE.out.kept k2 (by simp)).at hx
    subst hp
    replace c1 := k2.cell c1 (by simp)
    have HZ2 := @hideH _ (HZ.out.1.kept k2 (by simp))
    clear hf hx k2
    obtain ⟨w3, hw3⟩ : ∃ wx, wx = setBox w2 w.heap.size x := ⟨_, rfl⟩
    have S := HZ2.out.setRow x
    rw [← hw3] at S
    have HS := @hideH _ S
    clear S
    unfold setBox at hw3
    have z0 := HZ2.out.cell (j := 0) rfl
    have z1 := HZ2.out.cell (j := 1) rfl
    have z2 := HZ2.out.cell (j := 2) rfl
    have z3 := HZ2.out.cell (j := 3) rfl
    have z4 := HZ2.out.cell (j := 4) rfl
    have f0 := HZ2.out.free 0
    have f1 := HZ2.out.free 1
    have f2 := HZ2.out.free 2
    have f3 := HZ2.out.free 3
    have f4 := HZ2.out.free 4
    simp only [rowZ] at z0 z1 z2 z3 z4
    go_wp2
    rw [← hw3]
    have r0 := HS.out.1.cell (j := 0) rfl
    have r1 := HS.out.1.cell (j := 1) rfl
    have r2 := HS.out.1.cell (j := 2) rfl
    have r3 := HS.out.1.cell (j := 3) rfl
    have r4 := HS.out.1.cell (j := 4) rfl
    refine bodyPost_ret (by simp [results, Try.results21, go_sem, r0, r1, r2, r3, r4]; try rfl) rfl ?_
    exact ⟨by rw [HF.out]; rfl, ((HZ.out.2.then HK2.out).trans HS.out.2 (fun y hy => .inr (by simp at hy; omega)))⟩
  · have HF := @hideH _ hf
    have HK2 := @hideH _ k2
    have HZ2 := @hideH _ (HZ.out.1.kept k2 (by simp))
    clear hf k2
    obtain ⟨w3, hw3⟩ : ∃ wx, wx = w2.alloc (.cells #[.int .i64 0, .int .i64 0, .int .i64 0, .int .i64 0, .int .i64 0] 57) := ⟨_, rfl⟩
    have kw3 : Kept [] w2 w3 := by rw [hw3]; exact (Kept.refl [] w2).alloc _
    have Z3 : Blk w3 w2.heap.size 57 rowZ.cs := by rw [hw3]; exact Blk.new w2 _ _
    have HZ3 := @hideH _ (HZ2.out.kept kw3 (by simp))
    have HK3 := @hideH _ (HK2.out.then kw3)
    have y0 := Z3.cell (j := 0) rfl
    have y1 := Z3.cell (j := 1) rfl
    have y2 := Z3.cell (j := 2) rfl
    have y3 := Z3.cell (j := 3) rfl
    have y4 := Z3.cell (j := 4) rfl
    simp only [rowZ] at y0 y1 y2 y3 y4
    clear Z3 kw3
    obtain ⟨w4, hw4⟩ : ∃ wx, wx = setBox w3 w.heap.size rowZ := ⟨_, rfl⟩
    have S := HZ3.out.setRow rowZ
    rw [← hw4] at S
    have HS := @hideH _ S
    clear S
    unfold setBox at hw4
    simp only [rowZ] at hw4
    have z0 := HZ3.out.cell (j := 0) rfl
    have z1 := HZ3.out.cell (j := 1) rfl
    have z2 := HZ3.out.cell (j := 2) rfl
    have z3 := HZ3.out.cell (j := 3) rfl
    have z4 := HZ3.out.cell (j := 4) rfl
    have f0 := HZ3.out.free 0
    have f1 := HZ3.out.free 1
    have f2 := HZ3.out.free 2
    have f3 := HZ3.out.free 3
    have f4 := HZ3.out.free 4
    simp only [rowZ] at z0 z1 z2 z3 z4
    go_upto_region 4 with fail
    rw [← hw3]
    clear hw3
    go_wp2
    rw [← hw4]
    have r0 := HS.out.1.cell (j := 0) rfl
    have r1 := HS.out.1.cell (j := 1) rfl
    have r2 := HS.out.1.cell (j := 2) rfl
    have r3 := HS.out.1.cell (j := 3) rfl
    have r4 := HS.out.1.cell (j := 4) rfl
    refine bodyPost_ret (by simp [results, Try.results21, go_sem, r0, r1, r2, r3, r4]; try rfl) rfl ?_
    exact ⟨by rw [HF.out]; rfl, ((HZ.out.2.then HK3.out).trans HS.out.2 (fun y hy => .inr (by simp at hy; omega)))⟩
set_option maxRecDepth 20000 in
set_option maxHeartbeats 1600000 in
theorem qGet {g : Nat} {F : List Nat} {m : Int} {S : List RowR} (b : Int) (w : World) (h : Tr w g F m S) : Calls Try.prog 12 #[.pointer (some ⟨g, 0, none⟩), .int .i64 b] w fun e w' => e = .returned (.tuple #[(rowOf (findB S b)).v, .bool (findB S b).isSome]) ∧ Kept [] w w' := by
  obtain ⟨w1, hw1⟩ : ∃ wx, wx = w.alloc (.cells #[.int .i64 0, .int .i64 0, .int .i64 0, .int .i64 0, .int .i64 0] 24) := ⟨_, rfl⟩
  have kw1 : Kept [] w w1 := by rw [hw1]; exact (Kept.refl [] w).alloc _
  have Z : Blk w1 w.heap.size 24 rowZ.cs := by rw [hw1]; exact Blk.new w _ _
  have HZ := @hideH _ (And.intro Z kw1)
  replace h := h.kept kw1 (by simp)
  obtain ⟨x, hx⟩ : ∃ x, x = rowOf (findB S b) := ⟨_, rfl⟩
  obtain ⟨o, ho⟩ : ∃ o, o = (findB S b).isSome := ⟨_, rfl⟩
  have q := qLGet b w1 h
  rw [← hx, ← ho] at q
  unfold RowR.v at q
  have HQ := @hideH _ q
  have HO := @hideH _ (And.intro hx ho)
  clear Z kw1 q hx ho h
  go_enter Try.func12, Try.ntmps12
  go_upto_region 1 with fail
  rw [← hw1]
  clear hw1
  go_wp2_with fail
  refine HQ.out.mono ?_
  clear HQ
  rintro e w2 ⟨rfl, k2⟩
  obtain ⟨w3, hw3⟩ : ∃ wx, wx = w2.alloc (.cells #[.int .i64 x.birth, .int .i64 x.id, .int .i64 x.state, .int .i64 x.last, .int .i64 x.next] 57) := ⟨_, rfl⟩
  have kw3 : Kept [] w2 w3 := by rw [hw3]; exact (Kept.refl [] w2).alloc _
  have Y : Blk w3 w2.heap.size 57 x.cs := by rw [hw3]; exact Blk.new w2 _ _
  have HZ3 := @hideH _ ((HZ.out.1.kept k2 (by simp)).kept kw3 (by simp))
  have HK3 := @hideH _ (k2.then kw3)
  have y0 := Y.cell (j := 0) rfl
  have y1 := Y.cell (j := 1) rfl
  have y2 := Y.cell (j := 2) rfl
  have y3 := Y.cell (j := 3) rfl
  have y4 := Y.cell (j := 4) rfl
  clear Y k2 kw3
  go_upto_region 2 with fail
  rw [← hw3]
  clear hw3
  obtain ⟨w4, hw4⟩ : ∃ wx, wx = setBox w3 w.heap.size x := ⟨_, rfl⟩
  have S := HZ3.out.setRow x
  rw [← hw4] at S
  have HS := @hideH _ S
  clear S
  unfold setBox at hw4
  have z0 := HZ3.out.cell (j := 0) rfl
  have z1 := HZ3.out.cell (j := 1) rfl
  have z2 := HZ3.out.cell (j := 2) rfl
  have z3 := HZ3.out.cell (j := 3) rfl
  have z4 := HZ3.out.cell (j := 4) rfl
  have f0 := HZ3.out.free 0
  have f1 := HZ3.out.free 1
  have f2 := HZ3.out.free 2
  have f3 := HZ3.out.free 3
  have f4 := HZ3.out.free 4
  simp only [rowZ] at z0 z1 z2 z3 z4
  go_wp2
  rw [← hw4]
  have r0 := HS.out.1.cell (j := 0) rfl
  have r1 := HS.out.1.cell (j := 1) rfl
  have r2 := HS.out.1.cell (j := 2) rfl
  have r3 := HS.out.1.cell (j := 3) rfl
  have r4 := HS.out.1.cell (j := 4) rfl
  refine bodyPost_ret (by simp [results, Try.results12, go_sem, r0, r1, r2, r3, r4]; try rfl) rfl ?_
  exact ⟨by rw [← HO.out.1, ← HO.out.2]; rfl, ((HZ.out.2.then HK3.out).trans HS.out.2 (fun y hy => .inr (by simp at hy; omega)))⟩
set_option maxRecDepth 20000 in
set_option maxHeartbeats 1600000 in
theorem qById {g : Nat} {F : List Nat} {m : Int} {S : List RowR} (b : Int) (w : World) (h : Tr w g F m S) : Calls Try.prog 13 #[.pointer (some ⟨g, 0, none⟩), .int .i64 b] w fun e w' => e = .returned (.tuple #[(rowOf (findI S b)).v, .bool (findI S b).isSome]) ∧ Kept [] w w' := by
  obtain ⟨w1, hw1⟩ : ∃ wx, wx = w.alloc (.cells #[.int .i64 0, .int .i64 0, .int .i64 0, .int .i64 0, .int .i64 0] 24) := ⟨_, rfl⟩
  have kw1 : Kept [] w w1 := by rw [hw1]; exact (Kept.refl [] w).alloc _
  have Z : Blk w1 w.heap.size 24 rowZ.cs := by rw [hw1]; exact Blk.new w _ _
  have HZ := @hideH _ (And.intro Z kw1)
  replace h := h.kept kw1 (by simp)
  clear Z kw1
  obtain ⟨p, c, c0, c1, E, h8⟩ := h.open_
  obtain ⟨n, hn⟩ : ∃ n, n = S.length := ⟨_, rfl⟩
  have HN := @hideH _ (And.intro hn h8)
  have HE := @hideH _ E
  rw [← hn] at c1
  rw [← hn] at HE
  have HT := @hideH _ h
  clear E hn h8 h c0
  go_enter Try.func13, Try.ntmps13
  go_upto_region 1 with fail
  rw [← hw1]
  clear hw1
  go_wp2
  go_loopw [14] (fun vi wr => ∃ k : Nat, k ≤ n ∧ vi = .int .i64 k ∧ Hid ((∀ (i : Nat) (y : RowR), i < k → S[i]? = some y → y.id ≠ b) ∧ Kept [] w1 wr)) (fun vi _ => n - (intOf vi).toNat)
  case atStart => exact ⟨0, Nat.zero_le _, rfl, fun i y hi => absurd hi (Nat.not_lt_zero i), Kept.refl _ _⟩
  case round =>
    clear c1
    obtain ⟨k, hk, rfl, hh⟩ := hrel
    by_cases hkl : k < n
    · have hkl' : (k : Int) < (n : Int) := by omega
      have h0 : (0 : Int) ≤ (k : Int) := by omega
      have wk : IntKind.i64.wrap ((k : Int) + 1) = (k : Int) + 1 := wrap_i64_of (by omega) (by have e1 := HN.out; omega)
      obtain ⟨x, hx⟩ : ∃ x, S[k]? = some x := ⟨_, List.getElem?_eq_getElem (by have := HN.out.1; omega)⟩
      obtain ⟨gl, hp, -, -, ⟨d0, d1, d2, d3, d4⟩, -⟩ := (HE.out.kept hh.out.2 (by simp)).at hx
      subst hp
      have HX := @hideH _ hx
      clear hx
      obtain ⟨w2, hw2⟩ : ∃ wx, wx = wr.alloc (.cells #[.int .i64 x.birth, .int .i64 x.id, .int .i64 x.state, .int .i64 x.last, .int .i64 x.next] 57) := ⟨_, rfl⟩
      have kw2 : Kept [] wr w2 := by rw [hw2]; exact (Kept.refl [] wr).alloc _
      have X : Blk w2 wr.heap.size 57 x.cs := by rw [hw2]; exact Blk.new wr _ _
      have HK2 := @hideH _ (hh.out.2.then kw2)
      have y0 := X.cell (j := 0) rfl
      have y1 := X.cell (j := 1) rfl
      have y2 := X.cell (j := 2) rfl
      have y3 := X.cell (j := 3) rfl
      have y4 := X.cell (j := 4) rfl
      clear X kw2
      go_upto_region 4 with fail
      rw [← hw2]
      clear hw2 d0 d1 d2 d3 d4
      by_cases e : x.id = b
      · have HF := @hideH _ (findI_at HX.out e hh.out.1)
        have e' : (x.id == b) = true := by simpa using e
        clear e
        have HZ2 := @hideH _ (HZ.out.1.kept HK2.out (by simp))
        obtain ⟨w3, hw3⟩ : ∃ wx, wx = setBox w2 w.heap.size x := ⟨_, rfl⟩
        have S := HZ2.out.setRow x
        rw [← hw3] at S
        have HS := @hideH _ S
        clear S
        unfold setBox at hw3
        have z0 := HZ2.out.cell (j := 0) rfl
        have z1 := HZ2.out.cell (j := 1) rfl
        have z2 := HZ2.out.cell (j := 2) rfl
        have z3 := HZ2.out.cell (j := 3) rfl
        have z4 := HZ2.out.cell (j := 4) rfl
        have f0 := HZ2.out.free 0
        have f1 := HZ2.out.free 1
        have f2 := HZ2.out.free 2
        have f3 := HZ2.out.free 3
        have f4 := HZ2.out.free 4
        simp only [rowZ] at z0 z1 z2 z3 z4
        go_wp2
        rw [← hw3]
        have r0 := HS.out.1.cell (j := 0) rfl
        have r1 := HS.out.1.cell (j := 1) rfl
        have r2 := HS.out.1.cell (j := 2) rfl
        have r3 := HS.out.1.cell (j := 3) rfl
        have r4 := HS.out.1.cell (j := 4) rfl
        refine bodyPost_ret (by simp [results, Try.results13, go_sem, r0, r1, r2, r3, r4]; try rfl) rfl ?_
        exact ⟨by rw [HF.out]; rfl, ((HZ.out.2.then HK2.out).trans HS.out.2 (fun y hy => .inr (by simp at hy; omega)))⟩
      · have e' : (x.id == b) = false := by simpa using e
        have HB := @hideH _ e
        clear e
        go_wp2
        go_roundw
        case rel => exact ⟨k + 1, by omega, by go_num, (fun i y hi hy => by
          by_cases c : i = k
          · subst c; rw [HX.out] at hy; cases hy; exact HB.out
          · exact hh.out.1 i y (by omega) hy), HK2.out⟩
        case measure => simp [intOf]; omega
    · have hkl' : ¬ (k : Int) < (n : Int) := by omega
      have HF := @hideH _ (findI_no (l := S) (b := b) (fun i y hi hy => hh.out.1 i y (by have := HN.out.1; omega) hy))
      have HZ2 := @hideH _ (HZ.out.1.kept hh.out.2 (by simp))
      obtain ⟨w3, hw3⟩ : ∃ wx, wx = setBox wr w.heap.size rowZ := ⟨_, rfl⟩
      have S := HZ2.out.setRow rowZ
      rw [← hw3] at S
      have HS := @hideH _ S
      clear S
      unfold setBox at hw3
      simp only [rowZ] at hw3
      have z0 := HZ2.out.cell (j := 0) rfl
      have z1 := HZ2.out.cell (j := 1) rfl
      have z2 := HZ2.out.cell (j := 2) rfl
      have z3 := HZ2.out.cell (j := 3) rfl
      have z4 := HZ2.out.cell (j := 4) rfl
      have f0 := HZ2.out.free 0
      have f1 := HZ2.out.free 1
      have f2 := HZ2.out.free 2
      have f3 := HZ2.out.free 3
      have f4 := HZ2.out.free 4
      simp only [rowZ] at z0 z1 z2 z3 z4
      go_wp2
      rw [← hw3]
      have r0 := HS.out.1.cell (j := 0) rfl
      have r1 := HS.out.1.cell (j := 1) rfl
      have r2 := HS.out.1.cell (j := 2) rfl
      have r3 := HS.out.1.cell (j := 3) rfl
      have r4 := HS.out.1.cell (j := 4) rfl
      refine bodyPost_ret (by simp [results, Try.results13, go_sem, r0, r1, r2, r3, r4]; try rfl) rfl ?_
      exact ⟨by rw [HF.out]; rfl, ((HZ.out.2.then hh.out.2).trans HS.out.2 (fun y hy => .inr (by simp at hy; omega)))⟩
end Go.Proofs.Ytbheegphhllogaa

/-
  OWN WORK (by mktr8.py). The landed table: take, Drop.
-/
namespace Go.Proofs.Ytbheegphhllogaa
open Go.RowKit
set_option linter.unusedVariables false
set_option linter.unusedSimpArgs false

set_option maxRecDepth 100000 in
set_option maxHeartbeats 4000000 in
theorem qTake {g : Nat} {F : List Nat} {m : Int} {S : List RowR} (b : Int) (w : World) (h : Tr w g F m S) : Calls Try.prog 24 #[.pointer (some ⟨g, 1, none⟩), .int .i64 b] w fun e w' => ∃ F', e = .returned (.tuple #[(rowOf (findB S b)).v, .bool (findB S b).isSome]) ∧ Tr w' g F' m (dropL S b) ∧ Fr w F F' ∧ Kept F w w' := by
  have HOK := @hideH _ h.ok
  obtain ⟨v, T, hF⟩ := h.parts
  have h8 : S.length ≤ 8 := by have e1 := h.ok.len; have e2 := h.ok.most; omega
  obtain ⟨p, c, hv⟩ := T.row.shape
  subst hv
  have HF0 := @hideH _ hF
  have HTR := @hideH _ h
  have HT := @hideH _ T
  have H8 := @hideH _ h8
  clear h T hF h8
  obtain ⟨w1, hw1⟩ : ∃ wx, wx = w.alloc (.cells #[.int .i64 0, .int .i64 0, .int .i64 0, .int .i64 0, .int .i64 0] 57) := ⟨_, rfl⟩
  have kw1 : Kept [] w w1 := by rw [hw1]; exact (Kept.refl [] w).alloc _
  have Z : Blk w1 w.heap.size 57 rowZ.cs := by rw [hw1]; exact Blk.new w _ _
  have HZ := @hideH _ (And.intro Z kw1)
  have HA := @hideH _ (qPlaceP b w1 (HT.out.kept kw1 (by simp) (by simp)) HOK.out.up H8.out)
  clear Z kw1
  go_enter Try.func24, Try.ntmps24
  go_upto_region 1 with fail
  rw [← hw1]
  clear hw1
  go_wp2_with fail
  refine HA.out.mono ?_
  clear HA
  rintro e w2 ⟨(⟨k, y, rfl, hy, hb, hf, -⟩ | ⟨k, rfl, hf, -⟩), k2⟩
  rotate_left
  · have HF := @hideH _ hf
    have HK2 := @hideH _ k2
    have HZ2 := @hideH _ (HZ.out.1.kept k2 (by simp))
    clear hf k2
    obtain ⟨w3, hw3⟩ : ∃ wx, wx = w2.alloc (.cells #[.int .i64 0, .int .i64 0, .int .i64 0, .int .i64 0, .int .i64 0] 57) := ⟨_, rfl⟩
    have kw3 : Kept [] w2 w3 := by rw [hw3]; exact (Kept.refl [] w2).alloc _
    have Z3 : Blk w3 w2.heap.size 57 rowZ.cs := by rw [hw3]; exact Blk.new w2 _ _
    have HZ3 := @hideH _ (HZ2.out.kept kw3 (by simp))
    have HK3 := @hideH _ (HK2.out.then kw3)
    have y0 := Z3.cell (j := 0) rfl
    have y1 := Z3.cell (j := 1) rfl
    have y2 := Z3.cell (j := 2) rfl
    have y3 := Z3.cell (j := 3) rfl
    have y4 := Z3.cell (j := 4) rfl
    simp only [rowZ] at y0 y1 y2 y3 y4
    clear Z3 kw3
    obtain ⟨w4, hw4⟩ : ∃ wx, wx = setBox w3 w.heap.size rowZ := ⟨_, rfl⟩
    have S := HZ3.out.setRow rowZ
    rw [← hw4] at S
    have HS := @hideH _ S
    clear S
    unfold setBox at hw4
    simp only [rowZ] at hw4
    have z0 := HZ3.out.cell (j := 0) rfl
    have z1 := HZ3.out.cell (j := 1) rfl
    have z2 := HZ3.out.cell (j := 2) rfl
    have z3 := HZ3.out.cell (j := 3) rfl
    have z4 := HZ3.out.cell (j := 4) rfl
    have f0 := HZ3.out.free 0
    have f1 := HZ3.out.free 1
    have f2 := HZ3.out.free 2
    have f3 := HZ3.out.free 3
    have f4 := HZ3.out.free 4
    simp only [rowZ] at z0 z1 z2 z3 z4
    go_upto_region 4 with fail
    rw [← hw3]
    clear hw3
    go_wp2
    rw [← hw4]
    have HKF := @hideH _ (show Kept [] w w4 from (HZ.out.2.then HK3.out).trans HS.out.2 (fun y hy => .inr (by simp at hy; omega)))
    have r0 := HS.out.1.cell (j := 0) rfl
    have r1 := HS.out.1.cell (j := 1) rfl
    have r2 := HS.out.1.cell (j := 2) rfl
    have r3 := HS.out.1.cell (j := 3) rfl
    have r4 := HS.out.1.cell (j := 4) rfl
    refine bodyPost_ret (by simp [results, Try.results24, go_sem, r0, r1, r2, r3, r4]; try rfl) rfl ?_
    exact ⟨F, by rw [HF.out]; rfl, by rw [dropL_none HF.out]; exact HTR.out.kept HKF.out (by simp), Fr.refl _ _, HKF.out.mono (by simp)⟩
  obtain ⟨gl, hp, -⟩ := HT.out.row.at hy
  subst hp
  obtain ⟨q, hq⟩ : ∃ q, S.length = q + 1 := ⟨S.length - 1, by have := (List.getElem?_eq_some_iff.1 hy).1; omega⟩
  rw [hq] at HT HF0
  have hkq : k ≤ q := by have := (List.getElem?_eq_some_iff.1 hy).1; omega
  have HFB := @hideH _ (And.intro hf (dropL_at HOK.out.dif hy hb))
  have HK2 := @hideH _ k2
  have HZ2 := @hideH _ (HZ.out.1.kept k2 (by simp))
  have k02 := HZ.out.2.then k2
  have T2 := HT.out.kept k02 (by simp) (by simp)
  have hk1 : (k : Int) < (q : Int) + 1 := by omega
  have hk0 : (0 : Int) ≤ (k : Int) := by omega
  have wk : IntKind.i64.wrap ((k : Int) + 1) = (k : Int) + 1 := wrap_i64_of (by omega) (by have := H8.out; omega)
  have c1 := T2.box.cell (j := 1) rfl
  obtain ⟨gl', hp, -, -, ⟨d0, d1, d2, d3, d4⟩, -⟩ := T2.row.at hy
  cases hp
  obtain ⟨w3, hw3⟩ : ∃ wx, wx = w2.alloc (.cells #[.int .i64 y.birth, .int .i64 y.id, .int .i64 y.state, .int .i64 y.last, .int .i64 y.next] 57) := ⟨_, rfl⟩
  have kw3 : Kept [] w2 w3 := by rw [hw3]; exact (Kept.refl [] w2).alloc _
  have Y : Blk w3 w2.heap.size 57 y.cs := by rw [hw3]; exact Blk.new w2 _ _
  have T3 := T2.kept kw3 (by simp) (by simp)
  have HQ := @hideH _ (qDelete gl q c k S w3 T3.row hq.symm (by have := H8.out; omega) hkq)
  have HT3 := @hideH _ (And.intro T3 (k02.then kw3))
  have HY3 := @hideH _ (And.intro Y (HZ2.out.kept kw3 (by simp)))
  have HLT := @hideH _ (show gl < w.heap.size ∧ g < w.heap.size ∧ w.heap.size < w2.heap.size ∧ gl ≠ g from ⟨(HT.out.row.lt rfl).2, HT.out.box.lt, HZ2.out.lt, HT.out.ap gl rfl⟩)
  have HQ8 := @hideH _ (And.intro hq hkq)
  clear hy hb hf k2 k02 T2 T3 Y kw3 hq hkq
  go_upto_region 6 with fail
  rw [← hw3]
  clear hw3 d0 d1 d2 d3 d4
  replace c1 := HT3.out.1.box.cell (j := 1) rfl
  go_wp2_with fail
  refine HQ.out.mono ?_
  clear HQ
  rintro e w4 ⟨rfl, R4, k4⟩
  have B4 := HT3.out.1.box.kept k4 (by have := HLT.out; simp; omega)
  replace c1 := B4.cell (j := 1) rfl
  have f1 := B4.free 1
  have FIN := HT3.out.1.put k4 (by have := HLT.out; simp; omega) R4 (fun x hx => by cases hx; exact HLT.out.2.2.2)
  obtain ⟨w5, hw5⟩ : ∃ wx, wx = w4.setCell ⟨g, 1, none⟩ (.slice (some ⟨gl, 0, none⟩) q c) := ⟨_, rfl⟩
  rw [← hw5] at FIN
  have Y5 := HY3.out.1.kept FIN.2 (by have := HLT.out; simp; omega)
  have Z5 := HY3.out.2.kept FIN.2 (by have := HLT.out; simp; omega)
  have HFIN := @hideH _ FIN
  have HZ5 := @hideH _ Z5
  have y0 := Y5.cell (j := 0) rfl
  have y1 := Y5.cell (j := 1) rfl
  have y2 := Y5.cell (j := 2) rfl
  have y3 := Y5.cell (j := 3) rfl
  have y4 := Y5.cell (j := 4) rfl
  clear FIN R4 k4 B4 Y5 Z5
  go_upto_region 7 with fail
  rw [← hw5]
  clear hw5 c1 f1
  obtain ⟨w6, hw6⟩ : ∃ wx, wx = setBox w5 w.heap.size y := ⟨_, rfl⟩
  have S := HZ5.out.setRow y
  rw [← hw6] at S
  have HS := @hideH _ S
  clear S
  unfold setBox at hw6
  have z0 := HZ5.out.cell (j := 0) rfl
  have z1 := HZ5.out.cell (j := 1) rfl
  have z2 := HZ5.out.cell (j := 2) rfl
  have z3 := HZ5.out.cell (j := 3) rfl
  have z4 := HZ5.out.cell (j := 4) rfl
  have f0 := HZ5.out.free 0
  have f1 := HZ5.out.free 1
  have f2 := HZ5.out.free 2
  have f3 := HZ5.out.free 3
  have f4 := HZ5.out.free 4
  simp only [rowZ] at z0 z1 z2 z3 z4
  go_wp2
  rw [← hw6]
  have HTF := @hideH _ (HFIN.out.1.kept HS.out.2 (by have := HLT.out; simp; omega) (fun x hx => by cases hx; have := HLT.out; simp; omega))
  have r0 := HS.out.1.cell (j := 0) rfl
  have r1 := HS.out.1.cell (j := 1) rfl
  have r2 := HS.out.1.cell (j := 2) rfl
  have r3 := HS.out.1.cell (j := 3) rfl
  have r4 := HS.out.1.cell (j := 4) rfl
  refine bodyPost_ret (by simp [results, Try.results24, go_sem, r0, r1, r2, r3, r4]; try rfl) rfl ?_
  refine ⟨F, by rw [HFB.out.1]; rfl, ⟨_, HTF.out.box, by rw [HFB.out.2]; exact HTF.out.row, HOK.out.drop b, HF0.out, HTF.out.ap⟩, Fr.refl _ _, ?_⟩
  rw [HF0.out]
  exact ((HT3.out.2.mono (T := g :: (Value.slice (some ⟨gl, 0, none⟩) (q + 1) c).ownBlock.toList) (by simp)).trans HFIN.out.2 (fun x hx => .inl hx)).trans HS.out.2 (fun x hx => .inr (by simp at hx; omega))
set_option maxRecDepth 100000 in
set_option maxHeartbeats 4000000 in
theorem qDrop {g : Nat} {F : List Nat} {m : Int} {S : List RowR} (b : Int) (w : World) (h : Tr w g F m S) : Calls Try.prog 17 #[.pointer (some ⟨g, 0, none⟩), .int .i64 b] w fun e w' => ∃ F', e = .returned (.tuple #[(rowOf (findB S b)).v, .bool (findB S b).isSome]) ∧ Tr w' g F' m (dropL S b) ∧ Fr w F F' ∧ Kept F w w' := by
  obtain ⟨w1, hw1⟩ : ∃ wx, wx = w.alloc (.cells #[.int .i64 0, .int .i64 0, .int .i64 0, .int .i64 0, .int .i64 0] 24) := ⟨_, rfl⟩
  have kw1 : Kept [] w w1 := by rw [hw1]; exact (Kept.refl [] w).alloc _
  have Z : Blk w1 w.heap.size 24 rowZ.cs := by rw [hw1]; exact Blk.new w _ _
  have HZ := @hideH _ (And.intro Z kw1)
  have HLT := @hideH _ h.lt
  replace h := h.kept kw1 (by simp)
  obtain ⟨x, hx⟩ : ∃ x, x = rowOf (findB S b) := ⟨_, rfl⟩
  obtain ⟨o, ho⟩ : ∃ o, o = (findB S b).isSome := ⟨_, rfl⟩
  have q := qTake b w1 h
  rw [← hx, ← ho] at q
  unfold RowR.v at q
  have HQ := @hideH _ q
  have HO := @hideH _ (And.intro hx ho)
  clear Z kw1 q hx ho h
  go_enter Try.func17, Try.ntmps17
  go_upto_region 1 with fail
  rw [← hw1]
  clear hw1
  go_wp2_with fail
  refine HQ.out.mono ?_
  clear HQ
  rintro e w2 ⟨F', rfl, T2, fr2, k2⟩
  obtain ⟨w3, hw3⟩ : ∃ wx, wx = w2.alloc (.cells #[.int .i64 x.birth, .int .i64 x.id, .int .i64 x.state, .int .i64 x.last, .int .i64 x.next] 57) := ⟨_, rfl⟩
  have kw3 : Kept [] w2 w3 := by rw [hw3]; exact (Kept.refl [] w2).alloc _
  have Y : Blk w3 w2.heap.size 57 x.cs := by rw [hw3]; exact Blk.new w2 _ _
  have HZ3 := @hideH _ ((HZ.out.1.kept k2 (fun hy => by have := HLT.out _ hy; omega)).kept kw3 (by simp))
  have HT3 := @hideH _ (And.intro (T2.kept kw3 (by simp)) (And.intro fr2 (k2.trans (kw3.mono (T := F) (by simp)) (fun y hy => .inl hy))))
  have HX3 := @hideH _ (T2.lt)
  have y0 := Y.cell (j := 0) rfl
  have y1 := Y.cell (j := 1) rfl
  have y2 := Y.cell (j := 2) rfl
  have y3 := Y.cell (j := 3) rfl
  have y4 := Y.cell (j := 4) rfl
  have HS3 := @hideH _ (show w2.heap.size ≤ w3.heap.size from kw3.size)
  clear Y k2 kw3 T2 fr2
  go_upto_region 2 with fail
  rw [← hw3]
  clear hw3
  obtain ⟨w4, hw4⟩ : ∃ wx, wx = setBox w3 w.heap.size x := ⟨_, rfl⟩
  have S := HZ3.out.setRow x
  rw [← hw4] at S
  have HS := @hideH _ S
  clear S
  unfold setBox at hw4
  have z0 := HZ3.out.cell (j := 0) rfl
  have z1 := HZ3.out.cell (j := 1) rfl
  have z2 := HZ3.out.cell (j := 2) rfl
  have z3 := HZ3.out.cell (j := 3) rfl
  have z4 := HZ3.out.cell (j := 4) rfl
  have f0 := HZ3.out.free 0
  have f1 := HZ3.out.free 1
  have f2 := HZ3.out.free 2
  have f3 := HZ3.out.free 3
  have f4 := HZ3.out.free 4
  simp only [rowZ] at z0 z1 z2 z3 z4
  go_wp2
  rw [← hw4]
  have hfr : ∀ x ∈ F', x ≠ w.heap.size := fun x hx => by
    rcases HT3.out.2.1 x hx with q | q
    · have := HLT.out x q; omega
    · have := HZ.out.1.lt; omega
  have HFR := @hideH _ hfr
  clear hfr
  have r0 := HS.out.1.cell (j := 0) rfl
  have r1 := HS.out.1.cell (j := 1) rfl
  have r2 := HS.out.1.cell (j := 2) rfl
  have r3 := HS.out.1.cell (j := 3) rfl
  have r4 := HS.out.1.cell (j := 4) rfl
  refine bodyPost_ret (by simp [results, Try.results17, go_sem, r0, r1, r2, r3, r4]; try rfl) rfl ?_
  refine ⟨F', by rw [← HO.out.1, ← HO.out.2]; rfl, HT3.out.1.kept HS.out.2 (fun x hx => by have := HFR.out x hx; simp; omega), HT3.out.2.1.old HZ.out.2.size, ?_⟩
  exact ((HZ.out.2.mono (T := F) (by simp)).trans HT3.out.2.2 (fun x hx => .inl hx)).trans HS.out.2 (fun x hx => .inr (by simp at hx; omega))
end Go.Proofs.Ytbheegphhllogaa

/-
  OWN WORK (by mktr4.py). The landed table: Rows.
-/
namespace Go.Proofs.Ytbheegphhllogaa
open Go.RowKit
set_option linter.unusedVariables false
set_option linter.unusedSimpArgs false

/-- 'make([]api.Row, 0, c)' -/
theorem run_make_rows {P : Program} (w : World) (t e : TypeId) (hu : P.underlying t = some (.slice e)) (hinf : (P.info? e).map (fun i => (i.zero, i.size, i.bytes)) = some (some (.agg #[.int .i64 0, .int .i64 0, .int .i64 0, .int .i64 0, .int .i64 0]), 5, 40)) (c : Nat) (hc : c ≤ 8) :
    ∃ cur : Array Value, cur.size = c * 5 ∧ (Instr.makeSlice t (.int .i64 0) (.int .i64 (c : Int))).run P w = .ok (.slice (some ⟨w.heap.size, 0, none⟩) 0 c) (w.alloc (.cells cur e)) := by
  obtain ⟨i, hi, hz, hsz, hby⟩ := info_parts3 hinf
  have h := run_make (P := P) w t e i _ hu hi hz .i64 .i64 0 (c : Int) (by omega) (by omega) (by rw [hby]; omega) (by omega)
  rw [hsz] at h
  simp only [Int.toNat_natCast, Int.toNat_zero] at h
  exact ⟨_, by rw [size_madeCells], h⟩
theorem rw_made (w : World) (e c : Nat) (cur : Array Value) (hs : cur.size = c * 5) (hc : c ≤ 8) : Rw (w.alloc (.cells cur e)) w.heap.size (.slice (some ⟨w.heap.size, 0, none⟩) 0 c) [] := by
  refine ⟨by simp [rcells], by simp [rcells], _, _, rfl, Nat.zero_le _, by unfold maxLen; omega, .inr ⟨w.heap.size, rfl, Nat.le_refl _, by simp, fun j u hj => by simp [rcells] at hj, fun j hj => ⟨?_, World.frozen?_alloc_new w _ _ j⟩⟩⟩
  have e1 : (w.alloc (.cells cur e)).cell? ⟨w.heap.size, j, none⟩ = _ := World.cell?_alloc_new w _ _ j
  rw [e1, Array.getElem?_eq_getElem (by rw [hs]; exact hj)]
  rfl
set_option maxRecDepth 20000 in
set_option maxHeartbeats 1600000 in
theorem qRows {g : Nat} {F : List Nat} {m : Int} {S : List RowR} (w : World) (h : Tr w g F m S) : Calls Try.prog 9 #[.pointer (some ⟨g, 0, none⟩)] w fun e w' => ∃ v, e = .returned v ∧ Rw w' w.heap.size v S ∧ Kept [] w w' := by
  obtain ⟨inf, hin1, hin2, hin3, hin4⟩ := info_parts3 (show (Try.prog.info? 24).map (fun i => (i.zero, i.size, i.bytes)) = some (some (.agg #[.int .i64 0, .int .i64 0, .int .i64 0, .int .i64 0, .int .i64 0]), 5, 40) by kernel_rfl)
  have HI := @hideH _ (And.intro hin1 (And.intro hin2 (And.intro hin3 hin4)))
  clear hin1 hin2 hin3 hin4
  obtain ⟨p, c, c0, c1, E, h8⟩ := h.open_
  obtain ⟨n, hn⟩ : ∃ n, n = S.length := ⟨_, rfl⟩
  have HN := @hideH _ (And.intro hn h8)
  have HE := @hideH _ E
  rw [← hn] at c1
  rw [← hn] at HE
  have q := qCount w h
  rw [← hn] at q
  have HQ := @hideH _ q
  clear E hn h8 h c0 q
  go_enter Try.func9, Try.ntmps9
  go_wp2_with fail
  refine HQ.out.mono ?_
  clear HQ
  rintro e w1 ⟨rfl, k1⟩
  obtain ⟨cur, hcs, hmk⟩ := run_make_rows (P := Try.prog) w1 26 24 Try.underlying26 (by kernel_rfl) n (by have := HN.out; omega)
  have R2 := rw_made w1 24 n cur hcs (by have := HN.out; omega)
  obtain ⟨w2, hw2⟩ : ∃ wx, wx = w1.alloc (.cells cur 24) := ⟨_, rfl⟩
  have k2 : Kept [] w1 w2 := by rw [hw2]; exact (Kept.refl [] w1).alloc _
  rw [← hw2] at hmk R2
  clear hw2 hcs
  replace c1 := (k1.then k2).cell c1 (by simp)
  have HK2 := @hideH _ (k1.then k2)
  have HR2 := @hideH _ (R2.mono k1.size)
  clear k1 k2 R2
  go_wp2
  clear hmk
  go_loopw [3, 15] (fun vo vi wr => ∃ k : Nat, k ≤ n ∧ vi = .int .i64 k ∧ (∃ p' c', vo = .slice p' k c') ∧ Hid (Rw wr w.heap.size vo (S.take k) ∧ Kept [] w wr)) (fun _ vi _ => n - (intOf vi).toNat)
  case atStart => exact ⟨0, Nat.zero_le _, rfl, ⟨_, _, rfl⟩, HR2.out, HK2.out⟩
  case round =>
    clear c1 HR2 HK2
    obtain ⟨k, hk, rfl, ⟨p', c', rfl⟩, hh⟩ := hrel
    by_cases hkl : k < n
    · have hkl' : (k : Int) < (n : Int) := by omega
      have h0 : (0 : Int) ≤ (k : Int) := by omega
      have wk : IntKind.i64.wrap ((k : Int) + 1) = (k : Int) + 1 := wrap_i64_of (by omega) (by have e1 := HN.out; omega)
      obtain ⟨x, hx⟩ : ∃ x, S[k]? = some x := ⟨_, List.getElem?_eq_getElem (by have := HN.out.1; omega)⟩
      obtain ⟨gl, hp, -, -, ⟨d0, d1, d2, d3, d4⟩, -⟩ := (HE.out.kept hh.out.2 (by simp)).at hx
      subst hp
      have HX := @hideH _ hx
      clear hx
      obtain ⟨w6, hw6⟩ : ∃ wx, wx = wr.alloc (.cells #[.int .i64 x.birth, .int .i64 x.id, .int .i64 x.state, .int .i64 x.last, .int .i64 x.next] 57) := ⟨_, rfl⟩
      have kw6 : Kept [] wr w6 := by rw [hw6]; exact (Kept.refl [] wr).alloc _
      have X : Blk w6 wr.heap.size 57 x.cs := by rw [hw6]; exact Blk.new wr _ _
      have y0 := X.cell (j := 0) rfl
      have y1 := X.cell (j := 1) rfl
      have y2 := X.cell (j := 2) rfl
      have y3 := X.cell (j := 3) rfl
      have y4 := X.cell (j := 4) rfl
      clear X
      go_upto_region 5 with fail
      rw [← hw6]
      clear hw6 d0 d1 d2 d3 d4
      obtain ⟨w7, hw7⟩ : ∃ wx, wx = w6.alloc (.cells #[.int .i64 x.birth, .int .i64 x.id, .int .i64 x.state, .int .i64 x.last, .int .i64 x.next] 24) := ⟨_, rfl⟩
      have k7 : Kept [] w6 w7 := by rw [hw7]; exact (Kept.refl [] w6).alloc _
      have hsrc := src_row (P := Try.prog) w6 26 24 Try.underlying26 x
      unfold RowR.cs at hsrc
      try dsimp only at hsrc
      rw [← hw7] at hsrc
      have k67 := kw6.then k7
      have R7 := hh.out.1.kept k67 (by simp)
      unfold Rw at R7
      rw [List.length_take, show min k S.length = k by have := HN.out.1; omega] at R7
      have HS7 := @hideH _ (Nat.le_trans hh.out.2.size k67.size)
      go_upto_region 6 with (at_builtin; rw [← hw7]; refine wpList_append_row2 rfl (.tmp 19) (.tmp 21) 26 rfl w.heap.size 24 inf (.agg #[.int .i64 0, .int .i64 0, .int .i64 0, .int .i64 0, .int .i64 0]) 5 40 Try.underlying26 HI.out.1 HI.out.2.1 HI.out.2.2.1 HI.out.2.2.2 rfl _ _ _ (by rfl) R7 _ 1 _ (by rfl) hsrc (by have e1 := HN.out; omega) (by have e1 := HN.out; unfold maxLen; omega) (by have e1 := HN.out; omega) HS7.out ?_; intro v' w8 r8 k8 o8; obtain ⟨p8, c8, hv8, -⟩ := Row.shape r8; subst hv8)
      have HK8 := @hideH _ (show Kept [] w w8 from (hh.out.2.then k67).trans k8 (fun y hy => .inr (hh.out.1.lt (own_mem.1 hy)).1))
      have HR8 := @hideH _ (show Rw w8 w.heap.size (.slice p8 (k + 1) c8) (S.take (k + 1)) by unfold Rw; rw [take_snoc HX.out, List.length_append, List.length_take, show min k S.length = k by have := HN.out.1; omega, rcells_snoc]; exact r8)
      clear r8 k8 o8 k7 R7 hsrc hw7 kw6 k67 y0 y1 y2 y3 y4
      go_wp2
      go_roundw
      case rel => exact ⟨k + 1, by omega, by go_num, ⟨p8, c8, rfl⟩, HR8.out, HK8.out⟩
      case measure => simp [intOf]; omega
    · have hkl' : ¬ (k : Int) < (n : Int) := by omega
      have HF := @hideH _ (show S.take k = S by rw [show k = S.length by have := HN.out.1; omega, List.take_length])
      go_wp2
      go_ret
      exact ⟨_, rfl, by rw [← HF.out]; exact hh.out.1, hh.out.2⟩
end Go.Proofs.Ytbheegphhllogaa

/-
  OWN WORK (by mktr1.py). The landed table asks whether a row is right.
-/
namespace Go.Proofs.Ytbheegphhllogaa
open Go.RowKit
set_option linter.unusedVariables false
set_option linter.unusedSimpArgs false

def nextR (x : RowR) : Prop := x.next = 0 ∨ (x.birth < x.next ∧ x.next ≤ x.last)
instance (x : RowR) : Decidable (nextR x) := by unfold nextR; exact inferInstance
set_option maxRecDepth 20000 in
set_option maxHeartbeats 1600000 in
theorem qNext (x : RowR) (w : World) : Calls Try.prog 32 #[x.v] w fun e w' => e = .returned (.bool (decide (nextR x))) ∧ Kept [] w w' := by
  obtain ⟨b, i, s, l, n⟩ := x
  obtain ⟨w1, hw1⟩ : ∃ wx, wx = w.alloc (.cells #[.int .i64 b, .int .i64 i, .int .i64 s, .int .i64 l, .int .i64 n] 24) := ⟨_, rfl⟩
  have k1 : Kept [] w w1 := by rw [hw1]; exact (Kept.refl [] w).alloc _
  have B : Blk w1 w.heap.size 24 [.int .i64 b, .int .i64 i, .int .i64 s, .int .i64 l, .int .i64 n] := by rw [hw1]; exact Blk.new w _ _
  have c0 := B.cell (j := 0) rfl
  have c1 := B.cell (j := 1) rfl
  have c2 := B.cell (j := 2) rfl
  have c3 := B.cell (j := 3) rfl
  have c4 := B.cell (j := 4) rfl
  have HK := @hideH _ k1
  clear k1 B
  show Calls Try.prog 32 #[.agg #[.int .i64 b, .int .i64 i, .int .i64 s, .int .i64 l, .int .i64 n]] w _
  go_enter Try.func32, Try.ntmps32
  go_upto_region 1 with fail
  rw [← hw1]
  clear hw1
  by_cases n0 : n = 0
  · have HE := @hideH _ (show nextR ⟨b, i, s, l, n⟩ from .inl n0)
    have n0' : (n == 0) = true := by simpa using n0
    clear n0
    go_wp2
    go_ret
    exact ⟨by rw [decide_eq_true HE.out]; rfl, HK.out⟩
  · have n0' : (n == 0) = false := by simpa using n0
    by_cases n1 : b < n
    · by_cases n2 : n ≤ l
      · have HE := @hideH _ (show nextR ⟨b, i, s, l, n⟩ from .inr ⟨n1, n2⟩)
        clear n0
        go_wp2
        go_ret
        exact ⟨by rw [decide_eq_true HE.out]; rfl, HK.out⟩
      · have HE := @hideH _ (show ¬ nextR ⟨b, i, s, l, n⟩ from fun h => by rcases h with q | q; exact n0 q; exact n2 q.2)
        clear n0
        go_wp2
        go_ret
        exact ⟨by rw [decide_eq_false HE.out]; rfl, HK.out⟩
    · have HE := @hideH _ (show ¬ nextR ⟨b, i, s, l, n⟩ from fun h => by rcases h with q | q; exact n0 q; exact n1 q.1)
      clear n0
      go_wp2
      go_ret
      exact ⟨by rw [decide_eq_false HE.out]; rfl, HK.out⟩
set_option maxRecDepth 20000 in
set_option maxHeartbeats 1600000 in
theorem qRight (x : RowR) (w : World) : Calls Try.prog 22 #[x.v] w fun e w' => e = .returned (.bool (decide (rightR x))) ∧ Kept [] w w' := by
  obtain ⟨b, i, s, l, n⟩ := x
  obtain ⟨w1, hw1⟩ : ∃ wx, wx = w.alloc (.cells #[.int .i64 b, .int .i64 i, .int .i64 s, .int .i64 l, .int .i64 n] 24) := ⟨_, rfl⟩
  have k1 : Kept [] w w1 := by rw [hw1]; exact (Kept.refl [] w).alloc _
  have B : Blk w1 w.heap.size 24 [.int .i64 b, .int .i64 i, .int .i64 s, .int .i64 l, .int .i64 n] := by rw [hw1]; exact Blk.new w _ _
  have c0 := B.cell (j := 0) rfl
  have c1 := B.cell (j := 1) rfl
  have c2 := B.cell (j := 2) rfl
  have c3 := B.cell (j := 3) rfl
  have c4 := B.cell (j := 4) rfl
  have HK := @hideH _ k1
  clear k1 B
  show Calls Try.prog 22 #[.agg #[.int .i64 b, .int .i64 i, .int .i64 s, .int .i64 l, .int .i64 n]] w _
  go_enter Try.func22, Try.ntmps22
  go_upto_region 1 with fail
  rw [← hw1]
  clear hw1
  by_cases b1 : (1 : Int) ≤ b
  rotate_left
  · have q : True := trivial
    have HE := @hideH _ (show ¬ rightR ⟨b, i, s, l, n⟩ from fun h => by exact b1 h.1.1)
    go_wp2
    go_ret
    exact ⟨by rw [decide_eq_false HE.out]; rfl, HK.out⟩
  by_cases b2 : b ≤ (1152921504606846976 : Int)
  rotate_left
  · have q : True := trivial
    have HE := @hideH _ (show ¬ rightR ⟨b, i, s, l, n⟩ from fun h => by exact b2 h.1.2)
    go_wp2
    go_ret
    exact ⟨by rw [decide_eq_false HE.out]; rfl, HK.out⟩
  by_cases i1 : (1 : Int) ≤ i
  rotate_left
  · have q : True := trivial
    have HE := @hideH _ (show ¬ rightR ⟨b, i, s, l, n⟩ from fun h => by exact i1 h.2.1.1)
    go_wp2
    go_ret
    exact ⟨by rw [decide_eq_false HE.out]; rfl, HK.out⟩
  by_cases i2 : i ≤ (64 : Int)
  rotate_left
  · have q : True := trivial
    have HE := @hideH _ (show ¬ rightR ⟨b, i, s, l, n⟩ from fun h => by exact i2 h.2.1.2)
    go_wp2
    go_ret
    exact ⟨by rw [decide_eq_false HE.out]; rfl, HK.out⟩
  by_cases sx : s = 1 ∨ s = 2
  rotate_left
  · have s1 : (s == 1) = false := by simp; exact fun q => sx (.inl q)
    have s2 : (s == 2) = false := by simp; exact fun q => sx (.inr q)
    have HX := @hideH _ sx
    clear sx
    have HE := @hideH _ (show ¬ rightR ⟨b, i, s, l, n⟩ from fun h => by exact HX.out h.2.2.1)
    go_wp2
    go_ret
    exact ⟨by rw [decide_eq_false HE.out]; rfl, HK.out⟩
  have HS := @hideH _ sx
  rcases sx with sv | sv
  · subst sv
    by_cases l1 : b ≤ l
    rotate_left
    · have q : True := trivial
      have HE := @hideH _ (show ¬ rightR ⟨b, i, 1, l, n⟩ from fun h => by exact l1 h.2.2.2.1.1)
      go_wp2
      go_ret
      exact ⟨by rw [decide_eq_false HE.out]; rfl, HK.out⟩
    by_cases l2 : l ≤ (1152921504606846976 : Int)
    rotate_left
    · have q : True := trivial
      have HE := @hideH _ (show ¬ rightR ⟨b, i, 1, l, n⟩ from fun h => by exact l2 h.2.2.2.1.2)
      go_wp2
      go_ret
      exact ⟨by rw [decide_eq_false HE.out]; rfl, HK.out⟩
    have HE := @hideH _ (show rightR ⟨b, i, 1, l, n⟩ ↔ nextR ⟨b, i, 1, l, n⟩ from ⟨fun h => h.2.2.2.2, fun h => ⟨⟨b1, b2⟩, ⟨i1, i2⟩, HS.out, ⟨l1, l2⟩, h⟩⟩)
    have q := qNext ⟨b, i, 1, l, n⟩ w1
    unfold RowR.v at q
    dsimp only at q
    have HQ := @hideH _ q
    clear q
    go_wp2_with fail
    refine HQ.out.mono ?_
    rintro e w2 ⟨rfl, k2⟩
    have HK2 := @hideH _ (HK.out.then k2)
    obtain ⟨r, hr⟩ : ∃ r, r = decide (nextR ⟨b, i, 1, l, n⟩) := ⟨_, rfl⟩
    rw [← hr]
    have HR := @hideH _ (show decide (rightR ⟨b, i, 1, l, n⟩) = r by rw [hr]; exact decide_eq_decide.2 HE.out)
    clear hr k2 HQ
    go_wp2
    go_ret
    exact ⟨by rw [HR.out]; rfl, HK2.out⟩
  · subst sv
    by_cases l1 : b ≤ l
    rotate_left
    · have q : True := trivial
      have HE := @hideH _ (show ¬ rightR ⟨b, i, 2, l, n⟩ from fun h => by exact l1 h.2.2.2.1.1)
      go_wp2
      go_ret
      exact ⟨by rw [decide_eq_false HE.out]; rfl, HK.out⟩
    by_cases l2 : l ≤ (1152921504606846976 : Int)
    rotate_left
    · have q : True := trivial
      have HE := @hideH _ (show ¬ rightR ⟨b, i, 2, l, n⟩ from fun h => by exact l2 h.2.2.2.1.2)
      go_wp2
      go_ret
      exact ⟨by rw [decide_eq_false HE.out]; rfl, HK.out⟩
    have HE := @hideH _ (show rightR ⟨b, i, 2, l, n⟩ ↔ nextR ⟨b, i, 2, l, n⟩ from ⟨fun h => h.2.2.2.2, fun h => ⟨⟨b1, b2⟩, ⟨i1, i2⟩, HS.out, ⟨l1, l2⟩, h⟩⟩)
    have q := qNext ⟨b, i, 2, l, n⟩ w1
    unfold RowR.v at q
    dsimp only at q
    have HQ := @hideH _ q
    clear q
    go_wp2_with fail
    refine HQ.out.mono ?_
    rintro e w2 ⟨rfl, k2⟩
    have HK2 := @hideH _ (HK.out.then k2)
    obtain ⟨r, hr⟩ : ∃ r, r = decide (nextR ⟨b, i, 2, l, n⟩) := ⟨_, rfl⟩
    rw [← hr]
    have HR := @hideH _ (show decide (rightR ⟨b, i, 2, l, n⟩) = r by rw [hr]; exact decide_eq_decide.2 HE.out)
    clear hr k2 HQ
    go_wp2
    go_ret
    exact ⟨by rw [HR.out]; rfl, HK2.out⟩
end Go.Proofs.Ytbheegphhllogaa

/-
  OWN WORK (by mktr9.py). The landed table: Put, Set; all that the laws ask of it.
-/
namespace Go.Proofs.Ytbheegphhllogaa
open Go.RowKit
set_option linter.unusedVariables false
set_option linter.unusedSimpArgs false

theorem qCountE {g : Nat} {F : List Nat} {m : Int} {S : List RowR} (w : World) (h : Tr w g F m S) : Calls Try.prog 10 #[.pointer (some ⟨g, 0, none⟩)] w fun e w' => e = .returned (.int .i64 (S.length : Int)) ∧ w' = w := by
  obtain ⟨p, c, c0, c1, E, h8⟩ := h.open_
  clear E h h8
  go_enter Try.func10, Try.ntmps10
  go_wp2
  go_ret
  exact ⟨rfl, rfl⟩
theorem isSome_false {o : Option RowR} (h : o.isSome = false) : o = none := by cases o; rfl; cases h
theorem isSome_true {o : Option RowR} (h : o.isSome = true) : ∃ x, o = some x := Option.isSome_iff_exists.1 h
theorem tr_laidN {w w' : World} {g : Nat} {F : List Nat} {m : Int} {S : List RowR} {x : RowR} {v v' : Value} {k : Nat} (hF : F = g :: v.ownBlock.toList) (ok : OkT m S) (he : putE m S x = 0) (hp : putT m S x = insB x S) (pl : Plc S x.birth k) (T : Tp w' g m v' (insAt S k x)) (o : v'.ownBlock = v.ownBlock ∨ ∃ b, v'.ownBlock = some b ∧ w.heap.size ≤ b) : Tr w' g (g :: v'.ownBlock.toList) m (putT m S x) ∧ Fr w F (g :: v'.ownBlock.toList) := by
  refine ⟨⟨v', T.box, by rw [hp, insB_plc pl (putE_ok he).2.1]; exact T.row, ok.put x, rfl, T.ap⟩, fun y hy => ?_⟩
  rw [hF]
  rcases List.mem_cons.1 hy with rfl | hy
  · exact .inl (by simp)
  · rcases o with o | ⟨b, o, hb⟩
    · rw [o] at hy; exact .inl (List.mem_cons_of_mem _ hy)
    · have := own_mem.1 hy; rw [o] at this; cases this; exact .inr hb
set_option maxRecDepth 100000 in
set_option maxHeartbeats 4000000 in
theorem qPut {g : Nat} {F : List Nat} {m : Int} {S : List RowR} (x : RowR) (w : World) (h : Tr w g F m S) : Calls Try.prog 14 #[.pointer (some ⟨g, 0, none⟩), x.v] w fun e w' => ∃ F', e = .returned (.int .i64 (putE m S x)) ∧ Tr w' g F' m (putT m S x) ∧ Fr w F F' ∧ Kept F w w' := by
  have HT := @hideH _ h
  clear h
  obtain ⟨w1, hw1⟩ : ∃ wx, wx = w.alloc (.cells #[.int .i64 x.birth, .int .i64 x.id, .int .i64 x.state, .int .i64 x.last, .int .i64 x.next] 24) := ⟨_, rfl⟩
  have kw1 : Kept [] w w1 := by rw [hw1]; exact (Kept.refl [] w).alloc _
  have X : Blk w1 w.heap.size 24 x.cs := by rw [hw1]; exact Blk.new w _ _
  have HX := @hideH _ X
  have HK1 := @hideH _ kw1
  have q := qRight x w1
  unfold RowR.v at q
  have HQ := @hideH _ q
  clear q X kw1
  show Calls Try.prog 14 #[.pointer (some ⟨g, 0, none⟩), .agg #[.int .i64 x.birth, .int .i64 x.id, .int .i64 x.state, .int .i64 x.last, .int .i64 x.next]] w _
  have z0 := HX.out.cell (j := 0) rfl
  have z1 := HX.out.cell (j := 1) rfl
  have z2 := HX.out.cell (j := 2) rfl
  have z3 := HX.out.cell (j := 3) rfl
  have z4 := HX.out.cell (j := 4) rfl
  go_enter Try.func14, Try.ntmps14
  go_upto_region 1 with fail
  rw [← hw1]
  clear hw1
  go_wp2_with fail
  refine HQ.out.mono ?_
  clear HQ
  rintro e w2 ⟨rfl, k2⟩
  have HK2 := @hideH _ (HK1.out.then k2)
  have HX2 := @hideH _ (HX.out.kept k2 (by simp))
  replace z0 := k2.cell z0 (by simp)
  replace z1 := k2.cell z1 (by simp)
  replace z2 := k2.cell z2 (by simp)
  replace z3 := k2.cell z3 (by simp)
  replace z4 := k2.cell z4 (by simp)
  clear k2
  by_cases hr : rightR x
  rotate_left
  · have HE := @hideH _ (put_range (m := m) (l := S) hr)
    rw [decide_eq_false hr]
    clear hr
    go_wp2
    go_ret
    exact ⟨F, by rw [HE.out.1]; rfl, by rw [HE.out.2]; exact HT.out.kept HK2.out (by simp), Fr.refl _ _, (HK2.out).mono (by simp)⟩
  rw [decide_eq_true hr]
  have HRI := @hideH _ hr
  clear hr
  obtain ⟨xa, hxa⟩ : ∃ y, y = rowOf (findB S x.birth) := ⟨_, rfl⟩
  obtain ⟨oa, hoa⟩ : ∃ o, o = (findB S x.birth).isSome := ⟨_, rfl⟩
  have q := qGet x.birth w2 (HT.out.kept HK2.out (by simp))
  rw [← hxa, ← hoa] at q
  unfold RowR.v at q
  have HQ := @hideH _ q
  have HOa := @hideH _ (And.intro hxa hoa)
  clear q hxa hoa
  go_wp2_with fail
  refine HQ.out.mono ?_
  clear HQ
  rintro e w3 ⟨rfl, k3⟩
  obtain ⟨w4, hw4⟩ : ∃ wx, wx = w3.alloc (.cells #[.int .i64 xa.birth, .int .i64 xa.id, .int .i64 xa.state, .int .i64 xa.last, .int .i64 xa.next] 24) := ⟨_, rfl⟩
  have kw4 : Kept [] w3 w4 := by rw [hw4]; exact (Kept.refl [] w3).alloc _
  have Ya : Blk w4 w3.heap.size 24 xa.cs := by rw [hw4]; exact Blk.new w3 _ _
  have k24 := k3.then kw4
  have HK4 := @hideH _ (HK2.out.then k24)
  have HX4 := @hideH _ (HX2.out.kept k24 (by simp))
  replace z0 := k24.cell z0 (by simp)
  replace z1 := k24.cell z1 (by simp)
  replace z2 := k24.cell z2 (by simp)
  replace z3 := k24.cell z3 (by simp)
  replace z4 := k24.cell z4 (by simp)
  go_upto_region 4 with fail
  rw [← hw4]
  clear hw4 k3 kw4 k24
  clear Ya
  obtain ⟨xb, hxb⟩ : ∃ y, y = rowOf (findI S x.id) := ⟨_, rfl⟩
  obtain ⟨ob, hob⟩ : ∃ o, o = (findI S x.id).isSome := ⟨_, rfl⟩
  have q := qById x.id w4 (HT.out.kept HK4.out (by simp))
  rw [← hxb, ← hob] at q
  unfold RowR.v at q
  have HQ := @hideH _ q
  have HOb := @hideH _ (And.intro hxb hob)
  clear q hxb hob
  go_wp2_with fail
  refine HQ.out.mono ?_
  clear HQ
  rintro e w5 ⟨rfl, k5⟩
  obtain ⟨w6, hw6⟩ : ∃ wx, wx = w5.alloc (.cells #[.int .i64 xb.birth, .int .i64 xb.id, .int .i64 xb.state, .int .i64 xb.last, .int .i64 xb.next] 24) := ⟨_, rfl⟩
  have kw6 : Kept [] w5 w6 := by rw [hw6]; exact (Kept.refl [] w5).alloc _
  have Yb : Blk w6 w5.heap.size 24 xb.cs := by rw [hw6]; exact Blk.new w5 _ _
  have k46 := k5.then kw6
  have HK6 := @hideH _ (HK4.out.then k46)
  have HX6 := @hideH _ (HX4.out.kept k46 (by simp))
  replace z0 := k46.cell z0 (by simp)
  replace z1 := k46.cell z1 (by simp)
  replace z2 := k46.cell z2 (by simp)
  replace z3 := k46.cell z3 (by simp)
  replace z4 := k46.cell z4 (by simp)
  go_upto_region 5 with fail
  rw [← hw6]
  clear hw6 k5 kw6 k46
  clear Yb
  cases oa with
  | true =>
    have HE := @hideH _ (put_txn (m := m) (l := S) (r := x) HRI.out (.inl HOa.out.2.symm))
    go_wp2
    go_ret
    exact ⟨F, by rw [HE.out.1]; rfl, by rw [HE.out.2]; exact HT.out.kept HK6.out (by simp), Fr.refl _ _, (HK6.out).mono (by simp)⟩
  | false =>
    cases ob with
    | true =>
      have HE := @hideH _ (put_txn (m := m) (l := S) (r := x) HRI.out (.inr HOb.out.2.symm))
      go_wp2
      go_ret
      exact ⟨F, by rw [HE.out.1]; rfl, by rw [HE.out.2]; exact HT.out.kept HK6.out (by simp), Fr.refl _ _, (HK6.out).mono (by simp)⟩
    | false =>
      have HNB := @hideH _ (And.intro (isSome_false HOa.out.2.symm) (isSome_false HOb.out.2.symm))
      have kx : Kept [] w6 w6.drew := (Kept.refl [] w6).drew
      have TX := HT.out.kept (HK6.out.then kx) (by simp)
      obtain ⟨p, c, c0, -, -, -⟩ := TX.open_
      obtain ⟨n, hn⟩ : ∃ n, n = S.length := ⟨_, rfl⟩
      have q := qCountE w6.drew TX
      rw [← hn] at q
      have HQ := @hideH _ q
      have HN := @hideH _ hn
      clear q hn TX
      go_upto_region 7 with fail
      go_region_held3 (fun w' => w'.cell? ⟨g, 0, none⟩ = some (.int .i64 m))
        (first
          | (exact c0)
          | fail)
        (first
          | (go_at_call 10; refine HQ.out.mono ?_; clear HQ; rintro e wx ⟨rfl, hwx⟩; rw [hwx])
          | fail)
      clear hwx
      obtain ⟨w7, hw7⟩ : ∃ wx, wx = w6.drew := ⟨_, rfl⟩
      rw [← hw7] at kx c0
      rw [← hw7]
      clear hw7 wx
      have HK7 := @hideH _ (HK6.out.then kx)
      have HX7 := @hideH _ (HX6.out.kept kx (by simp))
      replace z0 := kx.cell z0 (by simp)
      replace z1 := kx.cell z1 (by simp)
      replace z2 := kx.cell z2 (by simp)
      replace z3 := kx.cell z3 (by simp)
      replace z4 := kx.cell z4 (by simp)
      clear kx c0
      by_cases hfull : m ≤ (n : Int)
      · have HE := @hideH _ (put_full (m := m) (l := S) (r := x) HRI.out HNB.out.1 HNB.out.2 (by rw [← HN.out]; exact hfull))
        go_wp2
        go_ret
        exact ⟨F, by rw [HE.out.1]; rfl, by rw [HE.out.2]; exact HT.out.kept HK7.out (by simp), Fr.refl _ _, (HK7.out).mono (by simp)⟩
      · have HE := @hideH _ (put_ok (m := m) (l := S) (r := x) HRI.out HNB.out.1 HNB.out.2 (by rw [← HN.out]; exact hfull))
        go_upto_region 9 with fail
        have kx : Kept [] w7 w7.drew := (Kept.refl [] w7).drew
        have TX := HT.out.kept (HK7.out.then kx) (by simp)
        obtain ⟨v, TP, hF⟩ := TX.parts
        have HF := @hideH _ hF
        have HNF := @hideH _ (show w.heap.size ∉ g :: v.ownBlock.toList by rw [← hF]; exact fun hy => by have := HT.out.lt _ hy; omega)
        have q := qLayN x w7.drew TP HT.out.ok.up (by have e1 := HT.out.ok.len; have e2 := HT.out.ok.most; omega) HNB.out.1
        unfold RowR.v at q
        have HQ := @hideH _ q
        clear q TP TX hF
        replace z0 := kx.cell z0 (by simp)
        replace z1 := kx.cell z1 (by simp)
        replace z2 := kx.cell z2 (by simp)
        replace z3 := kx.cell z3 (by simp)
        replace z4 := kx.cell z4 (by simp)
        go_region_held3 (fun w' => w'.cell? ⟨w.heap.size, 0, none⟩ = some (.int .i64 x.birth) ∧ w'.cell? ⟨w.heap.size, 1, none⟩ = some (.int .i64 x.id) ∧ w'.cell? ⟨w.heap.size, 2, none⟩ = some (.int .i64 x.state) ∧ w'.cell? ⟨w.heap.size, 3, none⟩ = some (.int .i64 x.last) ∧ w'.cell? ⟨w.heap.size, 4, none⟩ = some (.int .i64 x.next))
          (first
            | (exact ⟨z0, z1, z2, z3, z4⟩)
            | (exact ⟨s0, s1, s2, s3, s4⟩)
            | fail)
          (first
            | (go_at_call 23; refine HQ.out.mono ?_; clear HQ; rintro e w9 ⟨rfl, k, v', pl, T9, o9, k9⟩; have s0 := k9.cell z0 HNF.out; have s1 := k9.cell z1 HNF.out; have s2 := k9.cell z2 HNF.out; have s3 := k9.cell z3 HNF.out; have s4 := k9.cell z4 HNF.out)
            | fail)
        clear s0 s1 s2 s3 s4
        have HT9 := @hideH _ (tr_laidN (w := w7.drew) HF.out HT.out.ok HE.out.1 HE.out.2 pl T9 o9)
        have HK9 := @hideH _ ((((HK7.out.then kx).mono (T := F) (by simp))).trans k9 (fun y hy => .inl (by rw [HF.out]; exact hy)))
        have HZ7 := @hideH _ (HK7.out.then kx).size
        clear pl T9 o9 k9 kx z0 z1 z2 z3 z4
        go_wp2
        go_ret
        exact ⟨_, by rw [HE.out.1]; rfl, HT9.out.1, HT9.out.2.old HZ7.out, HK9.out⟩
set_option maxRecDepth 100000 in
set_option maxHeartbeats 4000000 in
theorem qSet {g : Nat} {F : List Nat} {m : Int} {S : List RowR} (x : RowR) (w : World) (h : Tr w g F m S) : Calls Try.prog 20 #[.pointer (some ⟨g, 0, none⟩), x.v] w fun e w' => ∃ F', e = .returned (.int .i64 (setE S x)) ∧ Tr w' g F' m (setT S x) ∧ Fr w F F' ∧ Kept F w w' := by
  have HT := @hideH _ h
  clear h
  obtain ⟨w1, hw1⟩ : ∃ wx, wx = w.alloc (.cells #[.int .i64 x.birth, .int .i64 x.id, .int .i64 x.state, .int .i64 x.last, .int .i64 x.next] 24) := ⟨_, rfl⟩
  have kw1 : Kept [] w w1 := by rw [hw1]; exact (Kept.refl [] w).alloc _
  have X : Blk w1 w.heap.size 24 x.cs := by rw [hw1]; exact Blk.new w _ _
  have HX := @hideH _ X
  have HK1 := @hideH _ kw1
  have q := qRight x w1
  unfold RowR.v at q
  have HQ := @hideH _ q
  clear q X kw1
  show Calls Try.prog 20 #[.pointer (some ⟨g, 0, none⟩), .agg #[.int .i64 x.birth, .int .i64 x.id, .int .i64 x.state, .int .i64 x.last, .int .i64 x.next]] w _
  have z0 := HX.out.cell (j := 0) rfl
  have z1 := HX.out.cell (j := 1) rfl
  have z2 := HX.out.cell (j := 2) rfl
  have z3 := HX.out.cell (j := 3) rfl
  have z4 := HX.out.cell (j := 4) rfl
  go_enter Try.func20, Try.ntmps20
  go_upto_region 1 with fail
  rw [← hw1]
  clear hw1
  go_wp2_with fail
  refine HQ.out.mono ?_
  clear HQ
  rintro e w2 ⟨rfl, k2⟩
  have HK2 := @hideH _ (HK1.out.then k2)
  have HX2 := @hideH _ (HX.out.kept k2 (by simp))
  replace z0 := k2.cell z0 (by simp)
  replace z1 := k2.cell z1 (by simp)
  replace z2 := k2.cell z2 (by simp)
  replace z3 := k2.cell z3 (by simp)
  replace z4 := k2.cell z4 (by simp)
  clear k2
  by_cases hr : rightR x
  rotate_left
  · have HE := @hideH _ (set_range (l := S) hr)
    rw [decide_eq_false hr]
    clear hr
    go_wp2
    go_ret
    exact ⟨F, by rw [HE.out.1]; rfl, by rw [HE.out.2]; exact HT.out.kept HK2.out (by simp), Fr.refl _ _, (HK2.out).mono (by simp)⟩
  rw [decide_eq_true hr]
  have HRI := @hideH _ hr
  clear hr
  obtain ⟨xa, hxa⟩ : ∃ y, y = rowOf (findB S x.birth) := ⟨_, rfl⟩
  obtain ⟨oa, hoa⟩ : ∃ o, o = (findB S x.birth).isSome := ⟨_, rfl⟩
  have q := qGet x.birth w2 (HT.out.kept HK2.out (by simp))
  rw [← hxa, ← hoa] at q
  unfold RowR.v at q
  have HQ := @hideH _ q
  have HOa := @hideH _ (And.intro hxa hoa)
  clear q hxa hoa
  go_wp2_with fail
  refine HQ.out.mono ?_
  clear HQ
  rintro e w3 ⟨rfl, k3⟩
  obtain ⟨w4, hw4⟩ : ∃ wx, wx = w3.alloc (.cells #[.int .i64 xa.birth, .int .i64 xa.id, .int .i64 xa.state, .int .i64 xa.last, .int .i64 xa.next] 24) := ⟨_, rfl⟩
  have kw4 : Kept [] w3 w4 := by rw [hw4]; exact (Kept.refl [] w3).alloc _
  have Ya : Blk w4 w3.heap.size 24 xa.cs := by rw [hw4]; exact Blk.new w3 _ _
  have k24 := k3.then kw4
  have HK4 := @hideH _ (HK2.out.then k24)
  have HX4 := @hideH _ (HX2.out.kept k24 (by simp))
  replace z0 := k24.cell z0 (by simp)
  replace z1 := k24.cell z1 (by simp)
  replace z2 := k24.cell z2 (by simp)
  replace z3 := k24.cell z3 (by simp)
  replace z4 := k24.cell z4 (by simp)
  go_upto_region 4 with fail
  rw [← hw4]
  clear hw4 k3 kw4 k24
  have y0 := Ya.cell (j := 0) rfl
  have y1 := Ya.cell (j := 1) rfl
  have y2 := Ya.cell (j := 2) rfl
  have y3 := Ya.cell (j := 3) rfl
  have y4 := Ya.cell (j := 4) rfl
  clear Ya
  cases oa with
  | false =>
    have HE := @hideH _ (set_none (l := S) (r := x) HRI.out (isSome_false HOa.out.2.symm))
    go_wp2
    go_ret
    exact ⟨F, by rw [HE.out.1]; rfl, by rw [HE.out.2]; exact HT.out.kept HK4.out (by simp), Fr.refl _ _, (HK4.out).mono (by simp)⟩
  | true =>
    obtain ⟨y, hy⟩ := isSome_true HOa.out.2.symm
    have hyx : xa = y := by rw [HOa.out.1, hy]; rfl
    rw [hyx] at y0 y1 y2 y3 y4
    have HY := @hideH _ hy
    rw [hyx]
    clear hyx hy
    by_cases hid : y.id = x.id
    rotate_left
    · have HE := @hideH _ (set_other (l := S) HRI.out HY.out hid)
      have hid' : (y.id != x.id) = true := by simpa using hid
      clear hid
      go_wp2
      go_ret
      exact ⟨F, by rw [HE.out.1]; rfl, by rw [HE.out.2]; exact HT.out.kept HK4.out (by simp), Fr.refl _ _, (HK4.out).mono (by simp)⟩
    have HE := @hideH _ (set_ok (l := S) HRI.out HY.out hid)
    have hid' : (y.id != x.id) = false := by simpa using hid
    clear hid
    go_upto_region 6 with fail
    have kx : Kept [] w4 w4.drew := (Kept.refl [] w4).drew
    have TX := HT.out.kept (HK4.out.then kx) (by simp)
    obtain ⟨v, TP, hF⟩ := TX.parts
    have HF := @hideH _ hF
    have HNF := @hideH _ (show w.heap.size ∉ g :: v.ownBlock.toList by rw [← hF]; exact fun hy => by have := HT.out.lt _ hy; omega)
    have q := qLayS x w4.drew TP HT.out.ok.up (by have e1 := HT.out.ok.len; have e2 := HT.out.ok.most; omega) HY.out
    unfold RowR.v at q
    have HQ := @hideH _ q
    clear q TP TX hF
    replace z0 := kx.cell z0 (by simp)
    replace z1 := kx.cell z1 (by simp)
    replace z2 := kx.cell z2 (by simp)
    replace z3 := kx.cell z3 (by simp)
    replace z4 := kx.cell z4 (by simp)
    go_region_held3 (fun w' => w'.cell? ⟨w.heap.size, 0, none⟩ = some (.int .i64 x.birth) ∧ w'.cell? ⟨w.heap.size, 1, none⟩ = some (.int .i64 x.id) ∧ w'.cell? ⟨w.heap.size, 2, none⟩ = some (.int .i64 x.state) ∧ w'.cell? ⟨w.heap.size, 3, none⟩ = some (.int .i64 x.last) ∧ w'.cell? ⟨w.heap.size, 4, none⟩ = some (.int .i64 x.next))
      (first
        | (exact ⟨z0, z1, z2, z3, z4⟩)
        | (exact ⟨s0, s1, s2, s3, s4⟩)
        | fail)
      (first
        | (go_at_call 23; refine HQ.out.mono ?_; clear HQ; rintro e w9 ⟨rfl, k, hky, hkb, T9, k9⟩; have s0 := k9.cell z0 HNF.out; have s1 := k9.cell z1 HNF.out; have s2 := k9.cell z2 HNF.out; have s3 := k9.cell z3 HNF.out; have s4 := k9.cell z4 HNF.out)
        | fail)
    clear s0 s1 s2 s3 s4
    have HT9 := @hideH _ (show Tr w9 g F m (setT S x) from ⟨_, T9.box, by rw [HE.out.2, setL_at HT.out.ok.dif hky hkb]; exact T9.row, HT.out.ok.set x, HF.out, T9.ap⟩)
    have HK9 := @hideH _ ((((HK4.out.then kx).mono (T := F) (by simp))).trans k9 (fun y hy => .inl (by rw [HF.out]; exact hy)))
    clear hky hkb T9 k9 kx z0 z1 z2 z3 z4 y0 y1 y2 y3 y4
    go_wp2
    go_ret
    exact ⟨F, by rw [HE.out.1]; rfl, HT9.out, Fr.refl _ _, HK9.out⟩
theorem tbOps : TbOps Tr := {
  kept := fun h k hD => h.kept k hD
  lt := fun h => h.lt
  ok := fun h => h.ok
  new := fun most w _ => (qNew most w).mono fun e w' h => h
  put := fun x w h _ => qPut x w h
  set := fun x w h _ => qSet x w h
  get := fun b w h _ => qGet b w h
  byId := fun b w h _ => qById b w h
  drop := fun b w h _ => qDrop b w h
  rows := fun w h => qRows w h
  count := fun w h => qCount w h }
end Go.Proofs.Ytbheegphhllogaa

/-
  OWN WORK. THE STATEMENT, out of the walk.
-/
namespace Go.Proofs.Ytbheegphhllogaa.tableFresh
open Go.ChangeShapes Go.WideShapes Go.ChangeAt Go.RowKit
set_option linter.unusedVariables false
set_option maxRecDepth 100000 in
theorem contract (H : Type) (enc : TypeId × Value → H) (W : World) (base : Nat) (args : Array Value) (ds gs : List (DataW H)) (before : List MemPlace)
    (hval : ∀ (j : Nat) t v, Try.f5.params[j]? = some t → args[j]? = some v → Value.okWide Try.prog W .any base t v)
    (hW : DataW.Whole enc Try.prog Try.f5.params.toList Rows.tableFreshSpec.vars false W args.toList ds gs before) (hsz : (DataW.weightsEach Try.prog (Try.f5.params.toList ++ Rows.tableFreshSpec.plain.varTypes Try.prog) (ds ++ gs)).all (· ≤ reachBytes) = true) :
    Calls Try.prog 5 args W fun e W' => ∃ v, e = .returned v ∧ Rows.tableFreshSpec.post enc Try.prog Try.f5 false true false false W args v W' := by
  have hW' := hW
  obtain ⟨p, q, hA0, hV, rfl, hfz, hnd⟩ := hW
  have hA : DataW.TrodAll enc Try.prog W 0 (fun _ => true) true Try.f5.params.toList args.toList ds p := hA0
  rw [Try.params5] at hA hval hsz
  obtain ⟨v0, vs0, d0, ds0, p0, q0, hargs, rfl, rfl, h0, r0⟩ := trodAll_cons hA
  obtain ⟨v1, vs1, d1, ds1, p1, q1, rfl, rfl, rfl, h1, r1⟩ := trodAll_cons r0
  obtain ⟨rfl, rfl, rfl⟩ := trodAll_nil r1
  obtain rfl : args = #[v0, v1] := by cases args; simp_all
  obtain ⟨rfl, rfl⟩ := trodVars_none hV
  obtain ⟨a0, rfl, rfl, rfl, w0⟩ := open_int Try.underlying3 (hval 0 3 v0 rfl rfl) h0
  have bd0 := bounds_i64 w0
  obtain ⟨ao1, len1, cap1, rfl⟩ := okWide_slice Try.underlying22 (hval 1 22 v1 rfl rfl)
  have lt1 : ∀ x ∈ p1, x.block < W.heap.size := by obtain ⟨m, hm⟩ := h1; exact DataW.trod_lt m _ _ _ hm
  obtain ⟨l1, hl1, B1⟩ := script_open h1
  clear hA0
  refine (tableFresh_walk tbOps a0 _ l1 W B1).mono fun e W' ⟨he, kp⟩ => ?_
  subst he
  have bel := kp.below
  exact ⟨_, rfl, _, _, _, [], _, [], hW', trodAll_mk1 (shut_bool Try.underlying4 _), (trodAll_cons_mk (shut_int Try.underlying3 w0) (trodAll_cons_mk (Below.trod laidOut (by kernel_rfl) (of_decide_eq_true (by kernel_rfl)) h1 bel lt1) trodAll_mk0)), rfl, bel.frame _, fun h => by cases h⟩

set_option maxRecDepth 100000 in
theorem lifted (os : Os) (started : os.Started) (H : Type) (enc : TypeId × Value → H) :
    ReturnsInHanded {} Try.checked os 5 .any (Rows.tableFreshSpec.pre6 enc Try.prog Try.f5 Rows.tableFreshRow.domain false) (Rows.tableFreshSpec.post enc Try.prog Try.f5 false true false false) := by
  refine returnsInHanded_of_change_sized (C := Try.checked) own started (by kernel_rfl) Try.func5
    (ChangeSpec.witness6 (enc := enc) (C := Try.checked) false ⟨#[], #[.int .i64 0, .slice none 0 0], []⟩ 8 (by kernel_rfl) (by kernel_rfl) (by kernel_rfl) (by kernel_rfl)) ?_
  intro W base args ds gs before hval hW _ hsz _
  exact contract H enc W base args ds gs before hval hW hsz

theorem proved : Rows.TableFreshSaid :=
  OpenClaim.holds_of_wide 5 Try.f5 rfl rfl rfl rfl rfl rfl rfl ⟨rfl, rfl, rfl, rfl, rfl⟩ rfl rfl rfl rfl rfl (by kernel_rfl) Try.func5 (by kernel_rfl)
    (of_decide_eq_true (by kernel_rfl)) (by unfold Func.isWrapper; first | (rw [if_pos (by decide +kernel)]; kernel_rfl) | (rw [if_neg (by decide +kernel)]; exact ⟨rfl, rfl⟩))
    (fun os started H enc _ => lifted os started H enc)
#print axioms proved
end Go.Proofs.Ytbheegphhllogaa.tableFresh

