import Derived.Test.YtebcmcmboomgfaaC4
/-
  OWN WORK (by mkpr8.py). record: readers, take.
-/
namespace Go.Proofs.Ytebcmcmboomgfaa
open Go.RowKit
set_option linter.unusedVariables false
set_option linter.unusedSimpArgs false

def fnK : Nat → Nat
  | 1 => 72
  | 2 => 73
  | 3 => 74
  | 7 => 76
  | _ => 75
def fnCells : List Value := [.nilFunc, .func (.func (fnK 1)) #[] #[], .func (.func (fnK 2)) #[] #[], .func (.func (fnK 3)) #[] #[], .func (.func (fnK 4)) #[] #[], .func (.func (fnK 5)) #[] #[], .func (.func (fnK 6)) #[] #[], .func (.func (fnK 7)) #[] #[]]
theorem fnCells_at {v : Nat} (h1 : 1 ≤ v) (h2 : v ≤ 7) : fnCells[v]? = some (.func (.func (fnK v)) #[] #[]) := by
  have : v = 1 ∨ v = 2 ∨ v = 3 ∨ v = 4 ∨ v = 5 ∨ v = 6 ∨ v = 7 := by omega
  rcases this with rfl | rfl | rfl | rfl | rfl | rfl | rfl <;> rfl
theorem qReaders (w : World) : Calls Try.prog 55 #[] w fun e w' => e = .returned (.slice (some ⟨w.heap.size, 0, none⟩) 8 8) ∧ Blk w' w.heap.size 88 fnCells ∧ Kept [] w w' := by
  go_enter Try.func55, Try.ntmps55
  go_wp2
  go_ret
  exact ⟨rfl, Blk.new w _ fnCells, (Kept.refl [] w).alloc _⟩
theorem qFn (bb g R v b p : Nat) (l : List UInt8) (w : World) (h1 : 1 ≤ v) (h2 : v ≤ 7) (hr : Rs bb w g l) (hb : Blk w R 26 ((bareR v b p).cl nilV)) (hne : g ≠ R) (hbb : bb ≤ w.heap.size) (hl : l.length ≤ 140737488355328) : Calls Try.prog (fnK v) #[src g, .pointer (some ⟨R, 0, none⟩)] w fun e w' => Out bb w w' g R (pTail v b p l) e := by
  have : v = 1 ∨ v = 2 ∨ v = 3 ∨ v = 4 ∨ v = 5 ∨ v = 6 ∨ v = 7 := by omega
  rcases this with rfl | rfl | rfl | rfl | rfl | rfl | rfl
  · exact qBegin bb g R b p l w hr hb hne
  · exact qUpdate bb g R b p l w hr hb hne hl
  · exact qUndo bb g R b p l w hr hb hne hl
  · exact qNothing bb g R 4 b p l w hr hb hne (by omega)
  · exact qNothing bb g R 5 b p l w hr hb hne (by omega)
  · exact qNothing bb g R 6 b p l w hr hb hne (by omega)
  · exact qCheck bb g R b p l w hr hb hne hbb
theorem fnK_call {v : Nat} (h1 : 1 ≤ v) (h2 : v ≤ 7) (args : Array Value) (w : World) : (callFunc (fnK v) args).run Try.prog w = .ok (.enter (fnK v) args) w := by
  have : v = 1 ∨ v = 2 ∨ v = 3 ∨ v = 4 ∨ v = 5 ∨ v = 6 ∨ v = 7 := by omega
  rcases this with rfl | rfl | rfl | rfl | rfl | rfl | rfl
  · simp only [fnK]; go_simp
  · simp only [fnK]; go_simp
  · simp only [fnK]; go_simp
  · simp only [fnK]; go_simp
  · simp only [fnK]; go_simp
  · simp only [fnK]; go_simp
  · simp only [fnK]; go_simp
theorem Blk.fill11 {w : World} {g : Nat} {t : TypeId} {z0 z1 z2 z3 z4 z5 z6 z7 z8 z9 z10 : Value} (h : Blk w g t [z0, z1, z2, z3, z4, z5, z6, z7, z8, z9, z10]) (v0 v1 v2 v3 v4 v5 v6 v7 v8 v9 v10 : Value) : Blk (((((((((((w.setCell ⟨g, 0, none⟩ v0).setCell ⟨g, 1, none⟩ v1).setCell ⟨g, 2, none⟩ v2).setCell ⟨g, 3, none⟩ v3).setCell ⟨g, 4, none⟩ v4).setCell ⟨g, 5, none⟩ v5).setCell ⟨g, 6, none⟩ v6).setCell ⟨g, 7, none⟩ v7).setCell ⟨g, 8, none⟩ v8).setCell ⟨g, 9, none⟩ v9).setCell ⟨g, 10, none⟩ v10) g t [v0, v1, v2, v3, v4, v5, v6, v7, v8, v9, v10] ∧ Kept [g] w (((((((((((w.setCell ⟨g, 0, none⟩ v0).setCell ⟨g, 1, none⟩ v1).setCell ⟨g, 2, none⟩ v2).setCell ⟨g, 3, none⟩ v3).setCell ⟨g, 4, none⟩ v4).setCell ⟨g, 5, none⟩ v5).setCell ⟨g, 6, none⟩ v6).setCell ⟨g, 7, none⟩ v7).setCell ⟨g, 8, none⟩ v8).setCell ⟨g, 9, none⟩ v9).setCell ⟨g, 10, none⟩ v10) := by
  obtain ⟨b0, k0⟩ := h.set 0 v0
  obtain ⟨b1, k1⟩ := b0.set 1 v1
  obtain ⟨b2, k2⟩ := b1.set 2 v2
  obtain ⟨b3, k3⟩ := b2.set 3 v3
  obtain ⟨b4, k4⟩ := b3.set 4 v4
  obtain ⟨b5, k5⟩ := b4.set 5 v5
  obtain ⟨b6, k6⟩ := b5.set 6 v6
  obtain ⟨b7, k7⟩ := b6.set 7 v7
  obtain ⟨b8, k8⟩ := b7.set 8 v8
  obtain ⟨b9, k9⟩ := b8.set 9 v9
  obtain ⟨b10, k10⟩ := b9.set 10 v10
  exact ⟨b10, ((((((((((k0.trans k1 (fun x hx => .inl hx)).trans k2 (fun x hx => .inl hx)).trans k3 (fun x hx => .inl hx)).trans k4 (fun x hx => .inl hx)).trans k5 (fun x hx => .inl hx)).trans k6 (fun x hx => .inl hx)).trans k7 (fun x hx => .inl hx)).trans k8 (fun x hx => .inl hx)).trans k9 (fun x hx => .inl hx)).trans k10 (fun x hx => .inl hx))⟩
section
variable {l l1 l2 l3 r : List UInt8} {v b p : Nat} {x : Rcd}
theorem pr_no {l : List UInt8} (h : pAll l = none) : parseR l = none := by unfold parseR; rw [h]
theorem pr_k0 (hz : num 1 l = none) : parseR l = none := pr_no (Ps.bind_none hz)
theorem pr_kind (h : num 1 l = some (v, l1)) (hv : ¬ (1 ≤ v ∧ v ≤ 7)) : parseR l = none := by
  cases hp : parseR l with
  | none => rfl
  | some y =>
    exfalso
    obtain ⟨-, hR, hb⟩ := parseR_some hp
    have e := (num_some h).1
    rw [hb] at e
    have e2 := hR.1
    unfold bytesR at e
    have h8 := congrArg List.head? e
    have hlt := (num_some h).2.2
    simp [putN] at h8
    have h9 := congrArg UInt8.toNat h8
    simp at h9
    omega
theorem pr_b0 (h : num 1 l = some (v, l1)) (hz : num 8 l1 = none) : parseR l = none := pr_no (by unfold pAll; rw [Ps.bind_of h]; exact Ps.bind_none hz)
theorem pr_p0 (h : num 1 l = some (v, l1)) (h2 : num 8 l1 = some (b, l2)) (hz : num 8 l2 = none) : parseR l = none := pr_no (by unfold pAll; rw [Ps.bind_of h, Ps.bind_of h2]; exact Ps.bind_none hz)
theorem pAll_eq (h : num 1 l = some (v, l1)) (h2 : num 8 l1 = some (b, l2)) (h3 : num 8 l2 = some (p, l3)) : pAll l = pTail v b p l3 := by unfold pAll; rw [Ps.bind_of h, Ps.bind_of h2, Ps.bind_of h3]
theorem pr_trail (h : pAll l = some (x, r)) (hr : r ≠ []) : parseR l = none := by
  unfold parseR
  rw [h]
  cases r with
  | nil => exact absurd rfl hr
  | cons a s => simp
end

set_option maxRecDepth 20000 in
set_option maxHeartbeats 6400000 in
theorem qTake (g : Nat) (l : List UInt8) (w : World) (hr : Rs w.heap.size w g l) (hl : l.length ≤ 140737488355328) : Calls Try.prog 33 #[src g] w fun e w' => (∃ x V, pAll l = some (x, []) ∧ e = .returned (x.agg V) ∧ OwnR w.heap.size w' V x ∧ Kept [g] w w') ∨ (parseR l = none ∧ Gave e ∧ Kept [g] w w') := by
  have HLN := @hideH _ hl
  clear hl
  have hg := hr.rd.lt
  obtain ⟨w1, hw1⟩ : ∃ w1, w1 = (w.alloc (.cells #[.pointer (some ⟨g, 0, none⟩)] 64)).alloc (.cells #[.int .i64 0, .int .i64 0, .int .i64 0, .int .i64 0, .int .i64 0, .int .i64 0, .slice none 0 0, .slice none 0 0, .int .i64 0, .slice none 0 0, .slice none 0 0] 26) := ⟨_, rfl⟩
  have K1 : Kept [] w w1 := by rw [hw1]; exact ((Kept.refl [] w).alloc _).alloc _
  have BX : Blk w1 w.heap.size 64 [.pointer (some ⟨g, 0, none⟩)] := by rw [hw1]; exact (Blk.new w _ _).kept ((Kept.refl [] _).alloc _) (by simp)
  have BA : Blk w1 (w.heap.size + 1) 26 [.int .i64 0, .int .i64 0, .int .i64 0, .int .i64 0, .int .i64 0, .int .i64 0, .slice none 0 0, .slice none 0 0, .int .i64 0, .slice none 0 0, .slice none 0 0] := by rw [hw1]; have q := Blk.new (w.alloc (.cells #[.pointer (some ⟨g, 0, none⟩)] 64)) 26 [.int .i64 0, .int .i64 0, .int .i64 0, .int .i64 0, .int .i64 0, .int .i64 0, .slice none 0 0, .slice none 0 0, .int .i64 0, .slice none 0 0, .slice none 0 0]; rw [World.size_alloc] at q; exact q
  have S1 : Rs w.heap.size w1 g l := hr.kept K1
  have b1 := BX.cell (j := 0) rfl
  clear hr
  unfold src
  go_enter Try.func33, Try.ntmps33
  go_upto_region 1 with fail
  rw [← hw1]
  clear hw1
  go_wp2_with fail
  have hc := qNum1 _ g l w1 S1
  unfold src at hc
  refine hc.mono ?_
  clear hc
  rintro e w2 (⟨v, l1, h1, rfl, hr2, k2⟩ | ⟨hz, ⟨xz, rfl⟩, kz⟩)
  rotate_left
  · exact ⟨rfl, .inr ⟨pr_k0 hz, ⟨_, rfl⟩, ((Kept.refl [g] w).then K1).trans kz (fun x hx => .inl hx)⟩⟩
  have HV := @hideH _ (show v < 256 by have := (num_some h1).2.2; simpa using this)
  obtain ⟨w3, hw3⟩ : ∃ w3, w3 = w2.alloc (.cells #[.int .i64 (v : Int), .int .i64 0, .int .i64 0, .int .i64 0, .int .i64 0, .int .i64 0, .slice none 0 0, .slice none 0 0, .int .i64 0, .slice none 0 0, .slice none 0 0] 26) := ⟨_, rfl⟩
  have kA : Kept [] w2 w3 := by rw [hw3]; exact (Kept.refl [] w2).alloc _
  have BR : Blk w3 w2.heap.size 26 ((bareR v 0 0).cl nilV) := by rw [hw3]; exact Blk.new w2 _ _
  have nBg : w.heap.size ≠ g := by omega
  have nAg : w.heap.size + 1 ≠ g := by omega
  have sz2 : w.heap.size + 2 ≤ w2.heap.size := by have e1 := BA.lt; have e2 := k2.size; omega
  have BX3 := (BX.kept k2 (by simpa using nBg)).kept kA (by simp)
  have BA3 := (BA.kept k2 (by simpa using nAg)).kept kA (by simp)
  have T3 : TS w.heap.size w3 w3 g w2.heap.size w.heap.size l1 ((bareR v 0 0).cl nilV) := ⟨hr2.kept kA, BR, plain_bare _ _ _, by omega, BX3, ⟨nBg, by omega⟩, Kept.refl _ _⟩
  have K3 := @hideH _ (show Kept [g] w w3 from (((Kept.refl [g] w).then K1).trans k2 (fun x hx => .inl hx)).then kA)
  have SZ := @hideH _ (And.intro hg sz2)
  have H1 := @hideH _ h1
  have L1 := @hideH _ (Nat.le_trans (num_len h1) HLN.out)
  obtain ⟨R, hR⟩ : ∃ R, R = w2.heap.size := ⟨_, rfl⟩
  have HBA := @hideH _ BA3
  have szR : w2.heap.size < w3.heap.size := BR.lt
  clear BX BA BX3 BA3 S1 b1 k2 kA BR hr2 h1 nBg nAg sz2 K1 hg
  go_upto_region 2 with fail
  rw [← hw3]
  clear hw3
  rw [← hR] at T3 SZ szR ⊢
  clear hR
  go_wp2_with fail
  refine (qReaders _).mono ?_
  rintro e w4 ⟨rfl, BF, k4⟩
  have T4 := T3.then k4
  have HB4 := @hideH _ (HBA.out.kept k4 (by simp))
  have HBF := @hideH _ BF
  have GF := @hideH _ (show R < w3.heap.size from szR)
  clear T3 HBA BF k4 szR
  have c40 : w4.cell? ⟨R, 0, none⟩ = some (.int .i64 (v : Int)) := T4.blk.cell (j := 0) rfl
  by_cases hv : 1 ≤ v ∧ v ≤ 7
  rotate_left
  · have hno := @hideH _ (pr_kind H1.out hv)
    have KE := @hideH _ (show Kept [g] w w4 from K3.out.trans T4.kept (fun x hx => by simp at hx; rcases hx with q | q; exact .inl (by simp [q]); exact .inr (by have := SZ.out.2; omega)))
    by_cases hv1 : (v : Int) < 1
    · go_wp2_with fail
      refine (qGive 90 (by decide) _).mono ?_
      rintro e w5 ⟨rfl, rfl⟩
      exact ⟨rfl, .inr ⟨hno.out, ⟨_, rfl⟩, KE.out⟩⟩
    · have hv8 : (8 : Int) ≤ (v : Int) := by omega
      go_wp2_with fail
      refine (qGive 90 (by decide) _).mono ?_
      rintro e w5 ⟨rfl, rfl⟩
      exact ⟨rfl, .inr ⟨hno.out, ⟨_, rfl⟩, KE.out⟩⟩
  have hv1 : ¬ (v : Int) < 1 := by omega
  have hv8 : ¬ (8 : Int) ≤ (v : Int) := by omega
  have b4 := T4.bx
  have KT : ∀ {wx : World}, Kept [g, R] w3 wx → Kept [g] w wx := fun k => K3.out.trans k (fun x hx => by simp at hx; rcases hx with q | q; exact .inl (by simp [q]); exact .inr (by have := SZ.out.2; omega))
  have HKT := @hideH _ (@KT)
  skip
  go_wp2_with fail
  have hc := qEt _ g l1 w4 T4.rd
  unfold src at hc
  refine hc.mono ?_
  clear hc
  rintro e w5 (⟨b, l2, h2, rfl, hr, k⟩ | ⟨hz, ⟨xz, rfl⟩, kz⟩)
  rotate_left
  · exact ⟨rfl, .inr ⟨pr_b0 H1.out hz, ⟨_, rfl⟩, KT (kept_gR T4.kept kz)⟩⟩
  have T5 := T4.took hr k
  have HB5 := @hideH _ (HB4.out.kept k (by simp; have := SZ.out.1; omega))
  have HF5 := @hideH _ (HBF.out.kept k (by simp; have e1 := SZ.out.1; have e2 := K3.out.size; omega))
  clear HB4 HBF c40 b4 T4 hr k
  have cs := T5.blk.cell (j := 1) rfl
  have fs := T5.blk.free 1
  obtain ⟨w6, hw⟩ : ∃ wx, wx = w5.setCell ⟨R, 1, none⟩ (.int .i64 (b : Int)) := ⟨_, rfl⟩
  have T6 := T5.set 1 (.int .i64 (b : Int)) (int_not8 _)
  have kS := (T5.blk.set 1 (.int .i64 (b : Int))).2
  rw [← hw] at T6 kS
  have HB6 := @hideH _ (HB5.out.kept kS (by simp; have := SZ.out.2; omega))
  have HF6 := @hideH _ (HF5.out.kept kS (by simp; have := GF.out; omega))
  have bx := T6.bx
  clear T5 HB5 HF5 kS
  go_upto_region 6 with fail
  rw [← hw]
  clear hw cs fs
  go_wp2_with fail
  have hc := qEt _ g l2 w6 T6.rd
  unfold src at hc
  refine hc.mono ?_
  clear hc
  rintro e w7 (⟨p, l3, h3, rfl, hr, k⟩ | ⟨hz, ⟨xz, rfl⟩, kz⟩)
  rotate_left
  · exact ⟨rfl, .inr ⟨pr_p0 H1.out h2 hz, ⟨_, rfl⟩, KT (kept_gR T6.kept kz)⟩⟩
  have T7 := T6.took hr k
  have HB7 := @hideH _ (HB6.out.kept k (by simp; have := SZ.out.1; omega))
  have HF7 := @hideH _ (HF6.out.kept k (by simp; have e1 := SZ.out.1; have e2 := K3.out.size; omega))
  clear HB6 HF6 T6 hr k bx
  have cs := T7.blk.cell (j := 2) rfl
  have fs := T7.blk.free 2
  obtain ⟨w8, hw⟩ : ∃ wx, wx = w7.setCell ⟨R, 2, none⟩ (.int .i64 (p : Int)) := ⟨_, rfl⟩
  have T8 := T7.set 2 (.int .i64 (p : Int)) (int_not8 _)
  have kS := (T7.blk.set 2 (.int .i64 (p : Int))).2
  rw [← hw] at T8 kS
  have HB8 := @hideH _ (HB7.out.kept kS (by simp; have := SZ.out.2; omega))
  have HF8 := @hideH _ (HF7.out.kept kS (by simp; have := GF.out; omega))
  have bx := T8.bx
  clear T7 HB7 HF7 kS
  go_upto_region 7 with fail
  rw [← hw]
  clear hw cs fs
  have EQ := @hideH _ (pAll_eq H1.out h2 h3)
  have L3 := @hideH _ (Nat.le_trans (num_len h3) (Nat.le_trans (num_len h2) L1.out))
  clear h2 h3 bx
  have b0v : (0 : Int) ≤ (v : Int) := by omega
  have b8v : (v : Int) < 8 := by omega
  have cF := HF8.out.cell (fnCells_at hv.1 hv.2)
  have cK : w8.cell? ⟨R, 0, none⟩ = some (.int .i64 (v : Int)) := T8.blk.cell (j := 0) rfl
  have bx := T8.bx
  have hFn := fun (wz : World) (kz : Kept [] w8 wz) => qFn w.heap.size g R v b p l3 wz hv.1 hv.2 (T8.rd.kept kz) (T8.blk.kept kz (by simp)) T8.ne (by have e1 := K3.out.size; have e2 := T8.kept.size; have e3 := kz.size; omega) L3.out
  have hCF := fun args w => fnK_call hv.1 hv.2 args w
  generalize fnK v = F at hFn cF hCF
  unfold src at hFn
  have T9 := T8.then (Kept.refl [] w8).drew
  have kd : Kept [] w8 w8.drew := (Kept.refl [] w8).drew
  refine wp_region_late (fun w' => w'.cell? ⟨R, 0, none⟩ = some (.int .i64 (v : Int)) ∧ w'.cell? ⟨w3.heap.size, v, none⟩ = some (.func (.func F) #[] #[]) ∧ w'.cell? ⟨w.heap.size, 0, none⟩ = some (.pointer (some ⟨g, 0, none⟩))) 99 (by kernel_rfl) ?_
  have hS : w8.drew.cell? ⟨R, 0, none⟩ = some (.int .i64 (v : Int)) ∧ w8.drew.cell? ⟨w3.heap.size, v, none⟩ = some (.func (.func F) #[] #[]) ∧ w8.drew.cell? ⟨w.heap.size, 0, none⟩ = some (.pointer (some ⟨g, 0, none⟩)) := ⟨kd.cell cK (by simp), kd.cell cF (by simp), kd.cell bx (by simp)⟩
  refine wpAnyZ_take 0 (v := ?v0) rfl (by kernel_rfl) (by kernel_rfl) (by kernel_rfl) (by kernel_rfl) (fun _ _ _ h => h) (by rfl) ?hy0 hS ?rest0
  case hy0 => (intro wx hSx; obtain ⟨hs1, hs2, hs3⟩ := hSx; go_simp; (try with_reducible rfl))
  (try simp only [Act.put, List.setIfInBounds_toArray, List.set_cons_zero, List.set_cons_succ])
  refine wpAnyZ_take 1 (v := ?v1) rfl (by kernel_rfl) (by kernel_rfl) (by kernel_rfl) (by kernel_rfl) (fun _ _ _ h => h) (by rfl) ?hy1 hS ?rest1
  case hy1 => (intro wx hSx; obtain ⟨hs1, hs2, hs3⟩ := hSx; go_simp; (try with_reducible rfl))
  (try simp only [Act.put, List.setIfInBounds_toArray, List.set_cons_zero, List.set_cons_succ])
  refine wpAnyZ_take 2 (v := ?v2) rfl (by kernel_rfl) (by kernel_rfl) (by kernel_rfl) (by kernel_rfl) (fun _ _ _ h => h) (by rfl) ?hy2 hS ?rest2
  case hy2 => (intro wx hSx; obtain ⟨hs1, hs2, hs3⟩ := hSx; go_simp; (try with_reducible rfl))
  (try simp only [Act.put, List.setIfInBounds_toArray, List.set_cons_zero, List.set_cons_succ])
  refine wpAnyZ_take 3 (v := ?v3) rfl (by kernel_rfl) (by kernel_rfl) (by kernel_rfl) (by kernel_rfl) (fun _ _ _ h => h) (by rfl) ?hy3 hS ?rest3
  case hy3 => (intro wx hSx; obtain ⟨hs1, hs2, hs3⟩ := hSx; go_simp; (try with_reducible rfl))
  (try simp only [Act.put, List.setIfInBounds_toArray, List.set_cons_zero, List.set_cons_succ])
  refine wpAnyZ_take 4 (v := ?v4) rfl (by kernel_rfl) (by kernel_rfl) (by kernel_rfl) (by kernel_rfl) (fun _ _ _ h => h) (by rfl) ?hy4 hS ?rest4
  case hy4 => (intro wx hSx; obtain ⟨hs1, hs2, hs3⟩ := hSx; go_simp; (try with_reducible rfl))
  (try simp only [Act.put, List.setIfInBounds_toArray, List.set_cons_zero, List.set_cons_succ])
  refine wpAnyZ_take 5 (v := ?v5) rfl (by kernel_rfl) (by kernel_rfl) (by kernel_rfl) (by kernel_rfl) (fun _ _ _ h => h) (by rfl) ?hy5 hS ?rest5
  case hy5 => (intro wx hSx; obtain ⟨hs1, hs2, hs3⟩ := hSx; go_simp; (try with_reducible rfl))
  (try simp only [Act.put, List.setIfInBounds_toArray, List.set_cons_zero, List.set_cons_succ])
  refine wpAnyZ_one 6 rfl (by kernel_rfl) (fun K hK => ?_)
  go_simp
  refine (hFn _ kd).mono ?_
  clear hFn hCF
  rintro e w9 (⟨x, r, V, B', hp, rfl, T10, OW⟩ | ⟨hz, ⟨xz, rfl⟩, kz⟩)
  rotate_left
  · exact ⟨rfl, .inr ⟨pr_no (by rw [EQ.out]; exact hz), ⟨_, rfl⟩, KT (T9.kept.trans kz (fun x hx => .inl hx))⟩⟩
  have hS9 : w9.cell? ⟨R, 0, none⟩ = some (.int .i64 (v : Int)) ∧ w9.cell? ⟨w3.heap.size, v, none⟩ = some (.func (.func F) #[] #[]) ∧ w9.cell? ⟨w.heap.size, 0, none⟩ = some (.pointer (some ⟨g, 0, none⟩)) := ⟨by rw [← (pTail_some hp).2.1]; exact T10.blk.cell (j := 0) rfl, T10.kept.cell (kd.cell cF (by simp)) (by simp; have e1 := SZ.out.1; have e2 := K3.out.size; have e3 := GF.out; omega), (T9.box.kept T10.kept (by simp; have e1 := SZ.out; omega)).cell (j := 0) rfl⟩
  dsimp only
  refine hK _ _ (fun _ => hS9) ?_
  clear hK K hS9
  (try simp only [Act.put, List.setIfInBounds_toArray, List.set_cons_zero, List.set_cons_succ])
  refine wpAnyZ_done (by kernel_rfl) ?_ _
  have k9 := T10.kept
  have HB9 := @hideH _ ((HB8.out.kept kd (by simp)).kept k9 (by simp; have e1 := SZ.out; omega))
  have bx9 : w9.cell? ⟨w.heap.size, 0, none⟩ = some (.pointer (some ⟨g, 0, none⟩)) := (T9.box.kept k9 (by simp; have e1 := SZ.out; omega)).cell (j := 0) rfl
  have KE := @hideH _ (show Kept [g] w w9 from KT (T9.kept.trans k9 (fun x hx => .inl hx)))
  have HP := @hideH _ (show pAll l = some (x, r) by rw [EQ.out]; exact hp)
  have HOW := @hideH _ (OW.mono (show w.heap.size ≤ w8.drew.heap.size from Nat.le_trans K3.out.size T8.kept.size))
  have HGE := @hideH _ (fun (y : Nat) (hy : V.vb.ownBlock = some y ∨ V.va.ownBlock = some y ∨ V.vr.ownBlock = some y ∨ V.vd.ownBlock = some y) => (OW.ge hy).1)
  have HLT8 := @hideH _ (show R < w8.drew.heap.size from Nat.lt_of_lt_of_le GF.out T8.kept.size)
  have hE := fun (wz : World) (hz : Rs w.heap.size wz g r) => end_any g r wz hz.rd
  have R10 := T10.rd
  have HBR := @hideH _ T10.blk
  have HSH := @hideH _ OW.see.shapes
  clear hS cF cK bx T8 T9 T10 k9 hp kd OW
  by_cases hr0 : r = []
  rotate_left
  · have hE2 := hE w9 R10
    rw [if_neg (fun e => hr0 (List.eq_nil_of_length_eq_zero e))] at hE2
    have hno := @hideH _ (pr_trail HP.out hr0)
    clear hE R10 hr0
    go_wp2_with fail
    refine hE2.mono ?_
    rintro e w10 ⟨rfl, rfl⟩
    clear hE2
    go_wp2_with fail
    refine (qGive 11 (by decide) _).mono ?_
    rintro e w11 ⟨rfl, rfl⟩
    exact ⟨rfl, .inr ⟨hno.out, ⟨_, rfl⟩, KE.out⟩⟩
  subst hr0
  have hE2 := hE w9 R10
  rw [if_pos (by rfl)] at hE2
  clear hE R10
  go_wp2_with fail
  refine hE2.mono ?_
  rintro e w10 ⟨rfl, rfl⟩
  clear hE2
  go_wp2_with fail
  refine (qGive0 _).mono ?_
  rintro e w11 ⟨rfl, rfl⟩
  obtain ⟨pb, cb, pa, ca, pr, cr, pd, cd, hV⟩ := HSH.out
  subst hV
  clear HSH
  obtain ⟨kind, birth, prev, id, page, frm, before, after, next, rows, dirty⟩ := x
  dsimp only at HOW HBR HGE ⊢
  unfold Rcd.cl at HBR
  dsimp only at HBR
  have r0 := HBR.out.cell (j := 0) rfl
  have r1 := HBR.out.cell (j := 1) rfl
  have r2 := HBR.out.cell (j := 2) rfl
  have r3 := HBR.out.cell (j := 3) rfl
  have r4 := HBR.out.cell (j := 4) rfl
  have r5 := HBR.out.cell (j := 5) rfl
  have r6 := HBR.out.cell (j := 6) rfl
  have r7 := HBR.out.cell (j := 7) rfl
  have r8 := HBR.out.cell (j := 8) rfl
  have r9 := HBR.out.cell (j := 9) rfl
  have r10 := HBR.out.cell (j := 10) rfl
  have a0 := HB9.out.cell (j := 0) rfl
  have a1 := HB9.out.cell (j := 1) rfl
  have a2 := HB9.out.cell (j := 2) rfl
  have a3 := HB9.out.cell (j := 3) rfl
  have a4 := HB9.out.cell (j := 4) rfl
  have a5 := HB9.out.cell (j := 5) rfl
  have a6 := HB9.out.cell (j := 6) rfl
  have a7 := HB9.out.cell (j := 7) rfl
  have a8 := HB9.out.cell (j := 8) rfl
  have a9 := HB9.out.cell (j := 9) rfl
  have a10 := HB9.out.cell (j := 10) rfl
  have f0 := HB9.out.free 0
  have f1 := HB9.out.free 1
  have f2 := HB9.out.free 2
  have f3 := HB9.out.free 3
  have f4 := HB9.out.free 4
  have f5 := HB9.out.free 5
  have f6 := HB9.out.free 6
  have f7 := HB9.out.free 7
  have f8 := HB9.out.free 8
  have f9 := HB9.out.free 9
  have f10 := HB9.out.free 10
  obtain ⟨BF, kF⟩ := HB9.out.fill11 (.int .i64 kind) (.int .i64 birth) (.int .i64 prev) (.int .i64 id) (.int .i64 page) (.int .i64 frm) (.slice pb before.length cb) (.slice pa after.length ca) (.int .i64 next) (.slice pr rows.length cr) (.slice pd dirty.length cd)
  go_wp2
  obtain ⟨wF, hF⟩ : ∃ wF, wF = (((((((((((w11.setCell ⟨w.heap.size + 1, 0, none⟩ (.int .i64 kind)).setCell ⟨w.heap.size + 1, 1, none⟩ (.int .i64 birth)).setCell ⟨w.heap.size + 1, 2, none⟩ (.int .i64 prev)).setCell ⟨w.heap.size + 1, 3, none⟩ (.int .i64 id)).setCell ⟨w.heap.size + 1, 4, none⟩ (.int .i64 page)).setCell ⟨w.heap.size + 1, 5, none⟩ (.int .i64 frm)).setCell ⟨w.heap.size + 1, 6, none⟩ (.slice pb before.length cb)).setCell ⟨w.heap.size + 1, 7, none⟩ (.slice pa after.length ca)).setCell ⟨w.heap.size + 1, 8, none⟩ (.int .i64 next)).setCell ⟨w.heap.size + 1, 9, none⟩ (.slice pr rows.length cr)).setCell ⟨w.heap.size + 1, 10, none⟩ (.slice pd dirty.length cd)) := ⟨_, rfl⟩
  rw [← hF]
  rw [← hF] at BF kF
  clear hF
  have q0 := BF.cell (j := 0) rfl
  have q1 := BF.cell (j := 1) rfl
  have q2 := BF.cell (j := 2) rfl
  have q3 := BF.cell (j := 3) rfl
  have q4 := BF.cell (j := 4) rfl
  have q5 := BF.cell (j := 5) rfl
  have q6 := BF.cell (j := 6) rfl
  have q7 := BF.cell (j := 7) rfl
  have q8 := BF.cell (j := 8) rfl
  have q9 := BF.cell (j := 9) rfl
  have q10 := BF.cell (j := 10) rfl
  have OWF := @hideH _ (HOW.out.kept kF (fun y hy hm => by simp at hm; have e1 := HGE.out y hy; have e2 := HLT8.out; have e3 := SZ.out.2; omega))
  have KF := @hideH _ (KE.out.trans kF (fun x hx => .inr (by simp at hx; omega)))
  clear BF kF r0 a0 f0 r1 a1 f1 r2 a2 f2 r3 a3 f3 r4 a4 f4 r5 a5 f5 r6 a6 f6 r7 a7 f7 r8 a8 f8 r9 a9 f9 r10 a10 f10
  refine bodyPost_ret (by simp [results, Try.results33, go_sem, q0, q1, q2, q3, q4, q5, q6, q7, q8, q9, q10]; try rfl) rfl ?_
  exact .inl ⟨_, _, HP.out, rfl, OWF.out, KF.out⟩
end Go.Proofs.Ytebcmcmboomgfaa

