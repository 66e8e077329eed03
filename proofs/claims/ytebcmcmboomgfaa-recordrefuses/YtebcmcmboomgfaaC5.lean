import Derived.Test.YtebcmcmboomgfaaC4
/-
  OWN WORK (by mkpr8.py). record: readers, take.
-/
namespace Go.Proofs.Ytebcmcmboomgfaa
open Go.RowKit
set_option linter.unusedVariables false
set_option linter.unusedSimpArgs false

def fnK : Nat → Nat
  | 1 => 72
  | 2 => 73
  | 3 => 74
  | 7 => 76
  | _ => 75
def fnCells : List Value := [.nilFunc, .func (.func (fnK 1)) #[] #[], .func (.func (fnK 2)) #[] #[], .func (.func (fnK 3)) #[] #[], .func (.func (fnK 4)) #[] #[], .func (.func (fnK 5)) #[] #[], .func (.func (fnK 6)) #[] #[], .func (.func (fnK 7)) #[] #[]]
theorem fnCells_at {v : Nat} (h1 : 1 ≤ v) (h2 : v ≤ 7) : fnCells[v]? = some (.func (.func (fnK v)) #[] #[]) := by
  have : v = 1 ∨ v = 2 ∨ v = 3 ∨ v = 4 ∨ v = 5 ∨ v = 6 ∨ v = 7 := by omega
  rcases this with rfl | rfl | rfl | rfl | rfl | rfl | rfl <;> rfl
theorem qReaders (w : World) : Calls Try.prog 55 #[] w fun e w' => e = .returned (.slice (some ⟨w.heap.size, 0, none⟩) 8 8) ∧ Blk w' w.heap.size 88 fnCells ∧ Kept [] w w' := by
  go_enter Try.func55, Try.ntmps55
  go_wp2
  go_ret
  exact ⟨rfl, Blk.new w _ fnCells, (Kept.refl [] w).alloc _⟩
theorem qFn (bb g R v b p : Nat) (l : List UInt8) (w : World) (h1 : 1 ≤ v) (h2 : v ≤ 7) (hr : Rs bb w g l) (hb : Blk w R 26 ((bareR v b p).cl nilV)) (hne : g ≠ R) (hbb : bb ≤ w.heap.size) (hl : l.length ≤ 140737488355328) : Calls Try.prog (fnK v) #[src g, .pointer (some ⟨R, 0, none⟩)] w fun e w' => Out bb w w' g R (pTail v b p l) e := by
  have : v = 1 ∨ v = 2 ∨ v = 3 ∨ v = 4 ∨ v = 5 ∨ v = 6 ∨ v = 7 := by omega
  rcases this with rfl | rfl | rfl | rfl | rfl | rfl | rfl
  · exact qBegin bb g R b p l w hr hb hne
  · exact qUpdate bb g R b p l w hr hb hne hl
  · exact qUndo bb g R b p l w hr hb hne hl
  · exact qNothing bb g R 4 b p l w hr hb hne (by omega)
  · exact qNothing bb g R 5 b p l w hr hb hne (by omega)
  · exact qNothing bb g R 6 b p l w hr hb hne (by omega)
  · exact qCheck bb g R b p l w hr hb hne hbb
theorem fnK_call {v : Nat} (h1 : 1 ≤ v) (h2 : v ≤ 7) (args : Array Value) (w : World) : (callFunc (fnK v) args).run Try.prog w = .ok (.enter (fnK v) args) w := by
  have : v = 1 ∨ v = 2 ∨ v = 3 ∨ v = 4 ∨ v = 5 ∨ v = 6 ∨ v = 7 := by omega
  rcases this with rfl | rfl | rfl | rfl | rfl | rfl | rfl
  · simp only [fnK]; go_simp
  · simp only [fnK]; go_simp
  · simp only [fnK]; go_simp
  · simp only [fnK]; go_simp
  · simp only [fnK]; go_simp
  · simp only [fnK]; go_simp
  · simp only [fnK]; go_simp
theorem Blk.fill11 {w : World} {g : Nat} {t : TypeId} {z0 z1 z2 z3 z4 z5 z6 z7 z8 z9 z10 : Value} (h : Blk w g t [z0, z1, z2, z3, z4, z5, z6, z7, z8, z9, z10]) (v0 v1 v2 v3 v4 v5 v6 v7 v8 v9 v10 : Value) : Blk (((((((((((w.setCell ⟨g, 0, none⟩ v0).setCell ⟨g, 1, none⟩ v1).setCell ⟨g, 2, none⟩ v2).setCell ⟨g, 3, none⟩ v3).setCell ⟨g, 4, none⟩ v4).setCell ⟨g, 5, none⟩ v5).setCell ⟨g, 6, none⟩ v6).setCell ⟨g, 7, none⟩ v7).setCell ⟨g, 8, none⟩ v8).setCell ⟨g, 9, none⟩ v9).setCell ⟨g, 10, none⟩ v10) g t [v0, v1, v2, v3, v4, v5, v6, v7, v8, v9, v10] ∧ Kept [g] w (((((((((((w.setCell ⟨g, 0, none⟩ v0).setCell ⟨g, 1, none⟩ v1).setCell ⟨g, 2, none⟩ v2).setCell ⟨g, 3, none⟩ v3).setCell ⟨g, 4, none⟩ v4).setCell ⟨g, 5, none⟩ v5).setCell ⟨g, 6, none⟩ v6).setCell ⟨g, 7, none⟩ v7).setCell ⟨g, 8, none⟩ v8).setCell ⟨g, 9, none⟩ v9).setCell ⟨g, 10, none⟩ v10) := by
  obtain ⟨b0, k0⟩ := h.set 0 v0
  obtain ⟨b1, k1⟩ := b0.set 1 v1
  obtain ⟨b2, k2⟩ := b1.set 2 v2
  obtain ⟨b3, k3⟩ := b2.set 3 v3
  obtain ⟨b4, k4⟩ := b3.set 4 v4
  obtain ⟨b5, k5⟩ := b4.set 5 v5
  obtain ⟨b6, k6⟩ := b5.set 6 v6
  obtain ⟨b7, k7⟩ := b6.set 7 v7
  obtain ⟨b8, k8⟩ := b7.set 8 v8
  obtain ⟨b9, k9⟩ := b8.set 9 v9
  obtain ⟨b10, k10⟩ := b9.set 10 v10
  exact ⟨b10, ((((((((((k0.trans k1 (fun x hx => .inl hx)).trans k2 (fun x hx => .inl hx)).trans k3 (fun x hx => .inl hx)).trans k4 (fun x hx => .inl hx)).trans k5 (fun x hx => .inl hx)).trans k6 (fun x hx => .inl hx)).trans k7 (fun x hx => .inl hx)).trans k8 (fun x hx => .inl hx)).trans k9 (fun x hx => .inl hx)).trans k10 (fun x hx => .inl hx))⟩
section
variable {l l1 l2 l3 r : List UInt8} {v b p : Nat} {x : Rcd}
theorem pr_no {l : List UInt8} (h : pAll l = none) : parseR l = none := by unfold parseR; rw [h]
theorem pr_k0 (hz : num 1 l = none) : parseR l = none := pr_no (Ps.bind_none hz)
theorem pr_kind (h : num 1 l = some (v, l1)) (hv : ¬ (1 ≤ v ∧ v ≤ 7)) : parseR l = none := by
  cases hp : parseR l with
  | none => rfl
  | some y =>
    exfalso
    obtain ⟨-, hR, hb⟩ := parseR_some hp
    have e := (num_some h).1
    rw [hb] at e
    have e2 := hR.1
    unfold bytesR at e
    have h8 := congrArg List.head? e
    have hlt := (num_some h).2.2
    simp [putN] at h8
    have h9 := congrArg UInt8.toNat h8
    simp at h9
    omega
theorem pr_b0 (h : num 1 l = some (v, l1)) (hz : num 8 l1 = none) : parseR l = none := pr_no (by unfold pAll; rw [Ps.bind_of h]; exact Ps.bind_none hz)
theorem pr_p0 (h : num 1 l = some (v, l1)) (h2 : num 8 l1 = some (b, l2)) (hz : num 8 l2 = none) : parseR l = none := pr_no (by unfold pAll; rw [Ps.bind_of h, Ps.bind_of h2]; exact Ps.bind_none hz)
theorem pAll_eq (h : num 1 l = some (v, l1)) (h2 : num 8 l1 = some (b, l2)) (h3 : num 8 l2 = some (p, l3)) : pAll l = pTail v b p l3 := by unfold pAll; rw [Ps.bind_of h, Ps.bind_of h2, Ps.bind_of h3]
theorem pr_trail (h : pAll l = some (x, r)) (hr : r ≠ []) : parseR l = none := by
  unfold parseR
  rw [h]
  cases r with
  | nil => exact absurd rfl hr
  | cons a s => simp
end

set_option maxRecDepth 20000 in
set_option maxHeartbeats 6400000 in
theorem qTake (g : Nat) (l : List UInt8) (w : World) (hr : Rs w.heap.size w g l) (hl : l.length ≤ 140737488355328) : Calls Try.prog 33 #[src g] w fun e w' => (∃ x V, pAll l = some (x, []) ∧ e = .returned (x.agg V) ∧ OwnR w.heap.size w' V x ∧ Kept [g] w w') ∨ (parseR l = none ∧ Gave e ∧ Kept [g] w w') := by
  have HLN := @hideH _ hl
  clear hl
  have hg := hr.rd.lt
  obtain ⟨w1, hw1⟩ : ∃ w1, w1 = (w.alloc (.cells #[.pointer (some ⟨g, 0, none⟩)] 64)).alloc (.cells #[.int .i64 0, .int .i64 0, .int .i64 0, .int .i64 0, .int .i64 0, .int .i64 0, .slice none 0 0, .slice none 0 0, .int .i64 0, .slice none 0 0, .slice none 0 0] 26) := ⟨_, rfl⟩
  have K1 : Kept [] w w1 := by rw [hw1]; exact ((Kept.refl [] w).alloc _).alloc _
  have BX : Blk w1 w.heap.size 64 [.pointer (some ⟨g, 0, none⟩)] := by rw [hw1]; exact (Blk.new w _ _).kept ((Kept.refl [] _).alloc _) (by simp)
  have BA : Blk w1 (w.heap.size + 1) 26 [.int .i64 0, .int .i64 0, .int .i64 0, .int .i64 0, .int .i64 0, .int .i64 0, .slice none 0 0, .slice none 0 0, .int .i64 0, .slice none 0 0, .slice none 0 0] := by rw [hw1]; have q := Blk.new (w.alloc (.cells #[.pointer (some ⟨g, 0, none⟩)] 64)) 26 [.int .i64 0, .int .i64 0, .int .i64 0, .int .i64 0, .int .i64 0, .int .i64 0, .slice none 0 0, .slice none 0 0, .int .i64 0, .slice none 0 0, .slice none 0 0]; rw [World.size_alloc] at q; exact q
  have S1 : Rs w.heap.size w1 g l := hr.kept K1
  have b1 := BX.cell (j := 0) rfl
  clear hr
  unfold src
  go_enter Try.func33, Try.ntmps33
  go_upto_region 1 with fail
  rw [← hw1]
  clear hw1
  go_wp2_with fail
  have hc := qNum1 _ g l w1 S1
  unfold src at hc
  refine hc.mono ?_
  clear hc
  rintro e w2 (⟨v, l1, h1, rfl, hr2, k2⟩ | ⟨hz, ⟨xz, rfl⟩, kz⟩)
  rotate_left
  · exact ⟨rfl, .inr ⟨pr_k0 hz, ⟨_, rfl⟩, ((Kept.refl [g] w).then K1).trans kz (fun x hx => .inl hx)⟩⟩
  have HV := @hideH _ (show v < 256 by have := (num_some h1).2.2; simpa using this)
  obtain ⟨w3, hw3⟩ : ∃ w3, w3 = w2.alloc (.cells #[.int .i64 (v : Int), .int .i64 0, .int .i64 0, .int .i64 0, .int .i64 0, .int .i64 0, .slice none 0 0, .slice none 0 0, .int .i64 0, .slice none 0 0, .slice none 0 0] 26) := ⟨_, rfl⟩
  have kA : Kept [] w2 w3 := by rw [hw3]; exact (Kept.refl [] w2).alloc _
  have BR : Blk w3 w2.heap.size 26 ((bareR v 0 0).cl nilV) := by rw [hw3]; exact Blk.new w2 _ _
  have nBg : w.heap.size ≠ g := by omega
  have nAg : w.heap.size + 1 ≠ g := by omega
  have sz2 : w.heap.size + 2 ≤ w2.heap.size := by have e1 := BA.lt; have e2 := k2.size; omega
  have BX3 := (BX.kept k2 (by simpa using nBg)).kept kA (by simp)
  have BA3 := (BA.kept k2 (by simpa using nAg)).kept kA (by simp)
  have T3 : TS w.heap.size w3 w3 g w2.heap.size w.heap.size l1 ((bareR v 0 0).cl nilV) := ⟨hr2.kept kA, BR, plain_bare _ _ _, by omega, BX3, ⟨nBg, by omega⟩, Kept.refl _ _⟩
  have K3 := @hideH _ (show Kept [g] w w3 from (((Kept.refl [g] w).then K1).trans k2 (fun x hx => .inl hx)).then kA)
  have SZ := @hideH _ (And.intro hg sz2)
  have H1 := @hideH _ h1
  have L1 := @hideH _ (Nat.le_trans (num_len h1) HLN.out)
  obtain ⟨R, hR⟩ : ∃ R, R = w2.heap.size := ⟨_, rfl⟩
  have HBA := @hideH _ BA3
  have szR : w2.heap.size < w3.heap.size := BR.lt
  clear BX BA BX3 BA3 S1 b1 k2 kA BR hr2 h1 nBg nAg sz2 K1 hg
  go_upto_region 2 with fail
  rw [← hw3]
  clear hw3
  rw [← hR] at T3 SZ szR ⊢
  clear hR
  go_wp2_with fail
  refine (qReaders _).mono ?_
  rintro e w4 ⟨rfl, BF, k4⟩
  have T4 := T3.then k4
  have HB4 := @hideH _ (HBA.out.kept k4 (by simp))
  have HBF := @hideH _ BF
  have GF := @hideH _ (show R < w3.heap.size from szR)
  clear T3 HBA BF k4 szR
  have c40 : w4.cell? ⟨R, 0, none⟩ = some (.int .i64 (v : Int)) := T4.blk.cell (j := 0) rfl
  by_cases hv : 1 ≤ v ∧ v ≤ 7
  rotate_left
  · have hno := @hideH _ (pr_kind H1.out hv)
    have KE := @hideH _ (show Kept [g] w w4 from K3.out.trans T4.kept (fun x hx => by simp at hx; rcases hx with q | q; exact .inl (by simp [q]); exact .inr (by have := SZ.out.2; omega)))
    by_cases hv1 : (v : Int) < 1
    · go_wp2_with fail
      refine (qGive 90 (by decide) _).mono ?_
      rintro e w5 ⟨rfl, rfl⟩
      exact ⟨rfl, .inr ⟨hno.out, ⟨_, rfl⟩, KE.out⟩⟩
    · have hv8 : (8 : Int) ≤ (v : Int) := by omega
      go_wp2_with fail
      refine (qGive 90 (by decide) _).mono ?_
      rintro e w5 ⟨rfl, rfl⟩
      exact ⟨rfl, .inr ⟨hno.out, ⟨_, rfl⟩, KE.out⟩⟩
  have hv1 : ¬ (v : Int) < 1 := by omega
  have hv8 : ¬ (8 : Int) ≤ (v : Int) := by omega
  have b4 := T4.bx
  have KT : ∀ {wx : World}, Kept [g, R] w3 wx → Kept [g] w wx := fun k => K3.out.trans k (fun x hx => by simp at hx; rcases hx with q | q; exact .inl (by simp [q]); exact .inr (by have := SZ.out.2; omega))
  have HKT := @hideH _ (@KT)
  skip
  go_wp2_with fail
  have hc := qEt _ g l1 w4 T4.rd
  unfold src at hc
  refine hc.mono ?_
  clear hc
  rintro e w5 (⟨b, l2, h2, rfl, hr, k⟩ | ⟨hz, ⟨xz, rfl⟩, kz⟩)
  rotate_left
  · exact ⟨rfl, .inr ⟨pr_b0 H1.out hz, ⟨_, rfl⟩, KT (kept_gR T4.kept kz)⟩⟩
  have T5 := T4.took hr k
  have HB5 := @hideH _ (HB4.out.kept k (by simp; have := SZ.out.1; omega))
  have HF5 := @hideH _ (HBF.out.kept k (by simp; have e1 := SZ.out.1; have e2 := K3.out.size; omega))
  clear HB4 HBF c40 b4 T4 hr k
  have cs := T5.blk.cell (j := 1) rfl
  have fs := T5.blk.free 1
  obtain ⟨w6, hw⟩ : ∃ wx, wx = w5.setCell ⟨R, 1, none⟩ (.int .i64 (b : Int)) := ⟨_, rfl⟩
  have T6 := T5.set 1 (.int .i64 (b : Int)) (int_not8 _)
  have kS := (T5.blk.set 1 (.int .i64 (b : Int))).2
  rw [← hw] at T6 kS
  have HB6 := @hideH _ (HB5.out.kept kS (by simp; have := SZ.out.2; omega))
  have HF6 := @hideH _ (HF5.out.kept kS (by simp; have := GF.out; omega))
  have bx := T6.bx
  clear T5 HB5 HF5 kS
  go_upto_region 6 with fail
  rw [← hw]
  clear hw cs fs
  go_wp2_with fail
  have hc := qEt _ g l2 w6 T6.rd
  unfold src at hc
  refine hc.mono ?_
  clear hc
  rintro e w7 (⟨p, l3, h3, rfl, hr, k⟩ | ⟨hz, ⟨xz, rfl⟩, kz⟩)
  rotate_left
  · exact ⟨rfl, .inr ⟨pr_p0 H1.out h2 hz, ⟨_, rfl⟩, KT (kept_gR T6.kept kz)⟩⟩
  have T7 := T6.took hr k
  have HB7 := @hideH _ (HB6.out.kept k (by simp; have := SZ.out.1; omega))
  have HF7 := @hideH _ (HF6.out.kept k (by simp; have e1 := SZ.out.1; have e2 := K3.out.size; omega))
  clear HB6 HF6 T6 hr k bx
  have cs := T7.blk.cell (j := 2) rfl
  have fs := T7.blk.free 2
  obtain ⟨w8, hw⟩ : ∃ wx, wx = w7.setCell ⟨R, 2, none⟩ (.int .i64 (p : Int)) := ⟨_, rfl⟩
  have T8 := T7.set 2 (.int .i64 (p : Int)) (int_not8 _)
  have kS := (T7.blk.set 2 (.int .i64 (p : Int))).2
  rw [← hw] at T8 kS
  have HB8 := @hideH _ (HB7.out.kept kS (by simp; have := SZ.out.2; omega))
  have HF8 := @hideH _ (HF7.out.kept kS (by simp; have := GF.out; omega))
  have bx := T8.bx
  clear T7 HB7 HF7 kS
  go_upto_region 7 with fail
  rw [← hw]
  clear hw cs fs
  have EQ := @hideH _ (pAll_eq H1.out h2 h3)
  have L3 := @hideH _ (Nat.le_trans (num_len h3) (Nat.le_trans (num_len h2) L1.out))
  clear h2 h3 bx
  have b0v : (0 : Int) ≤ (v : Int) := by omega
  have b8v : (v : Int) < 8 := by omega
  have cF := HF8.out.cell (fnCells_at hv.1 hv.2)
  have cK : w8.cell? ⟨R, 0, none⟩ = some (.int .i64 (v : Int)) := T8.blk.cell (j := 0) rfl
  have bx := T8.bx
  have hFn := fun (wz : World) (kz : Kept [] w8 wz) => qFn w.heap.size g R v b p l3 wz hv.1 hv.2 (T8.rd.kept kz) (T8.blk.kept kz (by simp)) T8.ne (by have e1 := K3.out.size; have e2 := T8.kept.size; have e3 := kz.size; omega) L3.out
  have hCF := fun args w => fnK_call hv.1 hv.2 args w
  generalize fnK v = F at hFn cF hCF
  unfold src at hFn
  have T9 := T8.then (Kept.refl [] w8).drew
  have kd : Kept [] w8 w8.drew := (Kept.refl [] w8).drew
  refine wp_region_late (fun w' => w'.cell? ⟨R, 0, none⟩ = some (.int .i64 (v : Int)) ∧ w'.cell? ⟨w3.heap.size, v, none⟩ = some (.func (.func F) #[] #[]) ∧ w'.cell? ⟨w.heap.size, 0, none⟩ = some (.pointer (some ⟨g, 0, none⟩))) 99 (by kernel_rfl) ?_
  have hS : w8.drew.cell? ⟨R, 0, none⟩ = some (.int .i64 (v : Int)) ∧ w8.drew.cell? ⟨w3.heap.size, v, none⟩ = some (.func (.func F) #[] #[]) ∧ w8.drew.cell? ⟨w.heap.size, 0, none⟩ = some (.pointer (some ⟨g, 0, none⟩)) := ⟨kd.cell cK (by simp), kd.cell cF (by simp), kd.cell bx (by simp)⟩
  refine wpAnyZ_take 0 (v := ?v0) rfl (by kernel_rfl) (by kernel_rfl) (by kernel_rfl) (by kernel_rfl) (fun _ _ _ h => h) (by rfl) ?hy0 hS ?rest0
  case hy0 => (intro wx hSx; obtain ⟨hs1, hs2, hs3⟩ := hSx; go_simp; (try with_reducible rfl))
  (try simp only [Act.put, List.setIfInBounds_toArray, List.set_cons_zero, List.set_cons_succ])
  refine wpAnyZ_take 1 (v := ?v1) rfl (by kernel_rfl) (by kernel_rfl) (by kernel_rfl) (by kernel_rfl) (fun _ _ _ h => h) (by rfl) ?hy1 hS ?rest1
  case hy1 => (intro wx hSx; obtain ⟨hs1, hs2, hs3⟩ := hSx; go_simp; (try with_reducible rfl))
  (try simp only [Act.put, List.setIfInBounds_toArray, List.set_cons_zero, List.set_cons_succ])
  refine wpAnyZ_take 2 (v := ?v2) rfl (by kernel_rfl) (by kernel_rfl) (by kernel_rfl) (by kernel_rfl) (fun _ _ _ h => h) (by rfl) ?hy2 hS ?rest2
  case hy2 => (intro wx hSx; obtain ⟨hs1, hs2, hs3⟩ := hSx; go_simp; (try with_reducible rfl))
  (try simp only [Act.put, List.setIfInBounds_toArray, List.set_cons_zero, List.set_cons_succ])
  refine wpAnyZ_take 3 (v := ?v3) rfl (by kernel_rfl) (by kernel_rfl) (by kernel_rfl) (by kernel_rfl) (fun _ _ _ h => h) (by rfl) ?hy3 hS ?rest3
  case hy3 => (intro wx hSx; obtain ⟨hs1, hs2, hs3⟩ := hSx; go_simp; (try with_reducible rfl))
  (try simp only [Act.put, List.setIfInBounds_toArray, List.set_cons_zero, List.set_cons_succ])
  refine wpAnyZ_take 4 (v := ?v4) rfl (by kernel_rfl) (by kernel_rfl) (by kernel_rfl) (by kernel_rfl) (fun _ _ _ h => h) (by rfl) ?hy4 hS ?rest4
  case hy4 => (intro wx hSx; obtain ⟨hs1, hs2, hs3⟩ := hSx; go_simp; (try with_reducible rfl))
  (try simp only [Act.put, List.setIfInBounds_toArray, List.set_cons_zero, List.set_cons_succ])
  refine wpAnyZ_take 5 (v := ?v5) rfl (by kernel_rfl) (by kernel_rfl) (by kernel_rfl) (by kernel_rfl) (fun _ _ _ h => h) (by rfl) ?hy5 hS ?rest5
  case hy5 => (intro wx hSx; obtain ⟨hs1, hs2, hs3⟩ := hSx; go_simp; (try with_reducible rfl))
  (try simp only [Act.put, List.setIfInBounds_toArray, List.set_cons_zero, List.set_cons_succ])
  refine wpAnyZ_one 6 rfl (by kernel_rfl) (fun K hK => ?_)
  go_simp
  refine (hFn _ kd).mono ?_
  clear hFn hCF
  rintro e w9 (⟨x, r, V, B', hp, rfl, T10, OW⟩ | ⟨hz, ⟨xz, rfl⟩, kz⟩)
  rotate_left
  · exact ⟨rfl, .inr ⟨pr_no (by rw [EQ.out]; exact hz), ⟨_, rfl⟩, KT (T9.kept.trans kz (fun x hx => .inl hx))⟩⟩
  have hS9 : w9.cell? ⟨R, 0, none⟩ = some (.int .i64 (v : Int)) ∧ w9.cell? ⟨w3.heap.size, v, none⟩ = some (.func (.func F) #[] #[]) ∧ w9.cell? ⟨w.heap.size, 0, none⟩ = some (.pointer (some ⟨g, 0, none⟩)) := ⟨by rw [← (pTail_some hp).2.1]; exact T10.blk.cell (j := 0) rfl, T10.kept.cell (kd.cell cF (by simp)) (by simp; have e1 := SZ.out.1; have e2 := K3.out.size; have e3 := GF.out; omega), (T9.box.kept T10.kept (by simp; have e1 := SZ.out; omega)).cell (j := 0) rfl⟩
  dsimp only
  refine hK _ _ (fun _ => hS9) ?_
  clear hK K hS9
  (try simp only [Act.put, List.setIfInBounds_toArray, List.set_cons_zero, List.set_cons_succ])
  refine wpAnyZ_done (by kernel_rfl) ?_ _
  have k9 := T10.kept
  have HB9 := @hideH _ ((HB8.out.kept kd (by simp)).kept k9 (by simp; have e1 := SZ.out; omega))
  have bx9 : w9.cell? ⟨w.heap.size, 0, none⟩ = some (.pointer (some ⟨g, 0, none⟩)) := (T9.box.kept k9 (by simp; have e1 := SZ.out; omega)).cell (j := 0) rfl
  have KE := @hideH _ (show Kept [g] w w9 from KT (T9.kept.trans k9 (fun x hx => .inl hx)))
  have HP := @hideH _ (show pAll l = some (x, r) by rw [EQ.out]; exact hp)
  have HOW := @hideH _ (OW.mono (show w.heap.size ≤ w8.drew.heap.size from Nat.le_trans K3.out.size T8.kept.size))
  have HGE := @hideH _ (fun (y : Nat) (hy : V.vb.ownBlock = some y ∨ V.va.ownBlock = some y ∨ V.vr.ownBlock = some y ∨ V.vd.ownBlock = some y) => (OW.ge hy).1)
  have HLT8 := @hideH _ (show R < w8.drew.heap.size from Nat.lt_of_lt_of_le GF.out T8.kept.size)
  have hE := fun (wz : World) (hz : Rs w.heap.size wz g r) => end_any g r wz hz.rd
  have R10 := T10.rd
  have HBR := @hideH _ T10.blk
  have HSH := @hideH _ OW.see.shapes
  clear hS cF cK bx T8 T9 T10 k9 hp kd OW
  by_cases hr0 : r = []
  rotate_left
  · have hE2 := hE w9 R10
    rw [if_neg (fun e => hr0 (List.eq_nil_of_length_eq_zero e))] at hE2
    have hno := @hideH _ (pr_trail HP.out hr0)
    clear hE R10 hr0
    go_wp2_with fail
    refine hE2.mono ?_
    rintro e w10 ⟨rfl, rfl⟩
    clear hE2
    go_wp2_with fail
    refine (qGive 11 (by decide) _).mono ?_
    rintro e w11 ⟨rfl, rfl⟩
    exact ⟨rfl, .inr ⟨hno.out, ⟨_, rfl⟩, KE.out⟩⟩
  subst hr0
  have hE2 := hE w9 R10
  rw [if_pos (by rfl)] at hE2
  clear hE R10
  go_wp2_with fail
  refine hE2.mono ?_
  rintro e w10 ⟨rfl, rfl⟩
  clear hE2
  go_wp2_with fail
  refine (qGive0 _).mono ?_
  rintro e w11 ⟨rfl, rfl⟩
  obtain ⟨pb, cb, pa, ca, pr, cr, pd, cd, hV⟩ := HSH.out
  subst hV
  clear HSH
  obtain ⟨kind, birth, prev, id, page, frm, before, after, next, rows, dirty⟩ := x
  dsimp only at HOW HBR HGE ⊢
  unfold Rcd.cl at HBR
  dsimp only at HBR
  have r0 := HBR.out.cell (j := 0) rfl
  have r1 := HBR.out.cell (j := 1) rfl
  have r2 := HBR.out.cell (j := 2) rfl
  have r3 := HBR.out.cell (j := 3) rfl
  have r4 := HBR.out.cell (j := 4) rfl
  have r5 := HBR.out.cell (j := 5) rfl
  have r6 := HBR.out.cell (j := 6) rfl
  have r7 := HBR.out.cell (j := 7) rfl
  have r8 := HBR.out.cell (j := 8) rfl
  have r9 := HBR.out.cell (j := 9) rfl
  have r10 := HBR.out.cell (j := 10) rfl
  have a0 := HB9.out.cell (j := 0) rfl
  have a1 := HB9.out.cell (j := 1) rfl
  have a2 := HB9.out.cell (j := 2) rfl
  have a3 := HB9.out.cell (j := 3) rfl
  have a4 := HB9.out.cell (j := 4) rfl
  have a5 := HB9.out.cell (j := 5) rfl
  have a6 := HB9.out.cell (j := 6) rfl
  have a7 := HB9.out.cell (j := 7) rfl
  have a8 := HB9.out.cell (j := 8) rfl
  have a9 := HB9.out.cell (j := 9) rfl
  have a10 := HB9.out.cell (j := 10) rfl
  have f0 := HB9.out.free 0
  have f1 := HB9.out.free 1
  have f2 := HB9.out.free 2
  have f3 := HB9.out.free 3
  have f4 := HB9.out.free 4
  have f5 := HB9.out.free 5
  have f6 := HB9.out.free 6
  have f7 := HB9.out.free 7
  have f8 := HB9.out.free 8
  have f9 := HB9.out.free 9
  have f10 := HB9.out.free 10
  obtain ⟨BF, kF⟩ := HB9.out.fill11 (.int .i64 kind) (.int .i64 birth) (.int .i64 prev) (.int .i64 id) (.int .i64 page) (.int .i64 frm) (.slice pb before.length cb) (.slice pa after.length ca) (.int .i64 next) (.slice pr rows.length cr) (.slice pd dirty.length cd)
  go_wp2
  obtain ⟨wF, hF⟩ : ∃ wF, wF = (((((((((((w11.setCell ⟨w.heap.size + 1, 0, none⟩ (.int .i64 kind)).setCell ⟨w.heap.size + 1, 1, none⟩ (.int .i64 birth)).setCell ⟨w.heap.size + 1, 2, none⟩ (.int .i64 prev)).setCell ⟨w.heap.size + 1, 3, none⟩ (.int .i64 id)).setCell ⟨w.heap.size + 1, 4, none⟩ (.int .i64 page)).setCell ⟨w.heap.size + 1, 5, none⟩ (.int .i64 frm)).setCell ⟨w.heap.size + 1, 6, none⟩ (.slice pb before.length cb)).setCell ⟨w.heap.size + 1, 7, none⟩ (.slice pa after.length ca)).setCell ⟨w.heap.size + 1, 8, none⟩ (.int .i64 next)).setCell ⟨w.heap.size + 1, 9, none⟩ (.slice pr rows.length cr)).setCell ⟨w.heap.size + 1, 10, none⟩ (.slice pd dirty.length cd)) := ⟨_, rfl⟩
  rw [← hF]
  rw [← hF] at BF kF
  clear hF
  have q0 := BF.cell (j := 0) rfl
  have q1 := BF.cell (j := 1) rfl
  have q2 := BF.cell (j := 2) rfl
  have q3 := BF.cell (j := 3) rfl
  have q4 := BF.cell (j := 4) rfl
  have q5 := BF.cell (j := 5) rfl
  have q6 := BF.cell (j := 6) rfl
  have q7 := BF.cell (j := 7) rfl
  have q8 := BF.cell (j := 8) rfl
  have q9 := BF.cell (j := 9) rfl
  have q10 := BF.cell (j := 10) rfl
  have OWF := @hideH _ (HOW.out.kept kF (fun y hy hm => by simp at hm; have e1 := HGE.out y hy; have e2 := HLT8.out; have e3 := SZ.out.2; omega))
  have KF := @hideH _ (KE.out.trans kF (fun x hx => .inr (by simp at hx; omega)))
  clear BF kF r0 a0 f0 r1 a1 f1 r2 a2 f2 r3 a3 f3 r4 a4 f4 r5 a5 f5 r6 a6 f6 r7 a7 f7 r8 a8 f8 r9 a9 f9 r10 a10 f10
  refine bodyPost_ret (by simp [results, Try.results33, go_sem, q0, q1, q2, q3, q4, q5, q6, q7, q8, q9, q10]; try rfl) rfl ?_
  exact .inl ⟨_, _, HP.out, rfl, OWF.out, KF.out⟩
end Go.Proofs.Ytebcmcmboomgfaa

/-
  OWN WORK (by mklw6.py). The document: Copied.
-/
namespace Go.Proofs.Ytebcmcmboomgfaa
open Go.RowKit
set_option linter.unusedVariables false
set_option linter.unusedSimpArgs false

def CopyCap (r : Rcd) : Prop := r.before.length ≤ 140737488355328 ∧ r.after.length ≤ 140737488355328 ∧ r.rows.length * 40 ≤ 140737488355328 ∧ r.dirty.length * 16 ≤ 140737488355328
set_option maxRecDepth 20000 in
set_option maxHeartbeats 6400000 in
theorem copied_any (Va : RV) (xa : Rcd) (w : World) (sa : SeeR w Va xa) (hcap : CopyCap xa) : Calls Try.prog 21 #[xa.agg Va] w fun e w' => ∃ V, e = .returned (xa.agg V) ∧ OwnR w.heap.size w' V xa ∧ Kept [] w w' := by
  obtain ⟨pba, cba, paa, caa, pra, cra, pda, cda, hVa⟩ := sa.shapes
  subst hVa
  have HSA := @hideH _ sa
  have HCAP := @hideH _ hcap
  clear sa hcap
  unfold Rcd.agg
  dsimp only
  obtain ⟨inf, hin1, hin2, hin3, hin4⟩ := info_parts3 (show (Try.prog.info? 66).map (fun i => (i.zero, i.size, i.bytes)) = some (some (.agg #[.int .i64 0, .int .i64 0, .int .i64 0, .int .i64 0, .int .i64 0]), 5, 40) by kernel_rfl)
  have HI := @hideH _ (And.intro hin1 (And.intro hin2 (And.intro hin3 hin4)))
  obtain ⟨inf2, hjn1, hjn2, hjn3, hjn4⟩ := info_parts3 (show (Try.prog.info? 68).map (fun i => (i.zero, i.size, i.bytes)) = some (some (.agg #[.int .i64 0, .int .i64 0]), 2, 16) by kernel_rfl)
  have HI2 := @hideH _ (And.intro hjn1 (And.intro hjn2 (And.intro hjn3 hjn4)))
  clear hin1 hin2 hin3 hin4 hjn1 hjn2 hjn3 hjn4
  obtain ⟨wa, hwa⟩ : ∃ wa, wa = ((w.alloc (.cells #[.int .i64 xa.kind, .int .i64 xa.birth, .int .i64 xa.prev, .int .i64 xa.id, .int .i64 xa.page, .int .i64 xa.frm, .slice pba xa.before.length cba, .slice paa xa.after.length caa, .int .i64 xa.next, .slice pra xa.rows.length cra, .slice pda xa.dirty.length cda] 26)).alloc (.cells #[.int .i64 0, .int .i64 0, .int .i64 0, .int .i64 0, .int .i64 0, .int .i64 0, .slice none 0 0, .slice none 0 0, .int .i64 0, .slice none 0 0, .slice none 0 0] 26)).alloc (.cells #[.int .i64 xa.kind, .int .i64 xa.birth, .int .i64 xa.prev, .int .i64 xa.id, .int .i64 xa.page, .int .i64 xa.frm, .slice none 0 0, .slice none 0 0, .int .i64 xa.next, .slice none 0 0, .slice none 0 0] 26) := ⟨_, rfl⟩
  have KA : Kept [] w wa := by rw [hwa]; exact (((Kept.refl [] w).alloc _).alloc _).alloc _
  have Ba : Blk wa w.heap.size 26 [.int .i64 xa.kind, .int .i64 xa.birth, .int .i64 xa.prev, .int .i64 xa.id, .int .i64 xa.page, .int .i64 xa.frm, .slice pba xa.before.length cba, .slice paa xa.after.length caa, .int .i64 xa.next, .slice pra xa.rows.length cra, .slice pda xa.dirty.length cda] := by rw [hwa]; exact (Blk.new w _ _).kept (((Kept.refl [] _).alloc _).alloc _) (by simp)
  have BO : Blk wa (w.heap.size + 1) 26 [.int .i64 0, .int .i64 0, .int .i64 0, .int .i64 0, .int .i64 0, .int .i64 0, .slice none 0 0, .slice none 0 0, .int .i64 0, .slice none 0 0, .slice none 0 0] := by rw [hwa]; have q := Blk.new (w.alloc (.cells #[.int .i64 xa.kind, .int .i64 xa.birth, .int .i64 xa.prev, .int .i64 xa.id, .int .i64 xa.page, .int .i64 xa.frm, .slice pba xa.before.length cba, .slice paa xa.after.length caa, .int .i64 xa.next, .slice pra xa.rows.length cra, .slice pda xa.dirty.length cda] 26)) 26 [.int .i64 0, .int .i64 0, .int .i64 0, .int .i64 0, .int .i64 0, .int .i64 0, .slice none 0 0, .slice none 0 0, .int .i64 0, .slice none 0 0, .slice none 0 0]; rw [World.size_alloc] at q; exact q.kept ((Kept.refl [] _).alloc _) (by simp)
  have BC : Blk wa (w.heap.size + 2) 26 [.int .i64 xa.kind, .int .i64 xa.birth, .int .i64 xa.prev, .int .i64 xa.id, .int .i64 xa.page, .int .i64 xa.frm, .slice none 0 0, .slice none 0 0, .int .i64 xa.next, .slice none 0 0, .slice none 0 0] := by rw [hwa]; have q := Blk.new ((w.alloc (.cells #[.int .i64 xa.kind, .int .i64 xa.birth, .int .i64 xa.prev, .int .i64 xa.id, .int .i64 xa.page, .int .i64 xa.frm, .slice pba xa.before.length cba, .slice paa xa.after.length caa, .int .i64 xa.next, .slice pra xa.rows.length cra, .slice pda xa.dirty.length cda] 26)).alloc (.cells #[.int .i64 0, .int .i64 0, .int .i64 0, .int .i64 0, .int .i64 0, .int .i64 0, .slice none 0 0, .slice none 0 0, .int .i64 0, .slice none 0 0, .slice none 0 0] 26)) 26 [.int .i64 xa.kind, .int .i64 xa.birth, .int .i64 xa.prev, .int .i64 xa.id, .int .i64 xa.page, .int .i64 xa.frm, .slice none 0 0, .slice none 0 0, .int .i64 xa.next, .slice none 0 0, .slice none 0 0]; rw [World.size_alloc, World.size_alloc] at q; exact q
  have sC : w.heap.size + 2 < wa.heap.size := BC.lt
  go_enter Try.func21, Try.ntmps21
  go_upto_region 6 with fail
  rw [← hwa]
  clear hwa
  have K0 : Kept [] wa wa := Kept.refl _ _
  have cb := Ba.cell (j := 6) rfl
  have cc : wa.cell? ⟨w.heap.size + 2, 6, none⟩ = some (.slice none 0 0) := BC.cell (j := 6) rfl
  have hs := HSA.out.before.kept KA
  go_upto_region 7 with (at_builtin; refine wpList_append_bs rfl (.tmp 10) (.tmp 12) 22 rfl wa.heap.size 5 Try.underlying22 (by kernel_rfl) _ _ _ (by rfl) (own_nil wa wa.heap.size) _ xa.before (by rfl) hs (by have := HCAP.out; unfold CopyCap at this; omega) (Nat.le_refl _) ?_; intro v1 y1 o1 g1 at1; have ky1 : Kept [] wa y1 := (Kept.refl [] wa).grown g1 (fun y hy => by cases hy); rw [Nat.zero_add, show u8s [] ++ u8s xa.before = u8s xa.before from rfl] at o1; obtain ⟨p1, q1, hv1⟩ := own_shape2 o1; subst hv1; have bc1 := BC.kept ky1 (by simp); have cw := bc1.cell (j := 6) rfl; have fw := bc1.free 6; obtain ⟨x1, hx1⟩ : ∃ wx, wx = y1.setCell ⟨w.heap.size + 2, 6, none⟩ (.slice p1 xa.before.length q1) := ⟨_, rfl⟩)
  rw [← hx1]
  obtain ⟨bs1, ks1⟩ := bc1.set 6 (.slice p1 xa.before.length q1)
  rw [← hx1] at bs1 ks1
  dsimp only [List.set] at bs1
  have lt1 := fun y hy => own_lt o1 y hy
  have sy1 := ky1.size
  have sx1 := ks1.size
  have nC1 : ∀ y, wa.heap.size ≤ y → y ∉ [w.heap.size + 2] := fun y hy hm => by simp at hm; have e1 := Nat.le_refl wa.heap.size; omega
  have f1 := own_of_kept o1 ks1 (fun y hy => nC1 y (own_ge o1 y hy))
  have Ba1 := (Ba.kept ky1 (by simp)).kept ks1 (by simp)
  have BO1 := (BO.kept ky1 (by simp)).kept ks1 (by simp)
  have KK1 := (KA.then ky1).trans ks1 (fun y hy => .inr (by simp at hy; omega))
  have szz1 : wa.heap.size ≤ x1.heap.size := by have e1 := Nat.le_refl wa.heap.size; omega
  have ge1 := fun y hy => own_ge o1 y hy
  clear hx1 cw fw cb cc hs bc1 ky1 ks1 g1 at1 o1
  have cb := Ba1.cell (j := 7) rfl
  have cc : x1.cell? ⟨w.heap.size + 2, 7, none⟩ = some (.slice none 0 0) := bs1.cell (j := 7) rfl
  have hs := HSA.out.after.kept KK1
  go_upto_region 8 with (at_builtin; refine wpList_append_bs rfl (.tmp 16) (.tmp 18) 22 rfl x1.heap.size 5 Try.underlying22 (by kernel_rfl) _ _ _ (by rfl) (own_nil x1 x1.heap.size) _ xa.after (by rfl) hs (by have := HCAP.out; unfold CopyCap at this; omega) (Nat.le_refl _) ?_; intro v2 y2 o2 g2 at2; have ky2 : Kept [] x1 y2 := (Kept.refl [] x1).grown g2 (fun y hy => by cases hy); rw [Nat.zero_add, show u8s [] ++ u8s xa.after = u8s xa.after from rfl] at o2; obtain ⟨p2, q2, hv2⟩ := own_shape2 o2; subst hv2; have bc2 := bs1.kept ky2 (by simp); have cw := bc2.cell (j := 7) rfl; have fw := bc2.free 7; obtain ⟨x2, hx2⟩ : ∃ wx, wx = y2.setCell ⟨w.heap.size + 2, 7, none⟩ (.slice p2 xa.after.length q2) := ⟨_, rfl⟩)
  rw [← hx2]
  obtain ⟨bs2, ks2⟩ := bc2.set 7 (.slice p2 xa.after.length q2)
  rw [← hx2] at bs2 ks2
  dsimp only [List.set] at bs2
  have lt2 := fun y hy => own_lt o2 y hy
  have sy2 := ky2.size
  have sx2 := ks2.size
  have nC2 : ∀ y, x1.heap.size ≤ y → y ∉ [w.heap.size + 2] := fun y hy hm => by simp at hm; have e1 := szz1; omega
  have f2 := own_of_kept o2 ks2 (fun y hy => nC2 y (own_ge o2 y hy))
  have Ba2 := (Ba1.kept ky2 (by simp)).kept ks2 (by simp)
  have BO2 := (BO1.kept ky2 (by simp)).kept ks2 (by simp)
  have KK2 := (KK1.then ky2).trans ks2 (fun y hy => .inr (by simp at hy; omega))
  have szz2 : wa.heap.size ≤ x2.heap.size := by have e1 := szz1; omega
  replace f1 := own_of_kept (own_of_kept f1 ky2 (by simp)) ks2 (fun y hy => nC1 y (own_ge f1 y hy))
  have ge2 := fun y hy => own_ge o2 y hy
  clear hx2 cw fw cb cc hs bc2 ky2 ks2 g2 at2 o2
  have cb := Ba2.cell (j := 9) rfl
  have cc : x2.cell? ⟨w.heap.size + 2, 9, none⟩ = some (.slice none 0 0) := bs2.cell (j := 9) rfl
  have hs := Src.ofCs (P := Try.prog) Try.underlying23 (HSA.out.rows.kept KK2)
  go_upto_region 9 with (at_builtin; refine wpList_append_row rfl (.tmp 22) (.tmp 24) 23 rfl x2.heap.size 66 inf (.agg #[.int .i64 0, .int .i64 0, .int .i64 0, .int .i64 0, .int .i64 0]) 5 40 Try.underlying23 HI.out.1 HI.out.2.1 HI.out.2.2.1 HI.out.2.2.2 rfl _ 0 [] (by rfl) (Row.nil x2 x2.heap.size 5) _ xa.rows.length (rcells xa.rows) (by rfl) hs (by have := HCAP.out; unfold CopyCap at this; omega) (by have := HCAP.out; unfold CopyCap at this; unfold maxLen; omega) (by have := HCAP.out; unfold CopyCap at this; omega) (Nat.le_refl _) ?_; intro v3 y3 o3 g3 at3; have ky3 : Kept [] x2 y3 := g3; rw [Nat.zero_add, List.nil_append] at o3; obtain ⟨p3, q3, hv3, -⟩ := o3.shape; subst hv3; have bc3 := bs2.kept ky3 (by simp); have cw := bc3.cell (j := 9) rfl; have fw := bc3.free 9; obtain ⟨x3, hx3⟩ : ∃ wx, wx = y3.setCell ⟨w.heap.size + 2, 9, none⟩ (.slice p3 xa.rows.length q3) := ⟨_, rfl⟩)
  rw [← hx3]
  obtain ⟨bs3, ks3⟩ := bc3.set 9 (.slice p3 xa.rows.length q3)
  rw [← hx3] at bs3 ks3
  dsimp only [List.set] at bs3
  have lt3 := fun y hy => (o3.lt y hy).2
  have sy3 := ky3.size
  have sx3 := ks3.size
  have nC3 : ∀ y, x2.heap.size ≤ y → y ∉ [w.heap.size + 2] := fun y hy hm => by simp at hm; have e1 := szz2; omega
  have f3 := o3.kept ks3 (fun y hy => nC3 y (o3.lt y hy).1)
  have Ba3 := (Ba2.kept ky3 (by simp)).kept ks3 (by simp)
  have BO3 := (BO2.kept ky3 (by simp)).kept ks3 (by simp)
  have KK3 := (KK2.then ky3).trans ks3 (fun y hy => .inr (by simp at hy; omega))
  have szz3 : wa.heap.size ≤ x3.heap.size := by have e1 := szz2; omega
  replace f1 := own_of_kept (own_of_kept f1 ky3 (by simp)) ks3 (fun y hy => nC1 y (own_ge f1 y hy))
  replace f2 := own_of_kept (own_of_kept f2 ky3 (by simp)) ks3 (fun y hy => nC2 y (own_ge f2 y hy))
  have ge3 := fun y hy => (o3.lt y hy).1
  clear hx3 cw fw cb cc hs bc3 ky3 ks3 g3 at3 o3
  have cb := Ba3.cell (j := 10) rfl
  have cc : x3.cell? ⟨w.heap.size + 2, 10, none⟩ = some (.slice none 0 0) := bs3.cell (j := 10) rfl
  have hs := Src.ofCs (P := Try.prog) Try.underlying24 (HSA.out.dirty.kept KK3)
  go_upto_region 10 with (at_builtin; refine wpList_append_row rfl (.tmp 28) (.tmp 30) 24 rfl x3.heap.size 68 inf2 (.agg #[.int .i64 0, .int .i64 0]) 2 16 Try.underlying24 HI2.out.1 HI2.out.2.1 HI2.out.2.2.1 HI2.out.2.2.2 rfl _ 0 [] (by rfl) (Row.nil x3 x3.heap.size 2) _ xa.dirty.length (dcells xa.dirty) (by rfl) hs (by have := HCAP.out; unfold CopyCap at this; omega) (by have := HCAP.out; unfold CopyCap at this; unfold maxLen; omega) (by have := HCAP.out; unfold CopyCap at this; omega) (Nat.le_refl _) ?_; intro v4 y4 o4 g4 at4; have ky4 : Kept [] x3 y4 := g4; rw [Nat.zero_add, List.nil_append] at o4; obtain ⟨p4, q4, hv4, -⟩ := o4.shape; subst hv4; have bc4 := bs3.kept ky4 (by simp); have cw := bc4.cell (j := 10) rfl; have fw := bc4.free 10; obtain ⟨x4, hx4⟩ : ∃ wx, wx = y4.setCell ⟨w.heap.size + 2, 10, none⟩ (.slice p4 xa.dirty.length q4) := ⟨_, rfl⟩)
  rw [← hx4]
  obtain ⟨bs4, ks4⟩ := bc4.set 10 (.slice p4 xa.dirty.length q4)
  rw [← hx4] at bs4 ks4
  dsimp only [List.set] at bs4
  have lt4 := fun y hy => (o4.lt y hy).2
  have sy4 := ky4.size
  have sx4 := ks4.size
  have nC4 : ∀ y, x3.heap.size ≤ y → y ∉ [w.heap.size + 2] := fun y hy hm => by simp at hm; have e1 := szz3; omega
  have f4 := o4.kept ks4 (fun y hy => nC4 y (o4.lt y hy).1)
  have Ba4 := (Ba3.kept ky4 (by simp)).kept ks4 (by simp)
  have BO4 := (BO3.kept ky4 (by simp)).kept ks4 (by simp)
  have KK4 := (KK3.then ky4).trans ks4 (fun y hy => .inr (by simp at hy; omega))
  have szz4 : wa.heap.size ≤ x4.heap.size := by have e1 := szz3; omega
  replace f1 := own_of_kept (own_of_kept f1 ky4 (by simp)) ks4 (fun y hy => nC1 y (own_ge f1 y hy))
  replace f2 := own_of_kept (own_of_kept f2 ky4 (by simp)) ks4 (fun y hy => nC2 y (own_ge f2 y hy))
  replace f3 := (f3.kept ky4 (by simp)).kept ks4 (fun y hy => nC3 y (f3.lt y hy).1)
  have ge4 := fun y hy => (o4.lt y hy).1
  clear hx4 cw fw cb cc hs bc4 ky4 ks4 g4 at4 o4
  have z0 := bs4.cell (j := 0) rfl
  have z1 := bs4.cell (j := 1) rfl
  have z2 := bs4.cell (j := 2) rfl
  have z3 := bs4.cell (j := 3) rfl
  have z4 := bs4.cell (j := 4) rfl
  have z5 := bs4.cell (j := 5) rfl
  have z6 := bs4.cell (j := 6) rfl
  have z7 := bs4.cell (j := 7) rfl
  have z8 := bs4.cell (j := 8) rfl
  have z9 := bs4.cell (j := 9) rfl
  have z10 := bs4.cell (j := 10) rfl
  have a0 := BO4.cell (j := 0) rfl
  have a1 := BO4.cell (j := 1) rfl
  have a2 := BO4.cell (j := 2) rfl
  have a3 := BO4.cell (j := 3) rfl
  have a4 := BO4.cell (j := 4) rfl
  have a5 := BO4.cell (j := 5) rfl
  have a6 := BO4.cell (j := 6) rfl
  have a7 := BO4.cell (j := 7) rfl
  have a8 := BO4.cell (j := 8) rfl
  have a9 := BO4.cell (j := 9) rfl
  have a10 := BO4.cell (j := 10) rfl
  have t0 := BO4.free 0
  have t1 := BO4.free 1
  have t2 := BO4.free 2
  have t3 := BO4.free 3
  have t4 := BO4.free 4
  have t5 := BO4.free 5
  have t6 := BO4.free 6
  have t7 := BO4.free 7
  have t8 := BO4.free 8
  have t9 := BO4.free 9
  have t10 := BO4.free 10
  obtain ⟨bO, kO⟩ := BO4.fill11 (.int .i64 xa.kind) (.int .i64 xa.birth) (.int .i64 xa.prev) (.int .i64 xa.id) (.int .i64 xa.page) (.int .i64 xa.frm) (.slice p1 xa.before.length q1) (.slice p2 xa.after.length q2) (.int .i64 xa.next) (.slice p3 xa.rows.length q3) (.slice p4 xa.dirty.length q4)
  obtain ⟨xF, hxF⟩ : ∃ wx, wx = (((((((((((x4.setCell ⟨w.heap.size + 1, 0, none⟩ (.int .i64 xa.kind)).setCell ⟨w.heap.size + 1, 1, none⟩ (.int .i64 xa.birth)).setCell ⟨w.heap.size + 1, 2, none⟩ (.int .i64 xa.prev)).setCell ⟨w.heap.size + 1, 3, none⟩ (.int .i64 xa.id)).setCell ⟨w.heap.size + 1, 4, none⟩ (.int .i64 xa.page)).setCell ⟨w.heap.size + 1, 5, none⟩ (.int .i64 xa.frm)).setCell ⟨w.heap.size + 1, 6, none⟩ (.slice p1 xa.before.length q1)).setCell ⟨w.heap.size + 1, 7, none⟩ (.slice p2 xa.after.length q2)).setCell ⟨w.heap.size + 1, 8, none⟩ (.int .i64 xa.next)).setCell ⟨w.heap.size + 1, 9, none⟩ (.slice p3 xa.rows.length q3)).setCell ⟨w.heap.size + 1, 10, none⟩ (.slice p4 xa.dirty.length q4)) := ⟨_, rfl⟩
  rw [← hxF] at bO kO
  have nA : ∀ y, wa.heap.size ≤ y → y ∉ [w.heap.size + 1] := fun y hy hm => by simp at hm; omega
  have FIN := @hideH _ (And.intro (show OwnR w.heap.size xF ⟨.slice p1 xa.before.length q1, .slice p2 xa.after.length q2, .slice p3 xa.rows.length q3, .slice p4 xa.dirty.length q4⟩ xa from ⟨own_mono (own_of_kept f1 kO (fun y hy => nA y (ge1 y hy))) KA.size, own_mono (own_of_kept f2 kO (fun y hy => nA y (Nat.le_trans szz1 (ge2 y hy)))) (Nat.le_trans KA.size szz1), (f3.kept kO (fun y hy => nA y (Nat.le_trans szz2 (ge3 y hy)))).mono (Nat.le_trans KA.size szz2), (f4.kept kO (fun y hy => nA y (Nat.le_trans szz3 (ge4 y hy)))).mono (Nat.le_trans KA.size szz3), fun y h1 h2 => by have e1 := lt1 y h1; have e2 := ge2 y h2; omega, fun y h1 h2 => by have e1 := lt1 y h1; have e2 := ge3 y h2; omega, fun y h1 h2 => by have e1 := lt1 y h1; have e2 := ge4 y h2; omega, fun y h1 h2 => by have e1 := lt2 y h1; have e2 := ge3 y h2; omega, fun y h1 h2 => by have e1 := lt2 y h1; have e2 := ge4 y h2; omega, fun y h1 h2 => by have e1 := lt3 y h1; have e2 := ge4 y h2; omega⟩) (show Kept [] w xF from KK4.trans kO (fun y hy => .inr (by simp at hy; omega))))
  clear f1 f2 f3 f4 lt1 lt2 lt3 lt4 ge1 ge2 ge3 ge4 kO nA bs4 BO4 Ba1 KK1 nC1 Ba2 KK2 nC2 Ba3 KK3 nC3 Ba4 KK4 nC4
  go_wp2
  rw [← hxF]
  clear hxF z0 a0 t0 z1 a1 t1 z2 a2 t2 z3 a3 t3 z4 a4 t4 z5 a5 t5 z6 a6 t6 z7 a7 t7 z8 a8 t8 z9 a9 t9 z10 a10 t10
  have q0' := bO.cell (j := 0) rfl
  have q1' := bO.cell (j := 1) rfl
  have q2' := bO.cell (j := 2) rfl
  have q3' := bO.cell (j := 3) rfl
  have q4' := bO.cell (j := 4) rfl
  have q5' := bO.cell (j := 5) rfl
  have q6' := bO.cell (j := 6) rfl
  have q7' := bO.cell (j := 7) rfl
  have q8' := bO.cell (j := 8) rfl
  have q9' := bO.cell (j := 9) rfl
  have q10' := bO.cell (j := 10) rfl
  clear bO
  refine bodyPost_ret (by simp [results, Try.results21, go_sem, q0', q1', q2', q3', q4', q5', q6', q7', q8', q9', q10']; try rfl) rfl ?_
  exact ⟨_, rfl, FIN.out⟩
end Go.Proofs.Ytebcmcmboomgfaa

/-
  OWN WORK. The law's spoilt: what stands in memory.
-/
namespace Go.Proofs.Ytebcmcmboomgfaa
open Go.RowKit
set_option linter.unusedVariables false
set_option linter.unusedSimpArgs false

def hasB (V : RV) (y : Nat) : Prop := V.vb.ownBlock = some y ∨ V.va.ownBlock = some y ∨ V.vr.ownBlock = some y ∨ V.vd.ownBlock = some y
theorem Bs.keptS {w w' : World} {v : Value} {l : List UInt8} {S : List Nat} (h : Bs w v l) (k : Kept S w w') (hS : ∀ x, v.ownBlock = some x → x ∉ S) : Bs w' v l := h.carry fun a x hx hb => k.cell hx (hS _ hb)
theorem Cs.keptS {w w' : World} {sz n : Nat} {v : Value} {cs : List Value} {S : List Nat} (h : Cs w sz v n cs) (k : Kept S w w') (hS : ∀ x, v.ownBlock = some x → x ∉ S) : Cs w' sz v n cs := by
  obtain ⟨h1, h2, p, c, rfl, h3, h4, h5, h6⟩ := h
  refine ⟨h1, h2, p, c, rfl, h3, h4, h5, fun a ha j u hu => k.cell (h6 a ha j u hu) ?_⟩
  rw [add_block]
  exact hS _ (by subst ha; rfl)
theorem SeeR.keptS {w w' : World} {V : RV} {r : Rcd} {S : List Nat} (h : SeeR w V r) (k : Kept S w w') (hS : ∀ y, hasB V y → y ∉ S) : SeeR w' V r :=
  ⟨h.before.keptS k fun x hx => hS x (.inl hx), h.after.keptS k fun x hx => hS x (.inr (.inl hx)), h.rows.keptS k fun x hx => hS x (.inr (.inr (.inl hx))), h.dirty.keptS k fun x hx => hS x (.inr (.inr (.inr hx)))⟩
def pcells : List (RV × Rcd) → List Value
  | [] => []
  | p :: r => p.2.cl p.1 ++ pcells r
theorem pcells_append (a b : List (RV × Rcd)) : pcells (a ++ b) = pcells a ++ pcells b := by
  induction a with
  | nil => rfl
  | cons x r ih => simp [pcells, ih]
theorem cl_length (r : Rcd) (V : RV) : (r.cl V).length = 11 := rfl
theorem pcells_at : ∀ {xs : List (RV × Rcd)} {i : Nat} {p : RV × Rcd}, xs[i]? = some p → ∀ (j : Nat) u, (p.2.cl p.1)[j]? = some u → (pcells xs)[i * 11 + j]? = some u
  | [], i, p, h, j, u, hu => by simp at h
  | y :: r, 0, p, h, j, u, hu => by
    simp at h
    subst h
    have hj := (List.getElem?_eq_some_iff.1 hu).1
    simp only [pcells, Nat.zero_mul, Nat.zero_add]
    rw [List.getElem?_append_left hj]
    exact hu
  | y :: r, i + 1, p, h, j, u, hu => by
    have q := pcells_at (xs := r) (i := i) (p := p) (by simpa using h) j u hu
    simp only [pcells]
    rw [List.getElem?_append_right (by rw [cl_length]; omega), cl_length, show (i + 1) * 11 + j - 11 = i * 11 + j by omega]
    exact q
theorem cl_one {w : World} {V : RV} {r : Rcd} (h : SeeR w V r) : ∀ u ∈ r.cl V, u.oneCell' = true := by
  obtain ⟨pb, cb, pa, ca, pr, cr, pd, cd, rfl⟩ := h.shapes
  intro u hu
  simp only [Rcd.cl, List.mem_cons, List.not_mem_nil, or_false] at hu
  rcases hu with rfl | rfl | rfl | rfl | rfl | rfl | rfl | rfl | rfl | rfl | rfl <;> rfl
/-- the variable x (block X), the list v of the records xs so far -/
structure Spo (w0 w : World) (X : Nat) (x : Rcd) (Vx : RV) (v : Value) (N : Nat) (xs : List (RV × Rcd)) : Prop where
  blk : Blk w X 26 (x.cl Vx)
  see : SeeR w Vx x
  len : xs.length = N
  row : Row w w0.heap.size 11 v N (pcells xs)
  all : ∀ p ∈ xs, SeeR w p.1 p.2 ∧ ¬ p.2.Right
  sep : ∀ p ∈ xs, ∀ y, hasB p.1 y → y ≠ X ∧ v.ownBlock ≠ some y ∧ y < w.heap.size
  sepx : ∀ y, hasB Vx y → y ≠ X ∧ v.ownBlock ≠ some y ∧ y < w.heap.size
  sepv : v.ownBlock ≠ some X
  kept : Kept [] w0 w
  lo : w0.heap.size ≤ X
theorem Spo.set {w0 w : World} {X N : Nat} {x : Rcd} {Vx : RV} {v : Value} {xs : List (RV × Rcd)} (h : Spo w0 w X x Vx v N xs) (j : Nat) (z : Int) (x' : Rcd) (hcl : x'.cl Vx = (x.cl Vx).set j (.int .i64 z)) (hl : x'.before = x.before ∧ x'.after = x.after ∧ x'.rows = x.rows ∧ x'.dirty = x.dirty) : Spo w0 (w.setCell ⟨X, j, none⟩ (.int .i64 z)) X x' Vx v N xs := by
  obtain ⟨b, k⟩ := h.blk.set j (.int .i64 z)
  have s := h.see.keptS k fun y hy hm => (h.sepx y hy).1 (by simpa using hm)
  refine ⟨by rw [hcl]; exact b, ⟨by rw [hl.1]; exact s.before, by rw [hl.2.1]; exact s.after, by rw [hl.2.2.1]; exact s.rows, by rw [hl.2.2.2]; exact s.dirty⟩, h.len, h.row.kept k fun y hy hm => h.sepv (by simp at hm; rw [← hm]; exact hy), fun p hp => ⟨(h.all p hp).1.keptS k fun y hy hm => (h.sep p hp y hy).1 (by simpa using hm), (h.all p hp).2⟩, fun p hp y hy => ?_, fun y hy => ?_, h.sepv, h.kept.trans k fun y hy => .inr (by simp at hy; rw [hy]; exact h.lo), h.lo⟩
  · exact ⟨(h.sep p hp y hy).1, (h.sep p hp y hy).2.1, Nat.lt_of_lt_of_le (h.sep p hp y hy).2.2 k.size⟩
  · exact ⟨(h.sepx y hy).1, (h.sepx y hy).2.1, Nat.lt_of_lt_of_le (h.sepx y hy).2.2 k.size⟩
theorem Spo.push {w0 w wq w' : World} {X N M : Nat} {x : Rcd} {Vx : RV} {v v' : Value} {xs : List (RV × Rcd)} (h : Spo w0 w X x Vx v N xs) (hbad : ¬ x.Right) (hM : N + 1 = M) (kq : Kept [] w wq) (r' : Row w' w0.heap.size 11 v' (N + 1) (pcells xs ++ x.cl Vx)) (k' : Kept v.ownBlock.toList wq w') (a' : v'.ownBlock = v.ownBlock ∨ v'.ownBlock = some wq.heap.size) :
    ∃ p' c' ys, v' = .slice p' M c' ∧ Spo w0 w' X x Vx (.slice p' M c') M ys := by
  subst hM
  obtain ⟨p', c', rfl, -⟩ := r'.shape
  have hs := kq.size
  have hs' := k'.size
  have sepT : ∀ y, y ≠ X ∧ v.ownBlock ≠ some y ∧ y < w.heap.size → y ≠ X ∧ (Value.slice p' (N + 1) c').ownBlock ≠ some y ∧ y < w'.heap.size := fun y ⟨q1, q2, q3⟩ => ⟨q1, fun e => (by rcases a' with a | a; exact q2 (a ▸ e); rw [a] at e; cases e; omega), by omega⟩
  refine ⟨p', c', xs ++ [(Vx, x)], rfl, (h.blk.kept kq (by simp)).kept k' fun hm => h.sepv (by simpa using hm), (h.see.kept kq).keptS k' fun y hy hm => (h.sepx y hy).2.1 (by simpa using hm), by simp [h.len], ?_, fun p hp => ?_, fun p hp y hy => ?_, fun y hy => sepT y (h.sepx y hy), ?_, (h.kept.then kq).trans k' fun y hy => .inr (h.row.lt y (by simpa using hy)).1, h.lo⟩
  · rw [pcells_append]
    simp only [pcells, List.append_nil]
    exact r'
  · rcases List.mem_append.1 hp with q | q
    · exact ⟨((h.all p q).1.kept kq).keptS k' fun y hy hm => (h.sep p q y hy).2.1 (by simpa using hm), (h.all p q).2⟩
    · simp at q
      subst q
      exact ⟨(h.see.kept kq).keptS k' fun y hy hm => (h.sepx y hy).2.1 (by simpa using hm), hbad⟩
  · rcases List.mem_append.1 hp with q | q
    · exact sepT y (h.sep p q y hy)
    · simp at q
      subst q
      exact sepT y (h.sepx y hy)
  · intro e
    rcases a' with a | a
    · exact h.sepv (a ▸ e)
    · rw [a] at e
      have := h.blk.lt
      cases e
      omega
/-- x's lists are newer than all else -/
structure Frs (b : Nat) (X : Nat) (Vx : RV) (v : Value) (xs : List (RV × Rcd)) : Prop where
  own : ∀ y, hasB Vx y → b ≤ y
  old : ∀ p ∈ xs, ∀ y, hasB p.1 y → y < b
  row : ∀ y, v.ownBlock = some y → y < b
  blk : X < b
theorem Spo.copy {w0 w wq w2 : World} {X N : Nat} {x r : Rcd} {Vx V : RV} {v : Value} {xs : List (RV × Rcd)} (h : Spo w0 w X x Vx v N xs) (kq : Kept [] w wq) (hO : OwnR w.heap.size wq V r) (b2 : Blk w2 X 26 (r.cl V)) (k2 : Kept [X] wq w2) : Spo w0 w2 X r V v N xs ∧ OwnR w.heap.size w2 V r ∧ Frs w.heap.size X V v xs := by
  have hX := h.blk.lt
  have hs := kq.size
  have hs2 := k2.size
  have geV : ∀ y, hasB V y → w.heap.size ≤ y ∧ y < wq.heap.size := fun y hy => hO.ge hy
  have hO2 := hO.kept k2 fun y hy hm => by simp at hm; have := (hO.ge hy).1; omega
  refine ⟨⟨b2, hO2.see, h.len, (h.row.kept kq (by simp)).kept k2 fun y hy hm => h.sepv (by simp at hm; rw [← hm]; exact hy), fun p hp => ⟨((h.all p hp).1.kept kq).keptS k2 fun y hy hm => (h.sep p hp y hy).1 (by simpa using hm), (h.all p hp).2⟩, fun p hp y hy => ⟨(h.sep p hp y hy).1, (h.sep p hp y hy).2.1, by have := (h.sep p hp y hy).2.2; omega⟩, fun y hy => ⟨by have := geV y hy; omega, fun e => by have e1 := (h.row.lt y e).2; have := geV y hy; omega, by have := geV y hy; omega⟩, h.sepv, (h.kept.then kq).trans k2 fun y hy => .inr (by simp at hy; rw [hy]; exact h.lo), h.lo⟩, hO2, ⟨fun y hy => (geV y hy).1, fun p hp y hy => (h.sep p hp y hy).2.2, fun y hy => (h.row.lt y hy).2, hX⟩⟩
theorem Spo.turn {w0 w w1 w2 : World} {X N b : Nat} {x x' : Rcd} {Vx V' : RV} {v : Value} {xs : List (RV × Rcd)} {S : List Nat} (h : Spo w0 w X x Vx v N xs) (f : Frs b X Vx v xs) (k : Kept S w w1) (hS : ∀ s ∈ S, b ≤ s) (see' : SeeR w1 V' x') (hB : ∀ y, hasB V' y → b ≤ y ∧ y < w1.heap.size) (k2 : Kept [X] w1 w2) (b2 : Blk w2 X 26 (x'.cl V')) : Spo w0 w2 X x' V' v N xs := by
  have hs := k.size
  have hs2 := k2.size
  have hX := f.blk
  have nS : ∀ y, y < b → y ∉ S := fun y hy hm => by have := hS y hm; omega
  refine ⟨b2, see'.keptS k2 fun y hy hm => by simp at hm; have := (hB y hy).1; omega, h.len, (h.row.kept k fun y hy => nS y (f.row y hy)).kept k2 fun y hy hm => h.sepv (by simp at hm; rw [← hm]; exact hy), fun p hp => ⟨((h.all p hp).1.keptS k fun y hy => nS y (f.old p hp y hy)).keptS k2 fun y hy hm => (h.sep p hp y hy).1 (by simpa using hm), (h.all p hp).2⟩, fun p hp y hy => ⟨(h.sep p hp y hy).1, (h.sep p hp y hy).2.1, by have := (h.sep p hp y hy).2.2; omega⟩, fun y hy => ⟨by have := (hB y hy).1; omega, fun e => by have e1 := f.row y e; have := (hB y hy).1; omega, by have := (hB y hy).2; omega⟩, h.sepv, (h.kept.trans k fun y hy => .inr (by have e1 := hS y hy; have e2 := h.lo; omega)).trans k2 fun y hy => .inr (by simp at hy; rw [hy]; exact h.lo), h.lo⟩
theorem src_rcd {P : Program} (w : World) (t e : TypeId) (ht : P.underlying t = some (.slice e)) (cs : List Value) (hl : cs.length = 11) (h1 : ∀ u ∈ cs, u.oneCell' = true) : Src P 11 t (.slice (some ⟨w.heap.size, 0, none⟩) 1 1) 1 cs (w.alloc (.cells cs.toArray e)) := by
  refine Src.ofSlice _ ht _ _ _ _ (by rw [hl]) (fun j u hj => ?_) h1
  rw [add_none rfl]
  have q := (Blk.new w e cs).cell hj
  simpa using q
end Go.Proofs.Ytebcmcmboomgfaa

/-
  OWN WORK (by mklw8.py). Records that are not right, made of one that is.
-/
namespace Go.Proofs.Ytebcmcmboomgfaa
open Go.RowKit
set_option linter.unusedVariables false
set_option linter.unusedSimpArgs false

theorem right_kind {r : Rcd} (h : r.Right) : r.kind = 1 ∨ r.kind = 2 ∨ r.kind = 3 ∨ r.kind = 4 ∨ r.kind = 5 ∨ r.kind = 6 ∨ r.kind = 7 := by have := h.1; omega
theorem rows_twice {l : List RowR} {x y : RowR} (h : ∀ (i : Nat) a b, (l ++ [x, y])[i]? = some a → (l ++ [x, y])[i + 1]? = some b → a.birth < b.birth) : x.birth < y.birth := h l.length x y (by simp) (by rw [List.getElem?_append_right (by omega)]; simp)
theorem recs_twice {l : List RecR} {x y : RecR} (h : ∀ (i : Nat) a b, (l ++ [x, y])[i]? = some a → (l ++ [x, y])[i + 1]? = some b → a.page < b.page) : x.page < y.page := h l.length x y (by simp) (by rw [List.getElem?_append_right (by omega)]; simp)
set_option maxHeartbeats 800000 in
theorem bad_kA {r : Rcd} (hR : r.Right) : ¬ (⟨r.kind - 8, r.birth, r.prev, r.id, r.page, r.frm, r.before, r.after, r.next, r.rows, r.dirty⟩ : Rcd).Right := by
  intro h
  have hk0 := right_kind hR
  unfold Rcd.Right at h hR
  dsimp only at h
  omega
set_option maxHeartbeats 800000 in
theorem bad_kB {r : Rcd} (hR : r.Right) : ¬ (⟨r.kind + 7, r.birth, r.prev, r.id, r.page, r.frm, r.before, r.after, r.next, r.rows, r.dirty⟩ : Rcd).Right := by
  intro h
  have hk0 := right_kind hR
  unfold Rcd.Right at h hR
  dsimp only at h
  omega
set_option maxHeartbeats 800000 in
theorem bad_bA {r : Rcd} (hR : r.Right) : ¬ (⟨r.kind, -1, r.prev, r.id, r.page, r.frm, r.before, r.after, r.next, r.rows, r.dirty⟩ : Rcd).Right := by
  intro h
  have hk0 := right_kind hR
  unfold Rcd.Right at h hR
  dsimp only at h
  rcases hk0 with e | e | e | e | e | e | e <;> simp [e, lsnOk, nextOk, rangedOk, partsOk] at h hR <;> omega
set_option maxHeartbeats 800000 in
theorem bad_bB {r : Rcd} (hR : r.Right) : ¬ (⟨r.kind, 1152921504606846977, r.prev, r.id, r.page, r.frm, r.before, r.after, r.next, r.rows, r.dirty⟩ : Rcd).Right := by
  intro h
  have hk0 := right_kind hR
  unfold Rcd.Right at h hR
  dsimp only at h
  rcases hk0 with e | e | e | e | e | e | e <;> simp [e, lsnOk, nextOk, rangedOk, partsOk] at h hR <;> omega
set_option maxHeartbeats 800000 in
theorem bad_pA {r : Rcd} (hR : r.Right) : ¬ (⟨r.kind, r.birth, -1, r.id, r.page, r.frm, r.before, r.after, r.next, r.rows, r.dirty⟩ : Rcd).Right := by
  intro h
  have hk0 := right_kind hR
  unfold Rcd.Right at h hR
  dsimp only at h
  rcases hk0 with e | e | e | e | e | e | e <;> simp [e, lsnOk, nextOk, rangedOk, partsOk] at h hR <;> omega
set_option maxHeartbeats 800000 in
theorem bad_nA {r : Rcd} (hR : r.Right) : ¬ (⟨r.kind, r.birth, r.prev, r.id, r.page, r.frm, r.before, r.after, -1, r.rows, r.dirty⟩ : Rcd).Right := by
  intro h
  have hk0 := right_kind hR
  unfold Rcd.Right at h hR
  dsimp only at h
  rcases hk0 with e | e | e | e | e | e | e <;> simp [e, lsnOk, nextOk, rangedOk, partsOk] at h hR <;> omega
set_option maxHeartbeats 800000 in
theorem bad_nB {r : Rcd} (hR : r.Right) : ¬ (⟨r.kind, r.birth, r.prev, r.id, r.page, r.frm, r.before, r.after, 1152921504606846977, r.rows, r.dirty⟩ : Rcd).Right := by
  intro h
  have hk0 := right_kind hR
  unfold Rcd.Right at h hR
  dsimp only at h
  rcases hk0 with e | e | e | e | e | e | e <;> simp [e, lsnOk, nextOk, rangedOk, partsOk] at h hR <;> omega
set_option maxHeartbeats 800000 in
theorem bad_iA {r : Rcd} (hR : r.Right) : ¬ (⟨r.kind, r.birth, r.prev, 65, r.page, r.frm, r.before, r.after, r.next, r.rows, r.dirty⟩ : Rcd).Right := by
  intro h
  have hk0 := right_kind hR
  unfold Rcd.Right at h hR
  dsimp only at h
  rcases hk0 with e | e | e | e | e | e | e <;> simp [e, lsnOk, nextOk, rangedOk, partsOk] at h hR <;> omega
set_option maxHeartbeats 800000 in
theorem bad_gA {r : Rcd} (hR : r.Right) : ¬ (⟨r.kind, r.birth, r.prev, r.id, 16, r.frm, r.before, r.after, r.next, r.rows, r.dirty⟩ : Rcd).Right := by
  intro h
  have hk0 := right_kind hR
  unfold Rcd.Right at h hR
  dsimp only at h
  rcases hk0 with e | e | e | e | e | e | e <;> simp [e, lsnOk, nextOk, rangedOk, partsOk] at h hR <;> omega
set_option maxHeartbeats 800000 in
theorem bad_fA {r : Rcd} (hR : r.Right) : ¬ (⟨r.kind, r.birth, r.prev, r.id, r.page, 145, r.before, r.after, r.next, r.rows, r.dirty⟩ : Rcd).Right := by
  intro h
  have hk0 := right_kind hR
  unfold Rcd.Right at h hR
  dsimp only at h
  rcases hk0 with e | e | e | e | e | e | e <;> simp [e, lsnOk, nextOk, rangedOk, partsOk] at h hR <;> omega
set_option maxHeartbeats 800000 in
theorem bad_fB {r : Rcd} (hR : r.Right) : ¬ (⟨r.kind, r.birth, r.prev, r.id, r.page, 4611686018427387904, r.before, r.after, r.next, r.rows, r.dirty⟩ : Rcd).Right := by
  intro h
  have hk0 := right_kind hR
  unfold Rcd.Right at h hR
  dsimp only at h
  rcases hk0 with e | e | e | e | e | e | e <;> simp [e, lsnOk, nextOk, rangedOk, partsOk] at h hR <;> omega
set_option maxHeartbeats 800000 in
theorem bad_xA {r : Rcd} (hR : r.Right) : ¬ (⟨r.kind, r.birth, r.prev, r.id, r.page, r.frm, r.before ++ [1], r.after, r.next, r.rows, r.dirty⟩ : Rcd).Right := by
  intro h
  have hk0 := right_kind hR
  unfold Rcd.Right at h hR
  dsimp only at h
  rcases hk0 with e | e | e | e | e | e | e <;> simp [e, lsnOk, nextOk, rangedOk, partsOk] at h hR <;> omega
set_option maxHeartbeats 800000 in
theorem bad_xB {r : Rcd} (hR : r.Right) : ¬ (⟨r.kind, r.birth, r.prev, r.id, r.page, r.frm, r.before, List.replicate 129 0, r.next, r.rows, r.dirty⟩ : Rcd).Right := by
  intro h
  have hk0 := right_kind hR
  unfold Rcd.Right at h hR
  dsimp only at h
  rcases hk0 with e | e | e | e | e | e | e <;> simp [e, lsnOk, nextOk, rangedOk, partsOk] at h hR <;> omega
set_option maxHeartbeats 800000 in
theorem bad_xC {r : Rcd} (hR : r.Right) (hk : r.kind = 2 ∨ r.kind = 3) : ¬ (⟨r.kind, r.birth, r.prev, r.id, r.page, r.frm, r.before, [], r.next, r.rows, r.dirty⟩ : Rcd).Right := by
  intro h
  have hk0 := right_kind hR
  unfold Rcd.Right at h hR
  dsimp only at h
  rcases hk with e | e <;> simp [e, lsnOk, nextOk, rangedOk, partsOk] at h hR <;> omega
set_option maxHeartbeats 800000 in
theorem bad_xD {r : Rcd} (hR : r.Right) (hk : r.kind = 2 ∨ r.kind = 3) : ¬ (⟨r.kind, r.birth, r.prev, r.id, r.page, r.frm, [], [], r.next, r.rows, r.dirty⟩ : Rcd).Right := by
  intro h
  have hk0 := right_kind hR
  unfold Rcd.Right at h hR
  dsimp only at h
  rcases hk with e | e <;> simp [e, lsnOk, nextOk, rangedOk, partsOk] at h hR <;> omega
set_option maxHeartbeats 800000 in
theorem bad_fC {r : Rcd} (hR : r.Right) (hk : r.kind = 2 ∨ r.kind = 3) : ¬ (⟨r.kind, r.birth, r.prev, r.id, r.page, 15, r.before, r.after, r.next, r.rows, r.dirty⟩ : Rcd).Right := by
  intro h
  have hk0 := right_kind hR
  unfold Rcd.Right at h hR
  dsimp only at h
  rcases hk with e | e <;> simp [e, lsnOk, nextOk, rangedOk, partsOk] at h hR <;> omega
set_option maxHeartbeats 800000 in
theorem bad_fD {r : Rcd} (hR : r.Right) (hk : r.kind = 2 ∨ r.kind = 3) : ¬ (⟨r.kind, r.birth, r.prev, r.id, r.page, 145 - (r.after.length : Int), r.before, r.after, r.next, r.rows, r.dirty⟩ : Rcd).Right := by
  intro h
  have hk0 := right_kind hR
  unfold Rcd.Right at h hR
  dsimp only at h
  rcases hk with e | e <;> simp [e, lsnOk, nextOk, rangedOk, partsOk] at h hR <;> omega
set_option maxHeartbeats 800000 in
theorem bad_rA {r : Rcd} (hR : r.Right) : ¬ (⟨r.kind, r.birth, r.prev, r.id, r.page, r.frm, r.before, r.after, r.next, r.rows ++ [⟨1152921504606846976, 1, 3, 1, 0⟩], r.dirty⟩ : Rcd).Right := by
  intro h
  obtain ⟨-, -, -, hl, -⟩ := h
  simp only at hl
  split at hl
  · have q := hl.2.1.1 ⟨1152921504606846976, 1, 3, 1, 0⟩ (by simp)
    have q2 := q.2.2.1
    simp at q2
  · have q := hl.1
    simp at q
set_option maxHeartbeats 800000 in
theorem bad_rB {r : Rcd} (hR : r.Right) : ¬ (⟨r.kind, r.birth, r.prev, r.id, r.page, r.frm, r.before, r.after, r.next, r.rows ++ [⟨5, 1, 1, 5, 0⟩, ⟨5, 2, 1, 6, 0⟩], r.dirty⟩ : Rcd).Right := by
  intro h
  obtain ⟨-, -, -, hl, -⟩ := h
  simp only at hl
  split at hl
  · have q := rows_twice hl.2.1.2
    simp at q
  · have q := hl.1
    simp at q
set_option maxHeartbeats 800000 in
theorem bad_dA {r : Rcd} (hR : r.Right) : ¬ (⟨r.kind, r.birth, r.prev, r.id, r.page, r.frm, r.before, r.after, r.next, r.rows, r.dirty ++ [⟨16, 1⟩]⟩ : Rcd).Right := by
  intro h
  obtain ⟨-, -, -, hl, -⟩ := h
  simp only at hl
  split at hl
  · have q := hl.2.2.1 ⟨16, 1⟩ (by simp)
    have q2 := q.1.2
    simp at q2
  · have q := hl.2
    simp at q
set_option maxHeartbeats 800000 in
theorem bad_dB {r : Rcd} (hR : r.Right) : ¬ (⟨r.kind, r.birth, r.prev, r.id, r.page, r.frm, r.before, r.after, r.next, r.rows, r.dirty ++ [⟨15, 1⟩, ⟨15, 2⟩]⟩ : Rcd).Right := by
  intro h
  obtain ⟨-, -, -, hl, -⟩ := h
  simp only at hl
  split at hl
  · have q := recs_twice hl.2.2.2
    simp at q
  · have q := hl.2
    simp at q
set_option maxHeartbeats 800000 in
theorem bad_dC {r : Rcd} (hR : r.Right) : ¬ (⟨r.kind, r.birth, r.prev, r.id, r.page, r.frm, r.before, r.after, r.next, r.rows, r.dirty ++ [⟨15, 0⟩]⟩ : Rcd).Right := by
  intro h
  obtain ⟨-, -, -, hl, -⟩ := h
  simp only at hl
  split at hl
  · have q := hl.2.2.1 ⟨15, 0⟩ (by simp)
    have q2 := q.2.1
    simp at q2
  · have q := hl.2
    simp at q
theorem bad_sA {r : Rcd} (h2 : r.kind = 2) {y : UInt8} (hy : r.after[0]? = some y) : ¬ (⟨r.kind, r.birth, r.prev, r.id, r.page, r.frm, r.before.set 0 y, r.after, r.next, r.rows, r.dirty⟩ : Rcd).Right := by
  intro h
  obtain ⟨-, -, -, -, -, -, hp⟩ := h
  simp only [h2, if_true] at hp
  obtain ⟨q1, q2, -⟩ := hp
  simp only at q1 q2
  apply q2
  rw [hy, List.getElem?_set_self (by rw [List.length_set] at q1; have := (List.getElem?_eq_some_iff.1 hy).1; omega)]
theorem bad_sB {r : Rcd} (h2 : r.kind = 2) {y : UInt8} (hy : r.before[r.after.length - 1]? = some y) (hn : 0 < r.after.length) : ¬ (⟨r.kind, r.birth, r.prev, r.id, r.page, r.frm, r.before, r.after.set (r.after.length - 1) y, r.next, r.rows, r.dirty⟩ : Rcd).Right := by
  intro h
  obtain ⟨-, -, -, -, -, -, hp⟩ := h
  simp only [h2, if_true] at hp
  obtain ⟨q1, -, q2⟩ := hp
  simp only [List.length_set] at q1 q2
  apply q2
  rw [hy, List.getElem?_set_self (by omega)]
end Go.Proofs.Ytebcmcmboomgfaa

/-
  OWN WORK. Small things that several laws of record want: a row of one's own at a place, the rest of a division, a byte turned.
-/
namespace Go.Proofs.Ytebcmcmboomgfaa
open Go.RowKit
theorem own_at9 {w : World} {base e n : Nat} {v : Value} {xs : List Value} (h : w.ownsRow base e 1 v n xs) (hn : 0 < n) : ∃ g c, v = .slice (some ⟨g, 0, none⟩) n c ∧ base ≤ g ∧ ∀ (j : Nat) u, xs[j]? = some u → w.cell? ⟨g, j, none⟩ = some u ∧ w.frozen? ⟨g, j, none⟩ = false := by
  rcases h.2 with ⟨-, e0⟩ | ⟨g, cap, cur, rfl, h1, h2, h3, h4, -, h5⟩
  · omega
  · refine ⟨g, cap, rfl, h1, fun j u hj => ?_⟩
    rw [← h5, List.getElem?_take] at hj
    split at hj
    · refine ⟨?_, by simp [World.frozen?, h2]⟩
      simp [World.cell?, h2]
      simpa using hj
    · cases hj
theorem wrap_u8d {x : Nat} (h : x < 2 ^ 8) : IntKind.u8.wrap (x : Int) = (x : Int) := by
  simp only [IntKind.wrap, IntKind.bits, IntKind.signed]
  have : 2 ^ 8 = 256 := by decide
  simp
  omega
theorem xorB (y x : UInt8) : bits .xor .u8 (y.toNat : Int) (x.toNat : Int) = ((y ^^^ x).toNat : Int) := by
  have h1 : ∀ z : UInt8, (BitVec.ofInt 8 (z.toNat : Int)).toNat = z.toNat := fun z => by
    rw [BitVec.ofInt_natCast, BitVec.toNat_ofNat]; exact Nat.mod_eq_of_lt z.toNat_lt
  show IntKind.u8.wrap ((BitVec.ofInt 8 (y.toNat : Int) ^^^ BitVec.ofInt 8 (x.toNat : Int)).toNat : Int) = _
  rw [BitVec.toNat_xor, h1, h1, UInt8.toNat_xor]
  have hx : y.toNat ^^^ x.toNat < 2 ^ 8 := Nat.xor_lt_two_pow y.toNat_lt x.toNat_lt
  exact wrap_u8d hx
/-- where the rest of a division points -/
theorem rest_at (n : Int) (m : Nat) (hm : 0 < m) (hm2 : m ≤ 1000000) : ∃ N : Nat, N < m ∧ IntKind.i64.wrap (n.tmod (m : Int)) = n.tmod (m : Int) ∧ ((n.tmod (m : Int) < 0 ∧ IntKind.i64.wrap (n.tmod (m : Int) + (m : Int)) = (N : Int)) ∨ (¬ n.tmod (m : Int) < 0 ∧ n.tmod (m : Int) = (N : Int))) := by
  have hp : (0 : Int) < (m : Int) := by omega
  have b1 := Int.tmod_lt_of_pos n hp
  have b2 := Int.lt_tmod_of_pos n hp
  generalize n.tmod (m : Int) = z at b1 b2 ⊢
  by_cases c : z < 0
  · exact ⟨(z + m).toNat, by omega, wrap_i64_of (by omega) (by omega), .inl ⟨c, by rw [wrap_i64_of (by omega) (by omega)]; omega⟩⟩
  · exact ⟨z.toNat, by omega, wrap_i64_of (by omega) (by omega), .inr ⟨c, by omega⟩⟩
end Go.Proofs.Ytebcmcmboomgfaa

/-
  OWN WORK (by mklwa.py). The law: spoilt: how its record turns.
-/
namespace Go.Proofs.Ytebcmcmboomgfaa
open Go.RowKit
set_option linter.unusedVariables false
set_option linter.unusedSimpArgs false

theorem Spo.setV {w0 w : World} {X N : Nat} {x x' : Rcd} {Vx V' : RV} {v u : Value} {xs : List (RV × Rcd)} (h : Spo w0 w X x Vx v N xs) (j : Nat) (hcl : x'.cl V' = (x.cl Vx).set j u) (see' : SeeR w V' x') (hB : ∀ y, hasB V' y → hasB Vx y) : Spo w0 (w.setCell ⟨X, j, none⟩ u) X x' V' v N xs := by
  obtain ⟨b, k⟩ := h.blk.set j u
  refine ⟨by rw [hcl]; exact b, see'.keptS k fun y hy hm => (h.sepx y (hB y hy)).1 (by simpa using hm), h.len, h.row.kept k fun y hy hm => h.sepv (by simp at hm; rw [← hm]; exact hy), fun p hp => ⟨(h.all p hp).1.keptS k fun y hy hm => (h.sep p hp y hy).1 (by simpa using hm), (h.all p hp).2⟩, fun p hp y hy => ?_, fun y hy => ?_, h.sepv, h.kept.trans k fun y hy => .inr (by simp at hy; rw [hy]; exact h.lo), h.lo⟩
  · exact ⟨(h.sep p hp y hy).1, (h.sep p hp y hy).2.1, Nat.lt_of_lt_of_le (h.sep p hp y hy).2.2 k.size⟩
  · exact ⟨(h.sepx y (hB y hy)).1, (h.sepx y (hB y hy)).2.1, Nat.lt_of_lt_of_le (h.sepx y (hB y hy)).2.2 k.size⟩
theorem src_gen {P : Program} (w : World) (t e : TypeId) (sz m : Nat) (ht : P.underlying t = some (.slice e)) (cs : List Value) (hl : cs.length = m * sz) (h1 : ∀ u ∈ cs, u.oneCell' = true) : Src P sz t (.slice (some ⟨w.heap.size, 0, none⟩) m m) m cs (w.alloc (.cells cs.toArray e)) := by
  refine Src.ofSlice _ ht _ _ _ _ hl (fun j u hj => ?_) h1
  rw [add_none rfl]
  have q := (Blk.new w e cs).cell hj
  simpa using q
theorem copyCap_right {r : Rcd} (h : r.Right) : CopyCap r ∧ r.before.length ≤ 128 ∧ r.after.length ≤ 128 ∧ r.rows.length ≤ 8 ∧ r.dirty.length ≤ 16 := by
  have q : r.before.length ≤ 128 ∧ r.after.length ≤ 128 ∧ r.rows.length ≤ 8 ∧ r.dirty.length ≤ 16 := by
    have hk := right_kind h
    unfold Rcd.Right at h
    rcases hk with e | e | e | e | e | e | e <;> simp [e, rangedOk, partsOk, listsOk] at h <;> simp [h] <;> omega
  unfold CopyCap
  omega
theorem Spo.appB {w0 w wl w' : World} {X N b : Nat} {x : Rcd} {Vx : RV} {v v' : Value} {xs : List (RV × Rcd)} {new : List UInt8} (h : Spo w0 w X x Vx v N xs) (O : OwnR b w Vx x) (F : Frs b X Vx v xs) (kl : Kept [] w wl) (o' : w'.ownsRow b 5 1 v' (x.before.length + new.length) (u8s x.before ++ u8s new)) (g : wl.grownBy w' Vx.vb.ownBlock) : Blk w' X 26 (x.cl Vx) ∧ Spo w0 (w'.setCell ⟨X, 6, none⟩ v') X (⟨x.kind, x.birth, x.prev, x.id, x.page, x.frm, x.before ++ new, x.after, x.next, x.rows, x.dirty⟩ : Rcd) (⟨v', Vx.va, Vx.vr, Vx.vd⟩ : RV) v N xs := by
  have k : Kept Vx.vb.ownBlock.toList w w' := ((Kept.refl Vx.vb.ownBlock.toList w).then kl).grown g (fun y hy => .inl (by simpa using hy))
  have hS : ∀ s ∈ Vx.vb.ownBlock.toList, b ≤ s := fun s hs => F.own s (.inl (by simpa using hs))
  have blk' := h.blk.kept k fun hm => by have := hS X hm; have := F.blk; omega
  have see' : SeeR w' (⟨v', Vx.va, Vx.vr, Vx.vd⟩ : RV) (⟨x.kind, x.birth, x.prev, x.id, x.page, x.frm, x.before ++ new, x.after, x.next, x.rows, x.dirty⟩ : Rcd) := ⟨bs_own9 (l := x.before ++ new) (by rw [show u8s (x.before ++ new) = u8s x.before ++ u8s new from (by simp [u8s])]; exact o') (by rw [List.length_append]), h.see.after.keptS k (fun y hy hm => O.ba y (by simpa using hm) hy), h.see.rows.keptS k (fun y hy hm => O.br y (by simpa using hm) hy), h.see.dirty.keptS k (fun y hy hm => O.bd y (by simpa using hm) hy)⟩
  have hB : ∀ y, hasB (⟨v', Vx.va, Vx.vr, Vx.vd⟩ : RV) y → b ≤ y ∧ y < w'.heap.size := fun y hy => by
    have hs := k.size
    rcases hy with q | q | q | q
    · exact ⟨own_ge o' y q, own_lt o' y q⟩
    · exact ⟨F.own y (.inr (.inl q)), by have := (h.sepx y (.inr (.inl q))).2.2; omega⟩
    · exact ⟨F.own y (.inr (.inr (.inl q))), by have := (h.sepx y (.inr (.inr (.inl q)))).2.2; omega⟩
    · exact ⟨F.own y (.inr (.inr (.inr q))), by have := (h.sepx y (.inr (.inr (.inr q)))).2.2; omega⟩
  obtain ⟨b2, k2⟩ := blk'.set 6 v'
  exact ⟨blk', h.turn F k hS see' hB k2 b2⟩
theorem Spo.appR {w0 w wl w' : World} {X N b : Nat} {x : Rcd} {Vx : RV} {v v' : Value} {xs : List (RV × Rcd)} {new : List RowR} (h : Spo w0 w X x Vx v N xs) (O : OwnR b w Vx x) (F : Frs b X Vx v xs) (kl : Kept [] w wl) (o' : Row w' b 5 v' (x.rows.length + new.length) (rcells x.rows ++ rcells new)) (g : Kept Vx.vr.ownBlock.toList wl w') : Blk w' X 26 (x.cl Vx) ∧ Spo w0 (w'.setCell ⟨X, 9, none⟩ v') X (⟨x.kind, x.birth, x.prev, x.id, x.page, x.frm, x.before, x.after, x.next, x.rows ++ new, x.dirty⟩ : Rcd) (⟨Vx.vb, Vx.va, v', Vx.vd⟩ : RV) v N xs := by
  have k : Kept Vx.vr.ownBlock.toList w w' := ((Kept.refl Vx.vr.ownBlock.toList w).then kl).trans g (fun y hy => .inl hy)
  have hS : ∀ s ∈ Vx.vr.ownBlock.toList, b ≤ s := fun s hs => F.own s (.inr (.inr (.inl (by simpa using hs))))
  have blk' := h.blk.kept k fun hm => by have := hS X hm; have := F.blk; omega
  have see' : SeeR w' (⟨Vx.vb, Vx.va, v', Vx.vd⟩ : RV) (⟨x.kind, x.birth, x.prev, x.id, x.page, x.frm, x.before, x.after, x.next, x.rows ++ new, x.dirty⟩ : Rcd) := ⟨h.see.before.keptS k (fun y hy hm => O.br y hy (by simpa using hm)), h.see.after.keptS k (fun y hy hm => O.ar y hy (by simpa using hm)), (by have q := o'.cs; rw [← rcells_append] at q; rw [List.length_append]; exact q), h.see.dirty.keptS k (fun y hy hm => O.rd y (by simpa using hm) hy)⟩
  have hB : ∀ y, hasB (⟨Vx.vb, Vx.va, v', Vx.vd⟩ : RV) y → b ≤ y ∧ y < w'.heap.size := fun y hy => by
    have hs := k.size
    rcases hy with q | q | q | q
    · exact ⟨F.own y (.inl q), by have := (h.sepx y (.inl q)).2.2; omega⟩
    · exact ⟨F.own y (.inr (.inl q)), by have := (h.sepx y (.inr (.inl q))).2.2; omega⟩
    · exact ⟨(o'.lt y q).1, (o'.lt y q).2⟩
    · exact ⟨F.own y (.inr (.inr (.inr q))), by have := (h.sepx y (.inr (.inr (.inr q)))).2.2; omega⟩
  obtain ⟨b2, k2⟩ := blk'.set 9 v'
  exact ⟨blk', h.turn F k hS see' hB k2 b2⟩
theorem Spo.appD {w0 w wl w' : World} {X N b : Nat} {x : Rcd} {Vx : RV} {v v' : Value} {xs : List (RV × Rcd)} {new : List RecR} (h : Spo w0 w X x Vx v N xs) (O : OwnR b w Vx x) (F : Frs b X Vx v xs) (kl : Kept [] w wl) (o' : Row w' b 2 v' (x.dirty.length + new.length) (dcells x.dirty ++ dcells new)) (g : Kept Vx.vd.ownBlock.toList wl w') : Blk w' X 26 (x.cl Vx) ∧ Spo w0 (w'.setCell ⟨X, 10, none⟩ v') X (⟨x.kind, x.birth, x.prev, x.id, x.page, x.frm, x.before, x.after, x.next, x.rows, x.dirty ++ new⟩ : Rcd) (⟨Vx.vb, Vx.va, Vx.vr, v'⟩ : RV) v N xs := by
  have k : Kept Vx.vd.ownBlock.toList w w' := ((Kept.refl Vx.vd.ownBlock.toList w).then kl).trans g (fun y hy => .inl hy)
  have hS : ∀ s ∈ Vx.vd.ownBlock.toList, b ≤ s := fun s hs => F.own s (.inr (.inr (.inr (by simpa using hs))))
  have blk' := h.blk.kept k fun hm => by have := hS X hm; have := F.blk; omega
  have see' : SeeR w' (⟨Vx.vb, Vx.va, Vx.vr, v'⟩ : RV) (⟨x.kind, x.birth, x.prev, x.id, x.page, x.frm, x.before, x.after, x.next, x.rows, x.dirty ++ new⟩ : Rcd) := ⟨h.see.before.keptS k (fun y hy hm => O.bd y hy (by simpa using hm)), h.see.after.keptS k (fun y hy hm => O.ad y hy (by simpa using hm)), h.see.rows.keptS k (fun y hy hm => O.rd y hy (by simpa using hm)), (by have q := o'.cs; rw [← dcells_append] at q; rw [List.length_append]; exact q)⟩
  have hB : ∀ y, hasB (⟨Vx.vb, Vx.va, Vx.vr, v'⟩ : RV) y → b ≤ y ∧ y < w'.heap.size := fun y hy => by
    have hs := k.size
    rcases hy with q | q | q | q
    · exact ⟨F.own y (.inl q), by have := (h.sepx y (.inl q)).2.2; omega⟩
    · exact ⟨F.own y (.inr (.inl q)), by have := (h.sepx y (.inr (.inl q))).2.2; omega⟩
    · exact ⟨F.own y (.inr (.inr (.inl q))), by have := (h.sepx y (.inr (.inr (.inl q)))).2.2; omega⟩
    · exact ⟨(o'.lt y q).1, (o'.lt y q).2⟩
  obtain ⟨b2, k2⟩ := blk'.set 10 v'
  exact ⟨blk', h.turn F k hS see' hB k2 b2⟩
theorem Spo.newA {w0 w w' : World} {X N b : Nat} {x : Rcd} {Vx : RV} {v v' : Value} {xs : List (RV × Rcd)} {l : List UInt8} (h : Spo w0 w X x Vx v N xs) (F : Frs b X Vx v xs) (k : Kept [] w w') (o' : w'.ownsRow b 5 1 v' l.length (u8s l)) : Blk w' X 26 (x.cl Vx) ∧ Spo w0 (w'.setCell ⟨X, 7, none⟩ v') X (⟨x.kind, x.birth, x.prev, x.id, x.page, x.frm, x.before, l, x.next, x.rows, x.dirty⟩ : Rcd) (⟨Vx.vb, v', Vx.vr, Vx.vd⟩ : RV) v N xs := by
  have blk' := h.blk.kept k (by simp)
  have s := h.see.kept k
  obtain ⟨b2, k2⟩ := blk'.set 7 v'
  have hs := k.size
  refine ⟨blk', h.turn (V' := ⟨Vx.vb, v', Vx.vr, Vx.vd⟩) (x' := ⟨x.kind, x.birth, x.prev, x.id, x.page, x.frm, x.before, l, x.next, x.rows, x.dirty⟩) F k (by simp) ⟨s.before, Bs.ofOwn o', s.rows, s.dirty⟩ (fun y hy => ?_) k2 b2⟩
  rcases hy with q | q | q | q
  · exact ⟨F.own y (.inl q), by have := (h.sepx y (.inl q)).2.2; omega⟩
  · exact ⟨own_ge o' y q, own_lt o' y q⟩
  · exact ⟨F.own y (.inr (.inr (.inl q))), by have := (h.sepx y (.inr (.inr (.inl q)))).2.2; omega⟩
  · exact ⟨F.own y (.inr (.inr (.inr q))), by have := (h.sepx y (.inr (.inr (.inr q)))).2.2; omega⟩
/-- a byte of Before, or of After, is written over -/
theorem Spo.pokeB {w0 w : World} {X N b g n c : Nat} {x : Rcd} {Vx : RV} {v : Value} {xs : List (RV × Rcd)} (h : Spo w0 w X x Vx v N xs) (O : OwnR b w Vx x) (F : Frs b X Vx v xs) (hv : Vx.vb = .slice (some ⟨g, 0, none⟩) x.before.length c) (j : Nat) (y : UInt8) : Spo w0 (w.setCell ⟨g, j, none⟩ (.int .u8 (y.toNat : Int))) X (⟨x.kind, x.birth, x.prev, x.id, x.page, x.frm, x.before.set j y, x.after, x.next, x.rows, x.dirty⟩ : Rcd) Vx v N xs := by
  have ob := O.before
  rw [hv] at ob
  obtain ⟨o2, k⟩ := set_own ob j y (y.toNat : Int) rfl
  have hg : Vx.vb.ownBlock = some g := by rw [hv]; rfl
  have hS : ∀ s ∈ [g], b ≤ s := fun s hs => by simp at hs; rw [hs]; exact F.own g (.inl hg)
  have blk' := h.blk.kept k fun hm => by have := hS X hm; have := F.blk; omega
  have hs := k.size
  refine h.turn (V' := Vx) (x' := ⟨x.kind, x.birth, x.prev, x.id, x.page, x.frm, x.before.set j y, x.after, x.next, x.rows, x.dirty⟩) F k hS ⟨by rw [hv]; exact bs_own9 o2 (by rw [List.length_set]), h.see.after.keptS k (fun z hz hm => O.ba g hg (by simp at hm; rw [← hm]; exact hz)), h.see.rows.keptS k (fun z hz hm => O.br g hg (by simp at hm; rw [← hm]; exact hz)), h.see.dirty.keptS k (fun z hz hm => O.bd g hg (by simp at hm; rw [← hm]; exact hz))⟩ (fun z hz => ⟨F.own z hz, by have := (h.sepx z hz).2.2; omega⟩) (Kept.refl [X] _) blk'
theorem Spo.pokeA {w0 w : World} {X N b g n c : Nat} {x : Rcd} {Vx : RV} {v : Value} {xs : List (RV × Rcd)} (h : Spo w0 w X x Vx v N xs) (O : OwnR b w Vx x) (F : Frs b X Vx v xs) (hv : Vx.va = .slice (some ⟨g, 0, none⟩) x.after.length c) (j : Nat) (y : UInt8) : Spo w0 (w.setCell ⟨g, j, none⟩ (.int .u8 (y.toNat : Int))) X (⟨x.kind, x.birth, x.prev, x.id, x.page, x.frm, x.before, x.after.set j y, x.next, x.rows, x.dirty⟩ : Rcd) Vx v N xs := by
  have ob := O.after
  rw [hv] at ob
  obtain ⟨o2, k⟩ := set_own ob j y (y.toNat : Int) rfl
  have hg : Vx.va.ownBlock = some g := by rw [hv]; rfl
  have hS : ∀ s ∈ [g], b ≤ s := fun s hs => by simp at hs; rw [hs]; exact F.own g (.inr (.inl hg))
  have blk' := h.blk.kept k fun hm => by have := hS X hm; have := F.blk; omega
  have hs := k.size
  refine h.turn (V' := Vx) (x' := ⟨x.kind, x.birth, x.prev, x.id, x.page, x.frm, x.before, x.after.set j y, x.next, x.rows, x.dirty⟩) F k hS ⟨h.see.before.keptS k (fun z hz hm => O.ba z hz (by simp at hm; rw [hm]; exact hg)), by rw [hv]; exact bs_own9 o2 (by rw [List.length_set]), h.see.rows.keptS k (fun z hz hm => O.ar g hg (by simp at hm; rw [← hm]; exact hz)), h.see.dirty.keptS k (fun z hz hm => O.ad g hg (by simp at hm; rw [← hm]; exact hz))⟩ (fun z hz => ⟨F.own z hz, by have := (h.sepx z hz).2.2; omega⟩) (Kept.refl [X] _) blk'

theorem Spo.then {w0 w w' : World} {X N : Nat} {x : Rcd} {Vx : RV} {v : Value} {xs : List (RV × Rcd)} (h : Spo w0 w X x Vx v N xs) (k : Kept [] w w') : Spo w0 w' X x Vx v N xs :=
  ⟨h.blk.kept k (by simp), h.see.kept k, h.len, h.row.kept k (by simp), fun p hp => ⟨(h.all p hp).1.kept k, (h.all p hp).2⟩, fun p hp y hy => ⟨(h.sep p hp y hy).1, (h.sep p hp y hy).2.1, Nat.lt_of_lt_of_le (h.sep p hp y hy).2.2 k.size⟩, fun y hy => ⟨(h.sepx y hy).1, (h.sepx y hy).2.1, Nat.lt_of_lt_of_le (h.sepx y hy).2.2 k.size⟩, h.sepv, h.kept.then k, h.lo⟩
end Go.Proofs.Ytebcmcmboomgfaa

/-
  OWN WORK. spoilt: what it leaves.
-/
namespace Go.Proofs.Ytebcmcmboomgfaa
open Go.RowKit
/-- a list of records, none of which is right -/
def SpoDone (w : World) (e : Ending) (w' : World) : Prop := ∃ (p : Option Addr) (c N : Nat) (xs : List (RV × Rcd)), e = .returned (.slice p N c) ∧ (0 < N ∧ N ≤ 30) ∧ xs.length = N ∧ Cs w' 11 (.slice p N c) N (pcells xs) ∧ (∀ q ∈ xs, SeeR w' q.1 q.2 ∧ ¬ q.2.Right) ∧ Kept [] w w'
theorem SpoDone.of {w w' : World} {p : Option Addr} {c N : Nat} {xs : List (RV × Rcd)} (h0 : 0 < N) (h30 : N ≤ 30) (h : xs.length = N ∧ Cs w' 11 (.slice p N c) N (pcells xs) ∧ (∀ q ∈ xs, SeeR w' q.1 q.2 ∧ ¬ q.2.Right) ∧ Kept [] w w') : SpoDone w (.returned (.slice p N c)) w' := ⟨p, c, N, xs, rfl, ⟨h0, h30⟩, h⟩
end Go.Proofs.Ytebcmcmboomgfaa

