import Derived.Lib.SlBytesConst
import Derived.Test.YtebcmcmboomgfaaRows
import Derived.Test.YtebcmcmboomgfaaC4
/-
  OWN WORK (by mkpr8.py). record: readers, take.
-/
namespace Go.Proofs.Ytebcmcmboomgfaa
open Go.RowKit
set_option linter.unusedVariables false
set_option linter.unusedSimpArgs false

def fnK : Nat → Nat
  | 1 => 72
  | 2 => 73
  | 3 => 74
  | 7 => 76
  | _ => 75
def fnCells : List Value := [.nilFunc, .func (.func (fnK 1)) #[] #[], .func (.func (fnK 2)) #[] #[], .func (.func (fnK 3)) #[] #[], .func (.func (fnK 4)) #[] #[], .func (.func (fnK 5)) #[] #[], .func (.func (fnK 6)) #[] #[], .func (.func (fnK 7)) #[] #[]]
theorem fnCells_at {v : Nat} (h1 : 1 ≤ v) (h2 : v ≤ 7) : fnCells[v]? = some (.func (.func (fnK v)) #[] #[]) := by
  have : v = 1 ∨ v = 2 ∨ v = 3 ∨ v = 4 ∨ v = 5 ∨ v = 6 ∨ v = 7 := by omega
  rcases this with rfl | rfl | rfl | rfl | rfl | rfl | rfl <;> rfl
theorem qReaders (w : World) : Calls Try.prog 55 #[] w fun e w' => e = .returned (.slice (some ⟨w.heap.size, 0, none⟩) 8 8) ∧ Blk w' w.heap.size 88 fnCells ∧ Kept [] w w' := by
  go_enter Try.func55, Try.ntmps55
  go_wp2
  go_ret
  exact ⟨rfl, Blk.new w _ fnCells, (Kept.refl [] w).alloc _⟩
theorem qFn (bb g R v b p : Nat) (l : List UInt8) (w : World) (h1 : 1 ≤ v) (h2 : v ≤ 7) (hr : Rs bb w g l) (hb : Blk w R 26 ((bareR v b p).cl nilV)) (hne : g ≠ R) (hbb : bb ≤ w.heap.size) (hl : l.length ≤ 140737488355328) : Calls Try.prog (fnK v) #[src g, .pointer (some ⟨R, 0, none⟩)] w fun e w' => Out bb w w' g R (pTail v b p l) e := by
  have : v = 1 ∨ v = 2 ∨ v = 3 ∨ v = 4 ∨ v = 5 ∨ v = 6 ∨ v = 7 := by omega
  rcases this with rfl | rfl | rfl | rfl | rfl | rfl | rfl
  · exact qBegin bb g R b p l w hr hb hne
  · exact qUpdate bb g R b p l w hr hb hne hl
  · exact qUndo bb g R b p l w hr hb hne hl
  · exact qNothing bb g R 4 b p l w hr hb hne (by omega)
  · exact qNothing bb g R 5 b p l w hr hb hne (by omega)
  · exact qNothing bb g R 6 b p l w hr hb hne (by omega)
  · exact qCheck bb g R b p l w hr hb hne hbb
theorem fnK_call {v : Nat} (h1 : 1 ≤ v) (h2 : v ≤ 7) (args : Array Value) (w : World) : (callFunc (fnK v) args).run Try.prog w = .ok (.enter (fnK v) args) w := by
  have : v = 1 ∨ v = 2 ∨ v = 3 ∨ v = 4 ∨ v = 5 ∨ v = 6 ∨ v = 7 := by omega
  rcases this with rfl | rfl | rfl | rfl | rfl | rfl | rfl
  · simp only [fnK]; go_simp
  · simp only [fnK]; go_simp
  · simp only [fnK]; go_simp
  · simp only [fnK]; go_simp
  · simp only [fnK]; go_simp
  · simp only [fnK]; go_simp
  · simp only [fnK]; go_simp
theorem Blk.fill11 {w : World} {g : Nat} {t : TypeId} {z0 z1 z2 z3 z4 z5 z6 z7 z8 z9 z10 : Value} (h : Blk w g t [z0, z1, z2, z3, z4, z5, z6, z7, z8, z9, z10]) (v0 v1 v2 v3 v4 v5 v6 v7 v8 v9 v10 : Value) : Blk (((((((((((w.setCell ⟨g, 0, none⟩ v0).setCell ⟨g, 1, none⟩ v1).setCell ⟨g, 2, none⟩ v2).setCell ⟨g, 3, none⟩ v3).setCell ⟨g, 4, none⟩ v4).setCell ⟨g, 5, none⟩ v5).setCell ⟨g, 6, none⟩ v6).setCell ⟨g, 7, none⟩ v7).setCell ⟨g, 8, none⟩ v8).setCell ⟨g, 9, none⟩ v9).setCell ⟨g, 10, none⟩ v10) g t [v0, v1, v2, v3, v4, v5, v6, v7, v8, v9, v10] ∧ Kept [g] w (((((((((((w.setCell ⟨g, 0, none⟩ v0).setCell ⟨g, 1, none⟩ v1).setCell ⟨g, 2, none⟩ v2).setCell ⟨g, 3, none⟩ v3).setCell ⟨g, 4, none⟩ v4).setCell ⟨g, 5, none⟩ v5).setCell ⟨g, 6, none⟩ v6).setCell ⟨g, 7, none⟩ v7).setCell ⟨g, 8, none⟩ v8).setCell ⟨g, 9, none⟩ v9).setCell ⟨g, 10, none⟩ v10) := by
  obtain ⟨b0, k0⟩ := h.set 0 v0
  obtain ⟨b1, k1⟩ := b0.set 1 v1
  obtain ⟨b2, k2⟩ := b1.set 2 v2
  obtain ⟨b3, k3⟩ := b2.set 3 v3
  obtain ⟨b4, k4⟩ := b3.set 4 v4
  obtain ⟨b5, k5⟩ := b4.set 5 v5
  obtain ⟨b6, k6⟩ := b5.set 6 v6
  obtain ⟨b7, k7⟩ := b6.set 7 v7
  obtain ⟨b8, k8⟩ := b7.set 8 v8
  obtain ⟨b9, k9⟩ := b8.set 9 v9
  obtain ⟨b10, k10⟩ := b9.set 10 v10
  exact ⟨b10, ((((((((((k0.trans k1 (fun x hx => .inl hx)).trans k2 (fun x hx => .inl hx)).trans k3 (fun x hx => .inl hx)).trans k4 (fun x hx => .inl hx)).trans k5 (fun x hx => .inl hx)).trans k6 (fun x hx => .inl hx)).trans k7 (fun x hx => .inl hx)).trans k8 (fun x hx => .inl hx)).trans k9 (fun x hx => .inl hx)).trans k10 (fun x hx => .inl hx))⟩
section
variable {l l1 l2 l3 r : List UInt8} {v b p : Nat} {x : Rcd}
theorem pr_no {l : List UInt8} (h : pAll l = none) : parseR l = none := by unfold parseR; rw [h]
theorem pr_k0 (hz : num 1 l = none) : parseR l = none := pr_no (Ps.bind_none hz)
theorem pr_kind (h : num 1 l = some (v, l1)) (hv : ¬ (1 ≤ v ∧ v ≤ 7)) : parseR l = none := by
  cases hp : parseR l with
  | none => rfl
  | some y =>
    exfalso
    obtain ⟨-, hR, hb⟩ := parseR_some hp
    have e := (num_some h).1
    rw [hb] at e
    have e2 := hR.1
    unfold bytesR at e
    have h8 := congrArg List.head? e
    have hlt := (num_some h).2.2
    simp [putN] at h8
    have h9 := congrArg UInt8.toNat h8
    simp at h9
    omega
theorem pr_b0 (h : num 1 l = some (v, l1)) (hz : num 8 l1 = none) : parseR l = none := pr_no (by unfold pAll; rw [Ps.bind_of h]; exact Ps.bind_none hz)
theorem pr_p0 (h : num 1 l = some (v, l1)) (h2 : num 8 l1 = some (b, l2)) (hz : num 8 l2 = none) : parseR l = none := pr_no (by unfold pAll; rw [Ps.bind_of h, Ps.bind_of h2]; exact Ps.bind_none hz)
theorem pAll_eq (h : num 1 l = some (v, l1)) (h2 : num 8 l1 = some (b, l2)) (h3 : num 8 l2 = some (p, l3)) : pAll l = pTail v b p l3 := by unfold pAll; rw [Ps.bind_of h, Ps.bind_of h2, Ps.bind_of h3]
theorem pr_trail (h : pAll l = some (x, r)) (hr : r ≠ []) : parseR l = none := by
  unfold parseR
  rw [h]
  cases r with
  | nil => exact absurd rfl hr
  | cons a s => simp
end

set_option maxRecDepth 20000 in
set_option maxHeartbeats 6400000 in
theorem qTake (g : Nat) (l : List UInt8) (w : World) (hr : Rs w.heap.size w g l) (hl : l.length ≤ 140737488355328) : Calls Try.prog 33 #[src g] w fun e w' => (∃ x V, pAll l = some (x, []) ∧ e = .returned (x.agg V) ∧ OwnR w.heap.size w' V x ∧ Kept [g] w w') ∨ (parseR l = none ∧ Gave e ∧ Kept [g] w w') := by
  have HLN := @hideH _ hl
  clear hl
  have hg := hr.rd.lt
  obtain ⟨w1, hw1⟩ : ∃ w1, w1 = (w.alloc (.cells #[.pointer (some ⟨g, 0, none⟩)] 64)).alloc (.cells #[.int .i64 0, .int .i64 0, .int .i64 0, .int .i64 0, .int .i64 0, .int .i64 0, .slice none 0 0, .slice none 0 0, .int .i64 0, .slice none 0 0, .slice none 0 0] 26) := ⟨_, rfl⟩
  have K1 : Kept [] w w1 := by rw [hw1]; exact ((Kept.refl [] w).alloc _).alloc _
  have BX : Blk w1 w.heap.size 64 [.pointer (some ⟨g, 0, none⟩)] := by rw [hw1]; exact (Blk.new w _ _).kept ((Kept.refl [] _).alloc _) (by simp)
  have BA : Blk w1 (w.heap.size + 1) 26 [.int .i64 0, .int .i64 0, .int .i64 0, .int .i64 0, .int .i64 0, .int .i64 0, .slice none 0 0, .slice none 0 0, .int .i64 0, .slice none 0 0, .slice none 0 0] := by rw [hw1]; have q := Blk.new (w.alloc (.cells #[.pointer (some ⟨g, 0, none⟩)] 64)) 26 [.int .i64 0, .int .i64 0, .int .i64 0, .int .i64 0, .int .i64 0, .int .i64 0, .slice none 0 0, .slice none 0 0, .int .i64 0, .slice none 0 0, .slice none 0 0]; rw [World.size_alloc] at q; exact q
  have S1 : Rs w.heap.size w1 g l := hr.kept K1
  have b1 := BX.cell (j := 0) rfl
  clear hr
  unfold src
  go_enter Try.func33, Try.ntmps33
  go_upto_region 1 with fail
  rw [← hw1]
  clear hw1
  go_wp2_with fail
  have hc := qNum1 _ g l w1 S1
  unfold src at hc
  refine hc.mono ?_
  clear hc
  rintro e w2 (⟨v, l1, h1, rfl, hr2, k2⟩ | ⟨hz, ⟨xz, rfl⟩, kz⟩)
  rotate_left
  · exact ⟨rfl, .inr ⟨pr_k0 hz, ⟨_, rfl⟩, ((Kept.refl [g] w).then K1).trans kz (fun x hx => .inl hx)⟩⟩
  have HV := @hideH _ (show v < 256 by have := (num_some h1).2.2; simpa using this)
  obtain ⟨w3, hw3⟩ : ∃ w3, w3 = w2.alloc (.cells #[.int .i64 (v : Int), .int .i64 0, .int .i64 0, .int .i64 0, .int .i64 0, .int .i64 0, .slice none 0 0, .slice none 0 0, .int .i64 0, .slice none 0 0, .slice none 0 0] 26) := ⟨_, rfl⟩
  have kA : Kept [] w2 w3 := by rw [hw3]; exact (Kept.refl [] w2).alloc _
  have BR : Blk w3 w2.heap.size 26 ((bareR v 0 0).cl nilV) := by rw [hw3]; exact Blk.new w2 _ _
  have nBg : w.heap.size ≠ g := by omega
  have nAg : w.heap.size + 1 ≠ g := by omega
  have sz2 : w.heap.size + 2 ≤ w2.heap.size := by have e1 := BA.lt; have e2 := k2.size; omega
  have BX3 := (BX.kept k2 (by simpa using nBg)).kept kA (by simp)
  have BA3 := (BA.kept k2 (by simpa using nAg)).kept kA (by simp)
  have T3 : TS w.heap.size w3 w3 g w2.heap.size w.heap.size l1 ((bareR v 0 0).cl nilV) := ⟨hr2.kept kA, BR, plain_bare _ _ _, by omega, BX3, ⟨nBg, by omega⟩, Kept.refl _ _⟩
  have K3 := @hideH _ (show Kept [g] w w3 from (((Kept.refl [g] w).then K1).trans k2 (fun x hx => .inl hx)).then kA)
  have SZ := @hideH _ (And.intro hg sz2)
  have H1 := @hideH _ h1
  have L1 := @hideH _ (Nat.le_trans (num_len h1) HLN.out)
  obtain ⟨R, hR⟩ : ∃ R, R = w2.heap.size := ⟨_, rfl⟩
  have HBA := @hideH _ BA3
  have szR : w2.heap.size < w3.heap.size := BR.lt
  clear BX BA BX3 BA3 S1 b1 k2 kA BR hr2 h1 nBg nAg sz2 K1 hg
  go_upto_region 2 with fail
  rw [← hw3]
  clear hw3
  rw [← hR] at T3 SZ szR ⊢
  clear hR
  go_wp2_with fail
  refine (qReaders _).mono ?_
  rintro e w4 ⟨rfl, BF, k4⟩
  have T4 := T3.then k4
  have HB4 := @hideH _ (HBA.out.kept k4 (by simp))
  have HBF := @hideH _ BF
  have GF := @hideH _ (show R < w3.heap.size from szR)
  clear T3 HBA BF k4 szR
  have c40 : w4.cell? ⟨R, 0, none⟩ = some (.int .i64 (v : Int)) := T4.blk.cell (j := 0) rfl
  by_cases hv : 1 ≤ v ∧ v ≤ 7
  rotate_left
  · have hno := @hideH _ (pr_kind H1.out hv)
    have KE := @hideH _ (show Kept [g] w w4 from K3.out.trans T4.kept (fun x hx => by simp at hx; rcases hx with q | q; exact .inl (by simp [q]); exact .inr (by have := SZ.out.2; omega)))
    by_cases hv1 : (v : Int) < 1
    · go_wp2_with fail
      refine (qGive 90 (by decide) _).mono ?_
      rintro e w5 ⟨rfl, rfl⟩
      exact ⟨rfl, .inr ⟨hno.out, ⟨_, rfl⟩, KE.out⟩⟩
    · have hv8 : (8 : Int) ≤ (v : Int) := by omega
      go_wp2_with fail
      refine (qGive 90 (by decide) _).mono ?_
      rintro e w5 ⟨rfl, rfl⟩
      exact ⟨rfl, .inr ⟨hno.out, ⟨_, rfl⟩, KE.out⟩⟩
  have hv1 : ¬ (v : Int) < 1 := by omega
  have hv8 : ¬ (8 : Int) ≤ (v : Int) := by omega
  have b4 := T4.bx
  have KT : ∀ {wx : World}, Kept [g, R] w3 wx → Kept [g] w wx := fun k => K3.out.trans k (fun x hx => by simp at hx; rcases hx with q | q; exact .inl (by simp [q]); exact .inr (by have := SZ.out.2; omega))
  have HKT := @hideH _ (@KT)
  skip
  go_wp2_with fail
  have hc := qEt _ g l1 w4 T4.rd
  unfold src at hc
  refine hc.mono ?_
  clear hc
  rintro e w5 (⟨b, l2, h2, rfl, hr, k⟩ | ⟨hz, ⟨xz, rfl⟩, kz⟩)
  rotate_left
  · exact ⟨rfl, .inr ⟨pr_b0 H1.out hz, ⟨_, rfl⟩, KT (kept_gR T4.kept kz)⟩⟩
  have T5 := T4.took hr k
  have HB5 := @hideH _ (HB4.out.kept k (by simp; have := SZ.out.1; omega))
  have HF5 := @hideH _ (HBF.out.kept k (by simp; have e1 := SZ.out.1; have e2 := K3.out.size; omega))
  clear HB4 HBF c40 b4 T4 hr k
  have cs := T5.blk.cell (j := 1) rfl
  have fs := T5.blk.free 1
  obtain ⟨w6, hw⟩ : ∃ wx, wx = w5.setCell ⟨R, 1, none⟩ (.int .i64 (b : Int)) := ⟨_, rfl⟩
  have T6 := T5.set 1 (.int .i64 (b : Int)) (int_not8 _)
  have kS := (T5.blk.set 1 (.int .i64 (b : Int))).2
  rw [← hw] at T6 kS
  have HB6 := @hideH _ (HB5.out.kept kS (by simp; have := SZ.out.2; omega))
  have HF6 := @hideH _ (HF5.out.kept kS (by simp; have := GF.out; omega))
  have bx := T6.bx
  clear T5 HB5 HF5 kS
  go_upto_region 6 with fail
  rw [← hw]
  clear hw cs fs
  go_wp2_with fail
  have hc := qEt _ g l2 w6 T6.rd
  unfold src at hc
  refine hc.mono ?_
  clear hc
  rintro e w7 (⟨p, l3, h3, rfl, hr, k⟩ | ⟨hz, ⟨xz, rfl⟩, kz⟩)
  rotate_left
  · exact ⟨rfl, .inr ⟨pr_p0 H1.out h2 hz, ⟨_, rfl⟩, KT (kept_gR T6.kept kz)⟩⟩
  have T7 := T6.took hr k
  have HB7 := @hideH _ (HB6.out.kept k (by simp; have := SZ.out.1; omega))
  have HF7 := @hideH _ (HF6.out.kept k (by simp; have e1 := SZ.out.1; have e2 := K3.out.size; omega))
  clear HB6 HF6 T6 hr k bx
  have cs := T7.blk.cell (j := 2) rfl
  have fs := T7.blk.free 2
  obtain ⟨w8, hw⟩ : ∃ wx, wx = w7.setCell ⟨R, 2, none⟩ (.int .i64 (p : Int)) := ⟨_, rfl⟩
  have T8 := T7.set 2 (.int .i64 (p : Int)) (int_not8 _)
  have kS := (T7.blk.set 2 (.int .i64 (p : Int))).2
  rw [← hw] at T8 kS
  have HB8 := @hideH _ (HB7.out.kept kS (by simp; have := SZ.out.2; omega))
  have HF8 := @hideH _ (HF7.out.kept kS (by simp; have := GF.out; omega))
  have bx := T8.bx
  clear T7 HB7 HF7 kS
  go_upto_region 7 with fail
  rw [← hw]
  clear hw cs fs
  have EQ := @hideH _ (pAll_eq H1.out h2 h3)
  have L3 := @hideH _ (Nat.le_trans (num_len h3) (Nat.le_trans (num_len h2) L1.out))
  clear h2 h3 bx
  have b0v : (0 : Int) ≤ (v : Int) := by omega
  have b8v : (v : Int) < 8 := by omega
  have cF := HF8.out.cell (fnCells_at hv.1 hv.2)
  have cK : w8.cell? ⟨R, 0, none⟩ = some (.int .i64 (v : Int)) := T8.blk.cell (j := 0) rfl
  have bx := T8.bx
  have hFn := fun (wz : World) (kz : Kept [] w8 wz) => qFn w.heap.size g R v b p l3 wz hv.1 hv.2 (T8.rd.kept kz) (T8.blk.kept kz (by simp)) T8.ne (by have e1 := K3.out.size; have e2 := T8.kept.size; have e3 := kz.size; omega) L3.out
  have hCF := fun args w => fnK_call hv.1 hv.2 args w
  generalize fnK v = F at hFn cF hCF
  unfold src at hFn
  have T9 := T8.then (Kept.refl [] w8).drew
  have kd : Kept [] w8 w8.drew := (Kept.refl [] w8).drew
  refine wp_region_late (fun w' => w'.cell? ⟨R, 0, none⟩ = some (.int .i64 (v : Int)) ∧ w'.cell? ⟨w3.heap.size, v, none⟩ = some (.func (.func F) #[] #[]) ∧ w'.cell? ⟨w.heap.size, 0, none⟩ = some (.pointer (some ⟨g, 0, none⟩))) 99 (by kernel_rfl) ?_
  have hS : w8.drew.cell? ⟨R, 0, none⟩ = some (.int .i64 (v : Int)) ∧ w8.drew.cell? ⟨w3.heap.size, v, none⟩ = some (.func (.func F) #[] #[]) ∧ w8.drew.cell? ⟨w.heap.size, 0, none⟩ = some (.pointer (some ⟨g, 0, none⟩)) := ⟨kd.cell cK (by simp), kd.cell cF (by simp), kd.cell bx (by simp)⟩
  refine wpAnyZ_take 0 (v := ?v0) rfl (by kernel_rfl) (by kernel_rfl) (by kernel_rfl) (by kernel_rfl) (fun _ _ _ h => h) (by rfl) ?hy0 hS ?rest0
  case hy0 => (intro wx hSx; obtain ⟨hs1, hs2, hs3⟩ := hSx; go_simp; (try with_reducible rfl))
  (try simp only [Act.put, List.setIfInBounds_toArray, List.set_cons_zero, List.set_cons_succ])
  refine wpAnyZ_take 1 (v := ?v1) rfl (by kernel_rfl) (by kernel_rfl) (by kernel_rfl) (by kernel_rfl) (fun _ _ _ h => h) (by rfl) ?hy1 hS ?rest1
  case hy1 => (intro wx hSx; obtain ⟨hs1, hs2, hs3⟩ := hSx; go_simp; (try with_reducible rfl))
  (try simp only [Act.put, List.setIfInBounds_toArray, List.set_cons_zero, List.set_cons_succ])
  refine wpAnyZ_take 2 (v := ?v2) rfl (by kernel_rfl) (by kernel_rfl) (by kernel_rfl) (by kernel_rfl) (fun _ _ _ h => h) (by rfl) ?hy2 hS ?rest2
  case hy2 => (intro wx hSx; obtain ⟨hs1, hs2, hs3⟩ := hSx; go_simp; (try with_reducible rfl))
  (try simp only [Act.put, List.setIfInBounds_toArray, List.set_cons_zero, List.set_cons_succ])
  refine wpAnyZ_take 3 (v := ?v3) rfl (by kernel_rfl) (by kernel_rfl) (by kernel_rfl) (by kernel_rfl) (fun _ _ _ h => h) (by rfl) ?hy3 hS ?rest3
  case hy3 => (intro wx hSx; obtain ⟨hs1, hs2, hs3⟩ := hSx; go_simp; (try with_reducible rfl))
  (try simp only [Act.put, List.setIfInBounds_toArray, List.set_cons_zero, List.set_cons_succ])
  refine wpAnyZ_take 4 (v := ?v4) rfl (by kernel_rfl) (by kernel_rfl) (by kernel_rfl) (by kernel_rfl) (fun _ _ _ h => h) (by rfl) ?hy4 hS ?rest4
  case hy4 => (intro wx hSx; obtain ⟨hs1, hs2, hs3⟩ := hSx; go_simp; (try with_reducible rfl))
  (try simp only [Act.put, List.setIfInBounds_toArray, List.set_cons_zero, List.set_cons_succ])
  refine wpAnyZ_take 5 (v := ?v5) rfl (by kernel_rfl) (by kernel_rfl) (by kernel_rfl) (by kernel_rfl) (fun _ _ _ h => h) (by rfl) ?hy5 hS ?rest5
  case hy5 => (intro wx hSx; obtain ⟨hs1, hs2, hs3⟩ := hSx; go_simp; (try with_reducible rfl))
  (try simp only [Act.put, List.setIfInBounds_toArray, List.set_cons_zero, List.set_cons_succ])
  refine wpAnyZ_one 6 rfl (by kernel_rfl) (fun K hK => ?_)
  go_simp
  refine (hFn _ kd).mono ?_
  clear hFn hCF
  rintro e w9 (⟨x, r, V, B', hp, rfl, T10, OW⟩ | ⟨hz, ⟨xz, rfl⟩, kz⟩)
  rotate_left
  · exact ⟨rfl, .inr ⟨pr_no (by rw [EQ.out]; exact hz), ⟨_, rfl⟩, KT (T9.kept.trans kz (fun x hx => .inl hx))⟩⟩
  have hS9 : w9.cell? ⟨R, 0, none⟩ = some (.int .i64 (v : Int)) ∧ w9.cell? ⟨w3.heap.size, v, none⟩ = some (.func (.func F) #[] #[]) ∧ w9.cell? ⟨w.heap.size, 0, none⟩ = some (.pointer (some ⟨g, 0, none⟩)) := ⟨by rw [← (pTail_some hp).2.1]; exact T10.blk.cell (j := 0) rfl, T10.kept.cell (kd.cell cF (by simp)) (by simp; have e1 := SZ.out.1; have e2 := K3.out.size; have e3 := GF.out; omega), (T9.box.kept T10.kept (by simp; have e1 := SZ.out; omega)).cell (j := 0) rfl⟩
  dsimp only
  refine hK _ _ (fun _ => hS9) ?_
  clear hK K hS9
  (try simp only [Act.put, List.setIfInBounds_toArray, List.set_cons_zero, List.set_cons_succ])
  refine wpAnyZ_done (by kernel_rfl) ?_ _
  have k9 := T10.kept
  have HB9 := @hideH _ ((HB8.out.kept kd (by simp)).kept k9 (by simp; have e1 := SZ.out; omega))
  have bx9 : w9.cell? ⟨w.heap.size, 0, none⟩ = some (.pointer (some ⟨g, 0, none⟩)) := (T9.box.kept k9 (by simp; have e1 := SZ.out; omega)).cell (j := 0) rfl
  have KE := @hideH _ (show Kept [g] w w9 from KT (T9.kept.trans k9 (fun x hx => .inl hx)))
  have HP := @hideH _ (show pAll l = some (x, r) by rw [EQ.out]; exact hp)
  have HOW := @hideH _ (OW.mono (show w.heap.size ≤ w8.drew.heap.size from Nat.le_trans K3.out.size T8.kept.size))
  have HGE := @hideH _ (fun (y : Nat) (hy : V.vb.ownBlock = some y ∨ V.va.ownBlock = some y ∨ V.vr.ownBlock = some y ∨ V.vd.ownBlock = some y) => (OW.ge hy).1)
  have HLT8 := @hideH _ (show R < w8.drew.heap.size from Nat.lt_of_lt_of_le GF.out T8.kept.size)
  have hE := fun (wz : World) (hz : Rs w.heap.size wz g r) => end_any g r wz hz.rd
  have R10 := T10.rd
  have HBR := @hideH _ T10.blk
  have HSH := @hideH _ OW.see.shapes
  clear hS cF cK bx T8 T9 T10 k9 hp kd OW
  by_cases hr0 : r = []
  rotate_left
  · have hE2 := hE w9 R10
    rw [if_neg (fun e => hr0 (List.eq_nil_of_length_eq_zero e))] at hE2
    have hno := @hideH _ (pr_trail HP.out hr0)
    clear hE R10 hr0
    go_wp2_with fail
    refine hE2.mono ?_
    rintro e w10 ⟨rfl, rfl⟩
    clear hE2
    go_wp2_with fail
    refine (qGive 11 (by decide) _).mono ?_
    rintro e w11 ⟨rfl, rfl⟩
    exact ⟨rfl, .inr ⟨hno.out, ⟨_, rfl⟩, KE.out⟩⟩
  subst hr0
  have hE2 := hE w9 R10
  rw [if_pos (by rfl)] at hE2
  clear hE R10
  go_wp2_with fail
  refine hE2.mono ?_
  rintro e w10 ⟨rfl, rfl⟩
  clear hE2
  go_wp2_with fail
  refine (qGive0 _).mono ?_
  rintro e w11 ⟨rfl, rfl⟩
  obtain ⟨pb, cb, pa, ca, pr, cr, pd, cd, hV⟩ := HSH.out
  subst hV
  clear HSH
  obtain ⟨kind, birth, prev, id, page, frm, before, after, next, rows, dirty⟩ := x
  dsimp only at HOW HBR HGE ⊢
  unfold Rcd.cl at HBR
  dsimp only at HBR
  have r0 := HBR.out.cell (j := 0) rfl
  have r1 := HBR.out.cell (j := 1) rfl
  have r2 := HBR.out.cell (j := 2) rfl
  have r3 := HBR.out.cell (j := 3) rfl
  have r4 := HBR.out.cell (j := 4) rfl
  have r5 := HBR.out.cell (j := 5) rfl
  have r6 := HBR.out.cell (j := 6) rfl
  have r7 := HBR.out.cell (j := 7) rfl
  have r8 := HBR.out.cell (j := 8) rfl
  have r9 := HBR.out.cell (j := 9) rfl
  have r10 := HBR.out.cell (j := 10) rfl
  have a0 := HB9.out.cell (j := 0) rfl
  have a1 := HB9.out.cell (j := 1) rfl
  have a2 := HB9.out.cell (j := 2) rfl
  have a3 := HB9.out.cell (j := 3) rfl
  have a4 := HB9.out.cell (j := 4) rfl
  have a5 := HB9.out.cell (j := 5) rfl
  have a6 := HB9.out.cell (j := 6) rfl
  have a7 := HB9.out.cell (j := 7) rfl
  have a8 := HB9.out.cell (j := 8) rfl
  have a9 := HB9.out.cell (j := 9) rfl
  have a10 := HB9.out.cell (j := 10) rfl
  have f0 := HB9.out.free 0
  have f1 := HB9.out.free 1
  have f2 := HB9.out.free 2
  have f3 := HB9.out.free 3
  have f4 := HB9.out.free 4
  have f5 := HB9.out.free 5
  have f6 := HB9.out.free 6
  have f7 := HB9.out.free 7
  have f8 := HB9.out.free 8
  have f9 := HB9.out.free 9
  have f10 := HB9.out.free 10
  obtain ⟨BF, kF⟩ := HB9.out.fill11 (.int .i64 kind) (.int .i64 birth) (.int .i64 prev) (.int .i64 id) (.int .i64 page) (.int .i64 frm) (.slice pb before.length cb) (.slice pa after.length ca) (.int .i64 next) (.slice pr rows.length cr) (.slice pd dirty.length cd)
  go_wp2
  obtain ⟨wF, hF⟩ : ∃ wF, wF = (((((((((((w11.setCell ⟨w.heap.size + 1, 0, none⟩ (.int .i64 kind)).setCell ⟨w.heap.size + 1, 1, none⟩ (.int .i64 birth)).setCell ⟨w.heap.size + 1, 2, none⟩ (.int .i64 prev)).setCell ⟨w.heap.size + 1, 3, none⟩ (.int .i64 id)).setCell ⟨w.heap.size + 1, 4, none⟩ (.int .i64 page)).setCell ⟨w.heap.size + 1, 5, none⟩ (.int .i64 frm)).setCell ⟨w.heap.size + 1, 6, none⟩ (.slice pb before.length cb)).setCell ⟨w.heap.size + 1, 7, none⟩ (.slice pa after.length ca)).setCell ⟨w.heap.size + 1, 8, none⟩ (.int .i64 next)).setCell ⟨w.heap.size + 1, 9, none⟩ (.slice pr rows.length cr)).setCell ⟨w.heap.size + 1, 10, none⟩ (.slice pd dirty.length cd)) := ⟨_, rfl⟩
  rw [← hF]
  rw [← hF] at BF kF
  clear hF
  have q0 := BF.cell (j := 0) rfl
  have q1 := BF.cell (j := 1) rfl
  have q2 := BF.cell (j := 2) rfl
  have q3 := BF.cell (j := 3) rfl
  have q4 := BF.cell (j := 4) rfl
  have q5 := BF.cell (j := 5) rfl
  have q6 := BF.cell (j := 6) rfl
  have q7 := BF.cell (j := 7) rfl
  have q8 := BF.cell (j := 8) rfl
  have q9 := BF.cell (j := 9) rfl
  have q10 := BF.cell (j := 10) rfl
  have OWF := @hideH _ (HOW.out.kept kF (fun y hy hm => by simp at hm; have e1 := HGE.out y hy; have e2 := HLT8.out; have e3 := SZ.out.2; omega))
  have KF := @hideH _ (KE.out.trans kF (fun x hx => .inr (by simp at hx; omega)))
  clear BF kF r0 a0 f0 r1 a1 f1 r2 a2 f2 r3 a3 f3 r4 a4 f4 r5 a5 f5 r6 a6 f6 r7 a7 f7 r8 a8 f8 r9 a9 f9 r10 a10 f10
  refine bodyPost_ret (by simp [results, Try.results33, go_sem, q0, q1, q2, q3, q4, q5, q6, q7, q8, q9, q10]; try rfl) rfl ?_
  exact .inl ⟨_, _, HP.out, rfl, OWF.out, KF.out⟩
end Go.Proofs.Ytebcmcmboomgfaa

/-
  OWN WORK (by mklw6.py). The document: Copied.
-/
namespace Go.Proofs.Ytebcmcmboomgfaa
open Go.RowKit
set_option linter.unusedVariables false
set_option linter.unusedSimpArgs false

def CopyCap (r : Rcd) : Prop := r.before.length ≤ 140737488355328 ∧ r.after.length ≤ 140737488355328 ∧ r.rows.length * 40 ≤ 140737488355328 ∧ r.dirty.length * 16 ≤ 140737488355328
set_option maxRecDepth 20000 in
set_option maxHeartbeats 6400000 in
theorem copied_any (Va : RV) (xa : Rcd) (w : World) (sa : SeeR w Va xa) (hcap : CopyCap xa) : Calls Try.prog 21 #[xa.agg Va] w fun e w' => ∃ V, e = .returned (xa.agg V) ∧ OwnR w.heap.size w' V xa ∧ Kept [] w w' := by
  obtain ⟨pba, cba, paa, caa, pra, cra, pda, cda, hVa⟩ := sa.shapes
  subst hVa
  have HSA := @hideH _ sa
  have HCAP := @hideH _ hcap
  clear sa hcap
  unfold Rcd.agg
  dsimp only
  obtain ⟨inf, hin1, hin2, hin3, hin4⟩ := info_parts3 (show (Try.prog.info? 66).map (fun i => (i.zero, i.size, i.bytes)) = some (some (.agg #[.int .i64 0, .int .i64 0, .int .i64 0, .int .i64 0, .int .i64 0]), 5, 40) by kernel_rfl)
  have HI := @hideH _ (And.intro hin1 (And.intro hin2 (And.intro hin3 hin4)))
  obtain ⟨inf2, hjn1, hjn2, hjn3, hjn4⟩ := info_parts3 (show (Try.prog.info? 68).map (fun i => (i.zero, i.size, i.bytes)) = some (some (.agg #[.int .i64 0, .int .i64 0]), 2, 16) by kernel_rfl)
  have HI2 := @hideH _ (And.intro hjn1 (And.intro hjn2 (And.intro hjn3 hjn4)))
  clear hin1 hin2 hin3 hin4 hjn1 hjn2 hjn3 hjn4
  obtain ⟨wa, hwa⟩ : ∃ wa, wa = ((w.alloc (.cells #[.int .i64 xa.kind, .int .i64 xa.birth, .int .i64 xa.prev, .int .i64 xa.id, .int .i64 xa.page, .int .i64 xa.frm, .slice pba xa.before.length cba, .slice paa xa.after.length caa, .int .i64 xa.next, .slice pra xa.rows.length cra, .slice pda xa.dirty.length cda] 26)).alloc (.cells #[.int .i64 0, .int .i64 0, .int .i64 0, .int .i64 0, .int .i64 0, .int .i64 0, .slice none 0 0, .slice none 0 0, .int .i64 0, .slice none 0 0, .slice none 0 0] 26)).alloc (.cells #[.int .i64 xa.kind, .int .i64 xa.birth, .int .i64 xa.prev, .int .i64 xa.id, .int .i64 xa.page, .int .i64 xa.frm, .slice none 0 0, .slice none 0 0, .int .i64 xa.next, .slice none 0 0, .slice none 0 0] 26) := ⟨_, rfl⟩
  have KA : Kept [] w wa := by rw [hwa]; exact (((Kept.refl [] w).alloc _).alloc _).alloc _
  have Ba : Blk wa w.heap.size 26 [.int .i64 xa.kind, .int .i64 xa.birth, .int .i64 xa.prev, .int .i64 xa.id, .int .i64 xa.page, .int .i64 xa.frm, .slice pba xa.before.length cba, .slice paa xa.after.length caa, .int .i64 xa.next, .slice pra xa.rows.length cra, .slice pda xa.dirty.length cda] := by rw [hwa]; exact (Blk.new w _ _).kept (((Kept.refl [] _).alloc _).alloc _) (by simp)
  have BO : Blk wa (w.heap.size + 1) 26 [.int .i64 0, .int .i64 0, .int .i64 0, .int .i64 0, .int .i64 0, .int .i64 0, .slice none 0 0, .slice none 0 0, .int .i64 0, .slice none 0 0, .slice none 0 0] := by rw [hwa]; have q := Blk.new (w.alloc (.cells #[.int .i64 xa.kind, .int .i64 xa.birth, .int .i64 xa.prev, .int .i64 xa.id, .int .i64 xa.page, .int .i64 xa.frm, .slice pba xa.before.length cba, .slice paa xa.after.length caa, .int .i64 xa.next, .slice pra xa.rows.length cra, .slice pda xa.dirty.length cda] 26)) 26 [.int .i64 0, .int .i64 0, .int .i64 0, .int .i64 0, .int .i64 0, .int .i64 0, .slice none 0 0, .slice none 0 0, .int .i64 0, .slice none 0 0, .slice none 0 0]; rw [World.size_alloc] at q; exact q.kept ((Kept.refl [] _).alloc _) (by simp)
  have BC : Blk wa (w.heap.size + 2) 26 [.int .i64 xa.kind, .int .i64 xa.birth, .int .i64 xa.prev, .int .i64 xa.id, .int .i64 xa.page, .int .i64 xa.frm, .slice none 0 0, .slice none 0 0, .int .i64 xa.next, .slice none 0 0, .slice none 0 0] := by rw [hwa]; have q := Blk.new ((w.alloc (.cells #[.int .i64 xa.kind, .int .i64 xa.birth, .int .i64 xa.prev, .int .i64 xa.id, .int .i64 xa.page, .int .i64 xa.frm, .slice pba xa.before.length cba, .slice paa xa.after.length caa, .int .i64 xa.next, .slice pra xa.rows.length cra, .slice pda xa.dirty.length cda] 26)).alloc (.cells #[.int .i64 0, .int .i64 0, .int .i64 0, .int .i64 0, .int .i64 0, .int .i64 0, .slice none 0 0, .slice none 0 0, .int .i64 0, .slice none 0 0, .slice none 0 0] 26)) 26 [.int .i64 xa.kind, .int .i64 xa.birth, .int .i64 xa.prev, .int .i64 xa.id, .int .i64 xa.page, .int .i64 xa.frm, .slice none 0 0, .slice none 0 0, .int .i64 xa.next, .slice none 0 0, .slice none 0 0]; rw [World.size_alloc, World.size_alloc] at q; exact q
  have sC : w.heap.size + 2 < wa.heap.size := BC.lt
  go_enter Try.func21, Try.ntmps21
  go_upto_region 6 with fail
  rw [← hwa]
  clear hwa
  have K0 : Kept [] wa wa := Kept.refl _ _
  have cb := Ba.cell (j := 6) rfl
  have cc : wa.cell? ⟨w.heap.size + 2, 6, none⟩ = some (.slice none 0 0) := BC.cell (j := 6) rfl
  have hs := HSA.out.before.kept KA
  go_upto_region 7 with (at_builtin; refine wpList_append_bs rfl (.tmp 10) (.tmp 12) 22 rfl wa.heap.size 5 Try.underlying22 (by kernel_rfl) _ _ _ (by rfl) (own_nil wa wa.heap.size) _ xa.before (by rfl) hs (by have := HCAP.out; unfold CopyCap at this; omega) (Nat.le_refl _) ?_; intro v1 y1 o1 g1 at1; have ky1 : Kept [] wa y1 := (Kept.refl [] wa).grown g1 (fun y hy => by cases hy); rw [Nat.zero_add, show u8s [] ++ u8s xa.before = u8s xa.before from rfl] at o1; obtain ⟨p1, q1, hv1⟩ := own_shape2 o1; subst hv1; have bc1 := BC.kept ky1 (by simp); have cw := bc1.cell (j := 6) rfl; have fw := bc1.free 6; obtain ⟨x1, hx1⟩ : ∃ wx, wx = y1.setCell ⟨w.heap.size + 2, 6, none⟩ (.slice p1 xa.before.length q1) := ⟨_, rfl⟩)
  rw [← hx1]
  obtain ⟨bs1, ks1⟩ := bc1.set 6 (.slice p1 xa.before.length q1)
  rw [← hx1] at bs1 ks1
  dsimp only [List.set] at bs1
  have lt1 := fun y hy => own_lt o1 y hy
  have sy1 := ky1.size
  have sx1 := ks1.size
  have nC1 : ∀ y, wa.heap.size ≤ y → y ∉ [w.heap.size + 2] := fun y hy hm => by simp at hm; have e1 := Nat.le_refl wa.heap.size; omega
  have f1 := own_of_kept o1 ks1 (fun y hy => nC1 y (own_ge o1 y hy))
  have Ba1 := (Ba.kept ky1 (by simp)).kept ks1 (by simp)
  have BO1 := (BO.kept ky1 (by simp)).kept ks1 (by simp)
  have KK1 := (KA.then ky1).trans ks1 (fun y hy => .inr (by simp at hy; omega))
  have szz1 : wa.heap.size ≤ x1.heap.size := by have e1 := Nat.le_refl wa.heap.size; omega
  have ge1 := fun y hy => own_ge o1 y hy
  clear hx1 cw fw cb cc hs bc1 ky1 ks1 g1 at1 o1
  have cb := Ba1.cell (j := 7) rfl
  have cc : x1.cell? ⟨w.heap.size + 2, 7, none⟩ = some (.slice none 0 0) := bs1.cell (j := 7) rfl
  have hs := HSA.out.after.kept KK1
  go_upto_region 8 with (at_builtin; refine wpList_append_bs rfl (.tmp 16) (.tmp 18) 22 rfl x1.heap.size 5 Try.underlying22 (by kernel_rfl) _ _ _ (by rfl) (own_nil x1 x1.heap.size) _ xa.after (by rfl) hs (by have := HCAP.out; unfold CopyCap at this; omega) (Nat.le_refl _) ?_; intro v2 y2 o2 g2 at2; have ky2 : Kept [] x1 y2 := (Kept.refl [] x1).grown g2 (fun y hy => by cases hy); rw [Nat.zero_add, show u8s [] ++ u8s xa.after = u8s xa.after from rfl] at o2; obtain ⟨p2, q2, hv2⟩ := own_shape2 o2; subst hv2; have bc2 := bs1.kept ky2 (by simp); have cw := bc2.cell (j := 7) rfl; have fw := bc2.free 7; obtain ⟨x2, hx2⟩ : ∃ wx, wx = y2.setCell ⟨w.heap.size + 2, 7, none⟩ (.slice p2 xa.after.length q2) := ⟨_, rfl⟩)
  rw [← hx2]
  obtain ⟨bs2, ks2⟩ := bc2.set 7 (.slice p2 xa.after.length q2)
  rw [← hx2] at bs2 ks2
  dsimp only [List.set] at bs2
  have lt2 := fun y hy => own_lt o2 y hy
  have sy2 := ky2.size
  have sx2 := ks2.size
  have nC2 : ∀ y, x1.heap.size ≤ y → y ∉ [w.heap.size + 2] := fun y hy hm => by simp at hm; have e1 := szz1; omega
  have f2 := own_of_kept o2 ks2 (fun y hy => nC2 y (own_ge o2 y hy))
  have Ba2 := (Ba1.kept ky2 (by simp)).kept ks2 (by simp)
  have BO2 := (BO1.kept ky2 (by simp)).kept ks2 (by simp)
  have KK2 := (KK1.then ky2).trans ks2 (fun y hy => .inr (by simp at hy; omega))
  have szz2 : wa.heap.size ≤ x2.heap.size := by have e1 := szz1; omega
  replace f1 := own_of_kept (own_of_kept f1 ky2 (by simp)) ks2 (fun y hy => nC1 y (own_ge f1 y hy))
  have ge2 := fun y hy => own_ge o2 y hy
  clear hx2 cw fw cb cc hs bc2 ky2 ks2 g2 at2 o2
  have cb := Ba2.cell (j := 9) rfl
  have cc : x2.cell? ⟨w.heap.size + 2, 9, none⟩ = some (.slice none 0 0) := bs2.cell (j := 9) rfl
  have hs := Src.ofCs (P := Try.prog) Try.underlying23 (HSA.out.rows.kept KK2)
  go_upto_region 9 with (at_builtin; refine wpList_append_row rfl (.tmp 22) (.tmp 24) 23 rfl x2.heap.size 66 inf (.agg #[.int .i64 0, .int .i64 0, .int .i64 0, .int .i64 0, .int .i64 0]) 5 40 Try.underlying23 HI.out.1 HI.out.2.1 HI.out.2.2.1 HI.out.2.2.2 rfl _ 0 [] (by rfl) (Row.nil x2 x2.heap.size 5) _ xa.rows.length (rcells xa.rows) (by rfl) hs (by have := HCAP.out; unfold CopyCap at this; omega) (by have := HCAP.out; unfold CopyCap at this; unfold maxLen; omega) (by have := HCAP.out; unfold CopyCap at this; omega) (Nat.le_refl _) ?_; intro v3 y3 o3 g3 at3; have ky3 : Kept [] x2 y3 := g3; rw [Nat.zero_add, List.nil_append] at o3; obtain ⟨p3, q3, hv3, -⟩ := o3.shape; subst hv3; have bc3 := bs2.kept ky3 (by simp); have cw := bc3.cell (j := 9) rfl; have fw := bc3.free 9; obtain ⟨x3, hx3⟩ : ∃ wx, wx = y3.setCell ⟨w.heap.size + 2, 9, none⟩ (.slice p3 xa.rows.length q3) := ⟨_, rfl⟩)
  rw [← hx3]
  obtain ⟨bs3, ks3⟩ := bc3.set 9 (.slice p3 xa.rows.length q3)
  rw [← hx3] at bs3 ks3
  dsimp only [List.set] at bs3
  have lt3 := fun y hy => (o3.lt y hy).2
  have sy3 := ky3.size
  have sx3 := ks3.size
  have nC3 : ∀ y, x2.heap.size ≤ y → y ∉ [w.heap.size + 2] := fun y hy hm => by simp at hm; have e1 := szz2; omega
  have f3 := o3.kept ks3 (fun y hy => nC3 y (o3.lt y hy).1)
  have Ba3 := (Ba2.kept ky3 (by simp)).kept ks3 (by simp)
  have BO3 := (BO2.kept ky3 (by simp)).kept ks3 (by simp)
  have KK3 := (KK2.then ky3).trans ks3 (fun y hy => .inr (by simp at hy; omega))
  have szz3 : wa.heap.size ≤ x3.heap.size := by have e1 := szz2; omega
  replace f1 := own_of_kept (own_of_kept f1 ky3 (by simp)) ks3 (fun y hy => nC1 y (own_ge f1 y hy))
  replace f2 := own_of_kept (own_of_kept f2 ky3 (by simp)) ks3 (fun y hy => nC2 y (own_ge f2 y hy))
  have ge3 := fun y hy => (o3.lt y hy).1
  clear hx3 cw fw cb cc hs bc3 ky3 ks3 g3 at3 o3
  have cb := Ba3.cell (j := 10) rfl
  have cc : x3.cell? ⟨w.heap.size + 2, 10, none⟩ = some (.slice none 0 0) := bs3.cell (j := 10) rfl
  have hs := Src.ofCs (P := Try.prog) Try.underlying24 (HSA.out.dirty.kept KK3)
  go_upto_region 10 with (at_builtin; refine wpList_append_row rfl (.tmp 28) (.tmp 30) 24 rfl x3.heap.size 68 inf2 (.agg #[.int .i64 0, .int .i64 0]) 2 16 Try.underlying24 HI2.out.1 HI2.out.2.1 HI2.out.2.2.1 HI2.out.2.2.2 rfl _ 0 [] (by rfl) (Row.nil x3 x3.heap.size 2) _ xa.dirty.length (dcells xa.dirty) (by rfl) hs (by have := HCAP.out; unfold CopyCap at this; omega) (by have := HCAP.out; unfold CopyCap at this; unfold maxLen; omega) (by have := HCAP.out; unfold CopyCap at this; omega) (Nat.le_refl _) ?_; intro v4 y4 o4 g4 at4; have ky4 : Kept [] x3 y4 := g4; rw [Nat.zero_add, List.nil_append] at o4; obtain ⟨p4, q4, hv4, -⟩ := o4.shape; subst hv4; have bc4 := bs3.kept ky4 (by simp); have cw := bc4.cell (j := 10) rfl; have fw := bc4.free 10; obtain ⟨x4, hx4⟩ : ∃ wx, wx = y4.setCell ⟨w.heap.size + 2, 10, none⟩ (.slice p4 xa.dirty.length q4) := ⟨_, rfl⟩)
  rw [← hx4]
  obtain ⟨bs4, ks4⟩ := bc4.set 10 (.slice p4 xa.dirty.length q4)
  rw [← hx4] at bs4 ks4
  dsimp only [List.set] at bs4
  have lt4 := fun y hy => (o4.lt y hy).2
  have sy4 := ky4.size
  have sx4 := ks4.size
  have nC4 : ∀ y, x3.heap.size ≤ y → y ∉ [w.heap.size + 2] := fun y hy hm => by simp at hm; have e1 := szz3; omega
  have f4 := o4.kept ks4 (fun y hy => nC4 y (o4.lt y hy).1)
  have Ba4 := (Ba3.kept ky4 (by simp)).kept ks4 (by simp)
  have BO4 := (BO3.kept ky4 (by simp)).kept ks4 (by simp)
  have KK4 := (KK3.then ky4).trans ks4 (fun y hy => .inr (by simp at hy; omega))
  have szz4 : wa.heap.size ≤ x4.heap.size := by have e1 := szz3; omega
  replace f1 := own_of_kept (own_of_kept f1 ky4 (by simp)) ks4 (fun y hy => nC1 y (own_ge f1 y hy))
  replace f2 := own_of_kept (own_of_kept f2 ky4 (by simp)) ks4 (fun y hy => nC2 y (own_ge f2 y hy))
  replace f3 := (f3.kept ky4 (by simp)).kept ks4 (fun y hy => nC3 y (f3.lt y hy).1)
  have ge4 := fun y hy => (o4.lt y hy).1
  clear hx4 cw fw cb cc hs bc4 ky4 ks4 g4 at4 o4
  have z0 := bs4.cell (j := 0) rfl
  have z1 := bs4.cell (j := 1) rfl
  have z2 := bs4.cell (j := 2) rfl
  have z3 := bs4.cell (j := 3) rfl
  have z4 := bs4.cell (j := 4) rfl
  have z5 := bs4.cell (j := 5) rfl
  have z6 := bs4.cell (j := 6) rfl
  have z7 := bs4.cell (j := 7) rfl
  have z8 := bs4.cell (j := 8) rfl
  have z9 := bs4.cell (j := 9) rfl
  have z10 := bs4.cell (j := 10) rfl
  have a0 := BO4.cell (j := 0) rfl
  have a1 := BO4.cell (j := 1) rfl
  have a2 := BO4.cell (j := 2) rfl
  have a3 := BO4.cell (j := 3) rfl
  have a4 := BO4.cell (j := 4) rfl
  have a5 := BO4.cell (j := 5) rfl
  have a6 := BO4.cell (j := 6) rfl
  have a7 := BO4.cell (j := 7) rfl
  have a8 := BO4.cell (j := 8) rfl
  have a9 := BO4.cell (j := 9) rfl
  have a10 := BO4.cell (j := 10) rfl
  have t0 := BO4.free 0
  have t1 := BO4.free 1
  have t2 := BO4.free 2
  have t3 := BO4.free 3
  have t4 := BO4.free 4
  have t5 := BO4.free 5
  have t6 := BO4.free 6
  have t7 := BO4.free 7
  have t8 := BO4.free 8
  have t9 := BO4.free 9
  have t10 := BO4.free 10
  obtain ⟨bO, kO⟩ := BO4.fill11 (.int .i64 xa.kind) (.int .i64 xa.birth) (.int .i64 xa.prev) (.int .i64 xa.id) (.int .i64 xa.page) (.int .i64 xa.frm) (.slice p1 xa.before.length q1) (.slice p2 xa.after.length q2) (.int .i64 xa.next) (.slice p3 xa.rows.length q3) (.slice p4 xa.dirty.length q4)
  obtain ⟨xF, hxF⟩ : ∃ wx, wx = (((((((((((x4.setCell ⟨w.heap.size + 1, 0, none⟩ (.int .i64 xa.kind)).setCell ⟨w.heap.size + 1, 1, none⟩ (.int .i64 xa.birth)).setCell ⟨w.heap.size + 1, 2, none⟩ (.int .i64 xa.prev)).setCell ⟨w.heap.size + 1, 3, none⟩ (.int .i64 xa.id)).setCell ⟨w.heap.size + 1, 4, none⟩ (.int .i64 xa.page)).setCell ⟨w.heap.size + 1, 5, none⟩ (.int .i64 xa.frm)).setCell ⟨w.heap.size + 1, 6, none⟩ (.slice p1 xa.before.length q1)).setCell ⟨w.heap.size + 1, 7, none⟩ (.slice p2 xa.after.length q2)).setCell ⟨w.heap.size + 1, 8, none⟩ (.int .i64 xa.next)).setCell ⟨w.heap.size + 1, 9, none⟩ (.slice p3 xa.rows.length q3)).setCell ⟨w.heap.size + 1, 10, none⟩ (.slice p4 xa.dirty.length q4)) := ⟨_, rfl⟩
  rw [← hxF] at bO kO
  have nA : ∀ y, wa.heap.size ≤ y → y ∉ [w.heap.size + 1] := fun y hy hm => by simp at hm; omega
  have FIN := @hideH _ (And.intro (show OwnR w.heap.size xF ⟨.slice p1 xa.before.length q1, .slice p2 xa.after.length q2, .slice p3 xa.rows.length q3, .slice p4 xa.dirty.length q4⟩ xa from ⟨own_mono (own_of_kept f1 kO (fun y hy => nA y (ge1 y hy))) KA.size, own_mono (own_of_kept f2 kO (fun y hy => nA y (Nat.le_trans szz1 (ge2 y hy)))) (Nat.le_trans KA.size szz1), (f3.kept kO (fun y hy => nA y (Nat.le_trans szz2 (ge3 y hy)))).mono (Nat.le_trans KA.size szz2), (f4.kept kO (fun y hy => nA y (Nat.le_trans szz3 (ge4 y hy)))).mono (Nat.le_trans KA.size szz3), fun y h1 h2 => by have e1 := lt1 y h1; have e2 := ge2 y h2; omega, fun y h1 h2 => by have e1 := lt1 y h1; have e2 := ge3 y h2; omega, fun y h1 h2 => by have e1 := lt1 y h1; have e2 := ge4 y h2; omega, fun y h1 h2 => by have e1 := lt2 y h1; have e2 := ge3 y h2; omega, fun y h1 h2 => by have e1 := lt2 y h1; have e2 := ge4 y h2; omega, fun y h1 h2 => by have e1 := lt3 y h1; have e2 := ge4 y h2; omega⟩) (show Kept [] w xF from KK4.trans kO (fun y hy => .inr (by simp at hy; omega))))
  clear f1 f2 f3 f4 lt1 lt2 lt3 lt4 ge1 ge2 ge3 ge4 kO nA bs4 BO4 Ba1 KK1 nC1 Ba2 KK2 nC2 Ba3 KK3 nC3 Ba4 KK4 nC4
  go_wp2
  rw [← hxF]
  clear hxF z0 a0 t0 z1 a1 t1 z2 a2 t2 z3 a3 t3 z4 a4 t4 z5 a5 t5 z6 a6 t6 z7 a7 t7 z8 a8 t8 z9 a9 t9 z10 a10 t10
  have q0' := bO.cell (j := 0) rfl
  have q1' := bO.cell (j := 1) rfl
  have q2' := bO.cell (j := 2) rfl
  have q3' := bO.cell (j := 3) rfl
  have q4' := bO.cell (j := 4) rfl
  have q5' := bO.cell (j := 5) rfl
  have q6' := bO.cell (j := 6) rfl
  have q7' := bO.cell (j := 7) rfl
  have q8' := bO.cell (j := 8) rfl
  have q9' := bO.cell (j := 9) rfl
  have q10' := bO.cell (j := 10) rfl
  clear bO
  refine bodyPost_ret (by simp [results, Try.results21, go_sem, q0', q1', q2', q3', q4', q5', q6', q7', q8', q9', q10']; try rfl) rfl ?_
  exact ⟨_, rfl, FIN.out⟩
end Go.Proofs.Ytebcmcmboomgfaa

/-
  OWN WORK. The law's spoilt: what stands in memory.
-/
namespace Go.Proofs.Ytebcmcmboomgfaa
open Go.RowKit
set_option linter.unusedVariables false
set_option linter.unusedSimpArgs false

def hasB (V : RV) (y : Nat) : Prop := V.vb.ownBlock = some y ∨ V.va.ownBlock = some y ∨ V.vr.ownBlock = some y ∨ V.vd.ownBlock = some y
theorem Bs.keptS {w w' : World} {v : Value} {l : List UInt8} {S : List Nat} (h : Bs w v l) (k : Kept S w w') (hS : ∀ x, v.ownBlock = some x → x ∉ S) : Bs w' v l := h.carry fun a x hx hb => k.cell hx (hS _ hb)
theorem Cs.keptS {w w' : World} {sz n : Nat} {v : Value} {cs : List Value} {S : List Nat} (h : Cs w sz v n cs) (k : Kept S w w') (hS : ∀ x, v.ownBlock = some x → x ∉ S) : Cs w' sz v n cs := by
  obtain ⟨h1, h2, p, c, rfl, h3, h4, h5, h6⟩ := h
  refine ⟨h1, h2, p, c, rfl, h3, h4, h5, fun a ha j u hu => k.cell (h6 a ha j u hu) ?_⟩
  rw [add_block]
  exact hS _ (by subst ha; rfl)
theorem SeeR.keptS {w w' : World} {V : RV} {r : Rcd} {S : List Nat} (h : SeeR w V r) (k : Kept S w w') (hS : ∀ y, hasB V y → y ∉ S) : SeeR w' V r :=
  ⟨h.before.keptS k fun x hx => hS x (.inl hx), h.after.keptS k fun x hx => hS x (.inr (.inl hx)), h.rows.keptS k fun x hx => hS x (.inr (.inr (.inl hx))), h.dirty.keptS k fun x hx => hS x (.inr (.inr (.inr hx)))⟩
def pcells : List (RV × Rcd) → List Value
  | [] => []
  | p :: r => p.2.cl p.1 ++ pcells r
theorem pcells_append (a b : List (RV × Rcd)) : pcells (a ++ b) = pcells a ++ pcells b := by
  induction a with
  | nil => rfl
  | cons x r ih => simp [pcells, ih]
theorem cl_length (r : Rcd) (V : RV) : (r.cl V).length = 11 := rfl
theorem pcells_at : ∀ {xs : List (RV × Rcd)} {i : Nat} {p : RV × Rcd}, xs[i]? = some p → ∀ (j : Nat) u, (p.2.cl p.1)[j]? = some u → (pcells xs)[i * 11 + j]? = some u
  | [], i, p, h, j, u, hu => by simp at h
  | y :: r, 0, p, h, j, u, hu => by
    simp at h
    subst h
    have hj := (List.getElem?_eq_some_iff.1 hu).1
    simp only [pcells, Nat.zero_mul, Nat.zero_add]
    rw [List.getElem?_append_left hj]
    exact hu
  | y :: r, i + 1, p, h, j, u, hu => by
    have q := pcells_at (xs := r) (i := i) (p := p) (by simpa using h) j u hu
    simp only [pcells]
    rw [List.getElem?_append_right (by rw [cl_length]; omega), cl_length, show (i + 1) * 11 + j - 11 = i * 11 + j by omega]
    exact q
theorem cl_one {w : World} {V : RV} {r : Rcd} (h : SeeR w V r) : ∀ u ∈ r.cl V, u.oneCell' = true := by
  obtain ⟨pb, cb, pa, ca, pr, cr, pd, cd, rfl⟩ := h.shapes
  intro u hu
  simp only [Rcd.cl, List.mem_cons, List.not_mem_nil, or_false] at hu
  rcases hu with rfl | rfl | rfl | rfl | rfl | rfl | rfl | rfl | rfl | rfl | rfl <;> rfl
/-- the variable x (block X), the list v of the records xs so far -/
structure Spo (w0 w : World) (X : Nat) (x : Rcd) (Vx : RV) (v : Value) (N : Nat) (xs : List (RV × Rcd)) : Prop where
  blk : Blk w X 26 (x.cl Vx)
  see : SeeR w Vx x
  len : xs.length = N
  row : Row w w0.heap.size 11 v N (pcells xs)
  all : ∀ p ∈ xs, SeeR w p.1 p.2 ∧ ¬ p.2.Right
  sep : ∀ p ∈ xs, ∀ y, hasB p.1 y → y ≠ X ∧ v.ownBlock ≠ some y ∧ y < w.heap.size
  sepx : ∀ y, hasB Vx y → y ≠ X ∧ v.ownBlock ≠ some y ∧ y < w.heap.size
  sepv : v.ownBlock ≠ some X
  kept : Kept [] w0 w
  lo : w0.heap.size ≤ X
theorem Spo.set {w0 w : World} {X N : Nat} {x : Rcd} {Vx : RV} {v : Value} {xs : List (RV × Rcd)} (h : Spo w0 w X x Vx v N xs) (j : Nat) (z : Int) (x' : Rcd) (hcl : x'.cl Vx = (x.cl Vx).set j (.int .i64 z)) (hl : x'.before = x.before ∧ x'.after = x.after ∧ x'.rows = x.rows ∧ x'.dirty = x.dirty) : Spo w0 (w.setCell ⟨X, j, none⟩ (.int .i64 z)) X x' Vx v N xs := by
  obtain ⟨b, k⟩ := h.blk.set j (.int .i64 z)
  have s := h.see.keptS k fun y hy hm => (h.sepx y hy).1 (by simpa using hm)
  refine ⟨by rw [hcl]; exact b, ⟨by rw [hl.1]; exact s.before, by rw [hl.2.1]; exact s.after, by rw [hl.2.2.1]; exact s.rows, by rw [hl.2.2.2]; exact s.dirty⟩, h.len, h.row.kept k fun y hy hm => h.sepv (by simp at hm; rw [← hm]; exact hy), fun p hp => ⟨(h.all p hp).1.keptS k fun y hy hm => (h.sep p hp y hy).1 (by simpa using hm), (h.all p hp).2⟩, fun p hp y hy => ?_, fun y hy => ?_, h.sepv, h.kept.trans k fun y hy => .inr (by simp at hy; rw [hy]; exact h.lo), h.lo⟩
  · exact ⟨(h.sep p hp y hy).1, (h.sep p hp y hy).2.1, Nat.lt_of_lt_of_le (h.sep p hp y hy).2.2 k.size⟩
  · exact ⟨(h.sepx y hy).1, (h.sepx y hy).2.1, Nat.lt_of_lt_of_le (h.sepx y hy).2.2 k.size⟩
theorem Spo.push {w0 w wq w' : World} {X N M : Nat} {x : Rcd} {Vx : RV} {v v' : Value} {xs : List (RV × Rcd)} (h : Spo w0 w X x Vx v N xs) (hbad : ¬ x.Right) (hM : N + 1 = M) (kq : Kept [] w wq) (r' : Row w' w0.heap.size 11 v' (N + 1) (pcells xs ++ x.cl Vx)) (k' : Kept v.ownBlock.toList wq w') (a' : v'.ownBlock = v.ownBlock ∨ v'.ownBlock = some wq.heap.size) :
    ∃ p' c' ys, v' = .slice p' M c' ∧ Spo w0 w' X x Vx (.slice p' M c') M ys := by
  subst hM
  obtain ⟨p', c', rfl, -⟩ := r'.shape
  have hs := kq.size
  have hs' := k'.size
  have sepT : ∀ y, y ≠ X ∧ v.ownBlock ≠ some y ∧ y < w.heap.size → y ≠ X ∧ (Value.slice p' (N + 1) c').ownBlock ≠ some y ∧ y < w'.heap.size := fun y ⟨q1, q2, q3⟩ => ⟨q1, fun e => (by rcases a' with a | a; exact q2 (a ▸ e); rw [a] at e; cases e; omega), by omega⟩
  refine ⟨p', c', xs ++ [(Vx, x)], rfl, (h.blk.kept kq (by simp)).kept k' fun hm => h.sepv (by simpa using hm), (h.see.kept kq).keptS k' fun y hy hm => (h.sepx y hy).2.1 (by simpa using hm), by simp [h.len], ?_, fun p hp => ?_, fun p hp y hy => ?_, fun y hy => sepT y (h.sepx y hy), ?_, (h.kept.then kq).trans k' fun y hy => .inr (h.row.lt y (by simpa using hy)).1, h.lo⟩
  · rw [pcells_append]
    simp only [pcells, List.append_nil]
    exact r'
  · rcases List.mem_append.1 hp with q | q
    · exact ⟨((h.all p q).1.kept kq).keptS k' fun y hy hm => (h.sep p q y hy).2.1 (by simpa using hm), (h.all p q).2⟩
    · simp at q
      subst q
      exact ⟨(h.see.kept kq).keptS k' fun y hy hm => (h.sepx y hy).2.1 (by simpa using hm), hbad⟩
  · rcases List.mem_append.1 hp with q | q
    · exact sepT y (h.sep p q y hy)
    · simp at q
      subst q
      exact sepT y (h.sepx y hy)
  · intro e
    rcases a' with a | a
    · exact h.sepv (a ▸ e)
    · rw [a] at e
      have := h.blk.lt
      cases e
      omega
/-- x's lists are newer than all else -/
structure Frs (b : Nat) (X : Nat) (Vx : RV) (v : Value) (xs : List (RV × Rcd)) : Prop where
  own : ∀ y, hasB Vx y → b ≤ y
  old : ∀ p ∈ xs, ∀ y, hasB p.1 y → y < b
  row : ∀ y, v.ownBlock = some y → y < b
  blk : X < b
theorem Spo.copy {w0 w wq w2 : World} {X N : Nat} {x r : Rcd} {Vx V : RV} {v : Value} {xs : List (RV × Rcd)} (h : Spo w0 w X x Vx v N xs) (kq : Kept [] w wq) (hO : OwnR w.heap.size wq V r) (b2 : Blk w2 X 26 (r.cl V)) (k2 : Kept [X] wq w2) : Spo w0 w2 X r V v N xs ∧ OwnR w.heap.size w2 V r ∧ Frs w.heap.size X V v xs := by
  have hX := h.blk.lt
  have hs := kq.size
  have hs2 := k2.size
  have geV : ∀ y, hasB V y → w.heap.size ≤ y ∧ y < wq.heap.size := fun y hy => hO.ge hy
  have hO2 := hO.kept k2 fun y hy hm => by simp at hm; have := (hO.ge hy).1; omega
  refine ⟨⟨b2, hO2.see, h.len, (h.row.kept kq (by simp)).kept k2 fun y hy hm => h.sepv (by simp at hm; rw [← hm]; exact hy), fun p hp => ⟨((h.all p hp).1.kept kq).keptS k2 fun y hy hm => (h.sep p hp y hy).1 (by simpa using hm), (h.all p hp).2⟩, fun p hp y hy => ⟨(h.sep p hp y hy).1, (h.sep p hp y hy).2.1, by have := (h.sep p hp y hy).2.2; omega⟩, fun y hy => ⟨by have := geV y hy; omega, fun e => by have e1 := (h.row.lt y e).2; have := geV y hy; omega, by have := geV y hy; omega⟩, h.sepv, (h.kept.then kq).trans k2 fun y hy => .inr (by simp at hy; rw [hy]; exact h.lo), h.lo⟩, hO2, ⟨fun y hy => (geV y hy).1, fun p hp y hy => (h.sep p hp y hy).2.2, fun y hy => (h.row.lt y hy).2, hX⟩⟩
theorem Spo.turn {w0 w w1 w2 : World} {X N b : Nat} {x x' : Rcd} {Vx V' : RV} {v : Value} {xs : List (RV × Rcd)} {S : List Nat} (h : Spo w0 w X x Vx v N xs) (f : Frs b X Vx v xs) (k : Kept S w w1) (hS : ∀ s ∈ S, b ≤ s) (see' : SeeR w1 V' x') (hB : ∀ y, hasB V' y → b ≤ y ∧ y < w1.heap.size) (k2 : Kept [X] w1 w2) (b2 : Blk w2 X 26 (x'.cl V')) : Spo w0 w2 X x' V' v N xs := by
  have hs := k.size
  have hs2 := k2.size
  have hX := f.blk
  have nS : ∀ y, y < b → y ∉ S := fun y hy hm => by have := hS y hm; omega
  refine ⟨b2, see'.keptS k2 fun y hy hm => by simp at hm; have := (hB y hy).1; omega, h.len, (h.row.kept k fun y hy => nS y (f.row y hy)).kept k2 fun y hy hm => h.sepv (by simp at hm; rw [← hm]; exact hy), fun p hp => ⟨((h.all p hp).1.keptS k fun y hy => nS y (f.old p hp y hy)).keptS k2 fun y hy hm => (h.sep p hp y hy).1 (by simpa using hm), (h.all p hp).2⟩, fun p hp y hy => ⟨(h.sep p hp y hy).1, (h.sep p hp y hy).2.1, by have := (h.sep p hp y hy).2.2; omega⟩, fun y hy => ⟨by have := (hB y hy).1; omega, fun e => by have e1 := f.row y e; have := (hB y hy).1; omega, by have := (hB y hy).2; omega⟩, h.sepv, (h.kept.trans k fun y hy => .inr (by have e1 := hS y hy; have e2 := h.lo; omega)).trans k2 fun y hy => .inr (by simp at hy; rw [hy]; exact h.lo), h.lo⟩
theorem src_rcd {P : Program} (w : World) (t e : TypeId) (ht : P.underlying t = some (.slice e)) (cs : List Value) (hl : cs.length = 11) (h1 : ∀ u ∈ cs, u.oneCell' = true) : Src P 11 t (.slice (some ⟨w.heap.size, 0, none⟩) 1 1) 1 cs (w.alloc (.cells cs.toArray e)) := by
  refine Src.ofSlice _ ht _ _ _ _ (by rw [hl]) (fun j u hj => ?_) h1
  rw [add_none rfl]
  have q := (Blk.new w e cs).cell hj
  simpa using q
end Go.Proofs.Ytebcmcmboomgfaa

/-
  OWN WORK (by mklw8.py). Records that are not right, made of one that is.
-/
namespace Go.Proofs.Ytebcmcmboomgfaa
open Go.RowKit
set_option linter.unusedVariables false
set_option linter.unusedSimpArgs false

theorem right_kind {r : Rcd} (h : r.Right) : r.kind = 1 ∨ r.kind = 2 ∨ r.kind = 3 ∨ r.kind = 4 ∨ r.kind = 5 ∨ r.kind = 6 ∨ r.kind = 7 := by have := h.1; omega
theorem rows_twice {l : List RowR} {x y : RowR} (h : ∀ (i : Nat) a b, (l ++ [x, y])[i]? = some a → (l ++ [x, y])[i + 1]? = some b → a.birth < b.birth) : x.birth < y.birth := h l.length x y (by simp) (by rw [List.getElem?_append_right (by omega)]; simp)
theorem recs_twice {l : List RecR} {x y : RecR} (h : ∀ (i : Nat) a b, (l ++ [x, y])[i]? = some a → (l ++ [x, y])[i + 1]? = some b → a.page < b.page) : x.page < y.page := h l.length x y (by simp) (by rw [List.getElem?_append_right (by omega)]; simp)
set_option maxHeartbeats 800000 in
theorem bad_kA {r : Rcd} (hR : r.Right) : ¬ (⟨r.kind - 8, r.birth, r.prev, r.id, r.page, r.frm, r.before, r.after, r.next, r.rows, r.dirty⟩ : Rcd).Right := by
  intro h
  have hk0 := right_kind hR
  unfold Rcd.Right at h hR
  dsimp only at h
  omega
set_option maxHeartbeats 800000 in
theorem bad_kB {r : Rcd} (hR : r.Right) : ¬ (⟨r.kind + 7, r.birth, r.prev, r.id, r.page, r.frm, r.before, r.after, r.next, r.rows, r.dirty⟩ : Rcd).Right := by
  intro h
  have hk0 := right_kind hR
  unfold Rcd.Right at h hR
  dsimp only at h
  omega
set_option maxHeartbeats 800000 in
theorem bad_bA {r : Rcd} (hR : r.Right) : ¬ (⟨r.kind, -1, r.prev, r.id, r.page, r.frm, r.before, r.after, r.next, r.rows, r.dirty⟩ : Rcd).Right := by
  intro h
  have hk0 := right_kind hR
  unfold Rcd.Right at h hR
  dsimp only at h
  rcases hk0 with e | e | e | e | e | e | e <;> simp [e, lsnOk, nextOk, rangedOk, partsOk] at h hR <;> omega
set_option maxHeartbeats 800000 in
theorem bad_bB {r : Rcd} (hR : r.Right) : ¬ (⟨r.kind, 1152921504606846977, r.prev, r.id, r.page, r.frm, r.before, r.after, r.next, r.rows, r.dirty⟩ : Rcd).Right := by
  intro h
  have hk0 := right_kind hR
  unfold Rcd.Right at h hR
  dsimp only at h
  rcases hk0 with e | e | e | e | e | e | e <;> simp [e, lsnOk, nextOk, rangedOk, partsOk] at h hR <;> omega
set_option maxHeartbeats 800000 in
theorem bad_pA {r : Rcd} (hR : r.Right) : ¬ (⟨r.kind, r.birth, -1, r.id, r.page, r.frm, r.before, r.after, r.next, r.rows, r.dirty⟩ : Rcd).Right := by
  intro h
  have hk0 := right_kind hR
  unfold Rcd.Right at h hR
  dsimp only at h
  rcases hk0 with e | e | e | e | e | e | e <;> simp [e, lsnOk, nextOk, rangedOk, partsOk] at h hR <;> omega
set_option maxHeartbeats 800000 in
theorem bad_nA {r : Rcd} (hR : r.Right) : ¬ (⟨r.kind, r.birth, r.prev, r.id, r.page, r.frm, r.before, r.after, -1, r.rows, r.dirty⟩ : Rcd).Right := by
  intro h
  have hk0 := right_kind hR
  unfold Rcd.Right at h hR
  dsimp only at h
  rcases hk0 with e | e | e | e | e | e | e <;> simp [e, lsnOk, nextOk, rangedOk, partsOk] at h hR <;> omega
set_option maxHeartbeats 800000 in
theorem bad_nB {r : Rcd} (hR : r.Right) : ¬ (⟨r.kind, r.birth, r.prev, r.id, r.page, r.frm, r.before, r.after, 1152921504606846977, r.rows, r.dirty⟩ : Rcd).Right := by
  intro h
  have hk0 := right_kind hR
  unfold Rcd.Right at h hR
  dsimp only at h
  rcases hk0 with e | e | e | e | e | e | e <;> simp [e, lsnOk, nextOk, rangedOk, partsOk] at h hR <;> omega
set_option maxHeartbeats 800000 in
theorem bad_iA {r : Rcd} (hR : r.Right) : ¬ (⟨r.kind, r.birth, r.prev, 65, r.page, r.frm, r.before, r.after, r.next, r.rows, r.dirty⟩ : Rcd).Right := by
  intro h
  have hk0 := right_kind hR
  unfold Rcd.Right at h hR
  dsimp only at h
  rcases hk0 with e | e | e | e | e | e | e <;> simp [e, lsnOk, nextOk, rangedOk, partsOk] at h hR <;> omega
set_option maxHeartbeats 800000 in
theorem bad_gA {r : Rcd} (hR : r.Right) : ¬ (⟨r.kind, r.birth, r.prev, r.id, 16, r.frm, r.before, r.after, r.next, r.rows, r.dirty⟩ : Rcd).Right := by
  intro h
  have hk0 := right_kind hR
  unfold Rcd.Right at h hR
  dsimp only at h
  rcases hk0 with e | e | e | e | e | e | e <;> simp [e, lsnOk, nextOk, rangedOk, partsOk] at h hR <;> omega
set_option maxHeartbeats 800000 in
theorem bad_fA {r : Rcd} (hR : r.Right) : ¬ (⟨r.kind, r.birth, r.prev, r.id, r.page, 145, r.before, r.after, r.next, r.rows, r.dirty⟩ : Rcd).Right := by
  intro h
  have hk0 := right_kind hR
  unfold Rcd.Right at h hR
  dsimp only at h
  rcases hk0 with e | e | e | e | e | e | e <;> simp [e, lsnOk, nextOk, rangedOk, partsOk] at h hR <;> omega
set_option maxHeartbeats 800000 in
theorem bad_fB {r : Rcd} (hR : r.Right) : ¬ (⟨r.kind, r.birth, r.prev, r.id, r.page, 4611686018427387904, r.before, r.after, r.next, r.rows, r.dirty⟩ : Rcd).Right := by
  intro h
  have hk0 := right_kind hR
  unfold Rcd.Right at h hR
  dsimp only at h
  rcases hk0 with e | e | e | e | e | e | e <;> simp [e, lsnOk, nextOk, rangedOk, partsOk] at h hR <;> omega
set_option maxHeartbeats 800000 in
theorem bad_xA {r : Rcd} (hR : r.Right) : ¬ (⟨r.kind, r.birth, r.prev, r.id, r.page, r.frm, r.before ++ [1], r.after, r.next, r.rows, r.dirty⟩ : Rcd).Right := by
  intro h
  have hk0 := right_kind hR
  unfold Rcd.Right at h hR
  dsimp only at h
  rcases hk0 with e | e | e | e | e | e | e <;> simp [e, lsnOk, nextOk, rangedOk, partsOk] at h hR <;> omega
set_option maxHeartbeats 800000 in
theorem bad_xB {r : Rcd} (hR : r.Right) : ¬ (⟨r.kind, r.birth, r.prev, r.id, r.page, r.frm, r.before, List.replicate 129 0, r.next, r.rows, r.dirty⟩ : Rcd).Right := by
  intro h
  have hk0 := right_kind hR
  unfold Rcd.Right at h hR
  dsimp only at h
  rcases hk0 with e | e | e | e | e | e | e <;> simp [e, lsnOk, nextOk, rangedOk, partsOk] at h hR <;> omega
set_option maxHeartbeats 800000 in
theorem bad_xC {r : Rcd} (hR : r.Right) (hk : r.kind = 2 ∨ r.kind = 3) : ¬ (⟨r.kind, r.birth, r.prev, r.id, r.page, r.frm, r.before, [], r.next, r.rows, r.dirty⟩ : Rcd).Right := by
  intro h
  have hk0 := right_kind hR
  unfold Rcd.Right at h hR
  dsimp only at h
  rcases hk with e | e <;> simp [e, lsnOk, nextOk, rangedOk, partsOk] at h hR <;> omega
set_option maxHeartbeats 800000 in
theorem bad_xD {r : Rcd} (hR : r.Right) (hk : r.kind = 2 ∨ r.kind = 3) : ¬ (⟨r.kind, r.birth, r.prev, r.id, r.page, r.frm, [], [], r.next, r.rows, r.dirty⟩ : Rcd).Right := by
  intro h
  have hk0 := right_kind hR
  unfold Rcd.Right at h hR
  dsimp only at h
  rcases hk with e | e <;> simp [e, lsnOk, nextOk, rangedOk, partsOk] at h hR <;> omega
set_option maxHeartbeats 800000 in
theorem bad_fC {r : Rcd} (hR : r.Right) (hk : r.kind = 2 ∨ r.kind = 3) : ¬ (⟨r.kind, r.birth, r.prev, r.id, r.page, 15, r.before, r.after, r.next, r.rows, r.dirty⟩ : Rcd).Right := by
  intro h
  have hk0 := right_kind hR
  unfold Rcd.Right at h hR
  dsimp only at h
  rcases hk with e | e <;> simp [e, lsnOk, nextOk, rangedOk, partsOk] at h hR <;> omega
set_option maxHeartbeats 800000 in
theorem bad_fD {r : Rcd} (hR : r.Right) (hk : r.kind = 2 ∨ r.kind = 3) : ¬ (⟨r.kind, r.birth, r.prev, r.id, r.page, 145 - (r.after.length : Int), r.before, r.after, r.next, r.rows, r.dirty⟩ : Rcd).Right := by
  intro h
  have hk0 := right_kind hR
  unfold Rcd.Right at h hR
  dsimp only at h
  rcases hk with e | e <;> simp [e, lsnOk, nextOk, rangedOk, partsOk] at h hR <;> omega
set_option maxHeartbeats 800000 in
theorem bad_rA {r : Rcd} (hR : r.Right) : ¬ (⟨r.kind, r.birth, r.prev, r.id, r.page, r.frm, r.before, r.after, r.next, r.rows ++ [⟨1152921504606846976, 1, 3, 1, 0⟩], r.dirty⟩ : Rcd).Right := by
  intro h
  obtain ⟨-, -, -, hl, -⟩ := h
  simp only at hl
  split at hl
  · have q := hl.2.1.1 ⟨1152921504606846976, 1, 3, 1, 0⟩ (by simp)
    have q2 := q.2.2.1
    simp at q2
  · have q := hl.1
    simp at q
set_option maxHeartbeats 800000 in
theorem bad_rB {r : Rcd} (hR : r.Right) : ¬ (⟨r.kind, r.birth, r.prev, r.id, r.page, r.frm, r.before, r.after, r.next, r.rows ++ [⟨5, 1, 1, 5, 0⟩, ⟨5, 2, 1, 6, 0⟩], r.dirty⟩ : Rcd).Right := by
  intro h
  obtain ⟨-, -, -, hl, -⟩ := h
  simp only at hl
  split at hl
  · have q := rows_twice hl.2.1.2
    simp at q
  · have q := hl.1
    simp at q
set_option maxHeartbeats 800000 in
theorem bad_dA {r : Rcd} (hR : r.Right) : ¬ (⟨r.kind, r.birth, r.prev, r.id, r.page, r.frm, r.before, r.after, r.next, r.rows, r.dirty ++ [⟨16, 1⟩]⟩ : Rcd).Right := by
  intro h
  obtain ⟨-, -, -, hl, -⟩ := h
  simp only at hl
  split at hl
  · have q := hl.2.2.1 ⟨16, 1⟩ (by simp)
    have q2 := q.1.2
    simp at q2
  · have q := hl.2
    simp at q
set_option maxHeartbeats 800000 in
theorem bad_dB {r : Rcd} (hR : r.Right) : ¬ (⟨r.kind, r.birth, r.prev, r.id, r.page, r.frm, r.before, r.after, r.next, r.rows, r.dirty ++ [⟨15, 1⟩, ⟨15, 2⟩]⟩ : Rcd).Right := by
  intro h
  obtain ⟨-, -, -, hl, -⟩ := h
  simp only at hl
  split at hl
  · have q := recs_twice hl.2.2.2
    simp at q
  · have q := hl.2
    simp at q
set_option maxHeartbeats 800000 in
theorem bad_dC {r : Rcd} (hR : r.Right) : ¬ (⟨r.kind, r.birth, r.prev, r.id, r.page, r.frm, r.before, r.after, r.next, r.rows, r.dirty ++ [⟨15, 0⟩]⟩ : Rcd).Right := by
  intro h
  obtain ⟨-, -, -, hl, -⟩ := h
  simp only at hl
  split at hl
  · have q := hl.2.2.1 ⟨15, 0⟩ (by simp)
    have q2 := q.2.1
    simp at q2
  · have q := hl.2
    simp at q
theorem bad_sA {r : Rcd} (h2 : r.kind = 2) {y : UInt8} (hy : r.after[0]? = some y) : ¬ (⟨r.kind, r.birth, r.prev, r.id, r.page, r.frm, r.before.set 0 y, r.after, r.next, r.rows, r.dirty⟩ : Rcd).Right := by
  intro h
  obtain ⟨-, -, -, -, -, -, hp⟩ := h
  simp only [h2, if_true] at hp
  obtain ⟨q1, q2, -⟩ := hp
  simp only at q1 q2
  apply q2
  rw [hy, List.getElem?_set_self (by rw [List.length_set] at q1; have := (List.getElem?_eq_some_iff.1 hy).1; omega)]
theorem bad_sB {r : Rcd} (h2 : r.kind = 2) {y : UInt8} (hy : r.before[r.after.length - 1]? = some y) (hn : 0 < r.after.length) : ¬ (⟨r.kind, r.birth, r.prev, r.id, r.page, r.frm, r.before, r.after.set (r.after.length - 1) y, r.next, r.rows, r.dirty⟩ : Rcd).Right := by
  intro h
  obtain ⟨-, -, -, -, -, -, hp⟩ := h
  simp only [h2, if_true] at hp
  obtain ⟨q1, -, q2⟩ := hp
  simp only [List.length_set] at q1 q2
  apply q2
  rw [hy, List.getElem?_set_self (by omega)]
end Go.Proofs.Ytebcmcmboomgfaa

/-
  OWN WORK. Small things that several laws of record want: a row of one's own at a place, the rest of a division, a byte turned.
-/
namespace Go.Proofs.Ytebcmcmboomgfaa
open Go.RowKit
theorem own_at9 {w : World} {base e n : Nat} {v : Value} {xs : List Value} (h : w.ownsRow base e 1 v n xs) (hn : 0 < n) : ∃ g c, v = .slice (some ⟨g, 0, none⟩) n c ∧ base ≤ g ∧ ∀ (j : Nat) u, xs[j]? = some u → w.cell? ⟨g, j, none⟩ = some u ∧ w.frozen? ⟨g, j, none⟩ = false := by
  rcases h.2 with ⟨-, e0⟩ | ⟨g, cap, cur, rfl, h1, h2, h3, h4, -, h5⟩
  · omega
  · refine ⟨g, cap, rfl, h1, fun j u hj => ?_⟩
    rw [← h5, List.getElem?_take] at hj
    split at hj
    · refine ⟨?_, by simp [World.frozen?, h2]⟩
      simp [World.cell?, h2]
      simpa using hj
    · cases hj
theorem wrap_u8d {x : Nat} (h : x < 2 ^ 8) : IntKind.u8.wrap (x : Int) = (x : Int) := by
  simp only [IntKind.wrap, IntKind.bits, IntKind.signed]
  have : 2 ^ 8 = 256 := by decide
  simp
  omega
theorem xorB (y x : UInt8) : bits .xor .u8 (y.toNat : Int) (x.toNat : Int) = ((y ^^^ x).toNat : Int) := by
  have h1 : ∀ z : UInt8, (BitVec.ofInt 8 (z.toNat : Int)).toNat = z.toNat := fun z => by
    rw [BitVec.ofInt_natCast, BitVec.toNat_ofNat]; exact Nat.mod_eq_of_lt z.toNat_lt
  show IntKind.u8.wrap ((BitVec.ofInt 8 (y.toNat : Int) ^^^ BitVec.ofInt 8 (x.toNat : Int)).toNat : Int) = _
  rw [BitVec.toNat_xor, h1, h1, UInt8.toNat_xor]
  have hx : y.toNat ^^^ x.toNat < 2 ^ 8 := Nat.xor_lt_two_pow y.toNat_lt x.toNat_lt
  exact wrap_u8d hx
/-- where the rest of a division points -/
theorem rest_at (n : Int) (m : Nat) (hm : 0 < m) (hm2 : m ≤ 1000000) : ∃ N : Nat, N < m ∧ IntKind.i64.wrap (n.tmod (m : Int)) = n.tmod (m : Int) ∧ ((n.tmod (m : Int) < 0 ∧ IntKind.i64.wrap (n.tmod (m : Int) + (m : Int)) = (N : Int)) ∨ (¬ n.tmod (m : Int) < 0 ∧ n.tmod (m : Int) = (N : Int))) := by
  have hp : (0 : Int) < (m : Int) := by omega
  have b1 := Int.tmod_lt_of_pos n hp
  have b2 := Int.lt_tmod_of_pos n hp
  generalize n.tmod (m : Int) = z at b1 b2 ⊢
  by_cases c : z < 0
  · exact ⟨(z + m).toNat, by omega, wrap_i64_of (by omega) (by omega), .inl ⟨c, by rw [wrap_i64_of (by omega) (by omega)]; omega⟩⟩
  · exact ⟨z.toNat, by omega, wrap_i64_of (by omega) (by omega), .inr ⟨c, by omega⟩⟩
end Go.Proofs.Ytebcmcmboomgfaa

/-
  OWN WORK (by mklwa.py). The law: spoilt: how its record turns.
-/
namespace Go.Proofs.Ytebcmcmboomgfaa
open Go.RowKit
set_option linter.unusedVariables false
set_option linter.unusedSimpArgs false

theorem Spo.setV {w0 w : World} {X N : Nat} {x x' : Rcd} {Vx V' : RV} {v u : Value} {xs : List (RV × Rcd)} (h : Spo w0 w X x Vx v N xs) (j : Nat) (hcl : x'.cl V' = (x.cl Vx).set j u) (see' : SeeR w V' x') (hB : ∀ y, hasB V' y → hasB Vx y) : Spo w0 (w.setCell ⟨X, j, none⟩ u) X x' V' v N xs := by
  obtain ⟨b, k⟩ := h.blk.set j u
  refine ⟨by rw [hcl]; exact b, see'.keptS k fun y hy hm => (h.sepx y (hB y hy)).1 (by simpa using hm), h.len, h.row.kept k fun y hy hm => h.sepv (by simp at hm; rw [← hm]; exact hy), fun p hp => ⟨(h.all p hp).1.keptS k fun y hy hm => (h.sep p hp y hy).1 (by simpa using hm), (h.all p hp).2⟩, fun p hp y hy => ?_, fun y hy => ?_, h.sepv, h.kept.trans k fun y hy => .inr (by simp at hy; rw [hy]; exact h.lo), h.lo⟩
  · exact ⟨(h.sep p hp y hy).1, (h.sep p hp y hy).2.1, Nat.lt_of_lt_of_le (h.sep p hp y hy).2.2 k.size⟩
  · exact ⟨(h.sepx y (hB y hy)).1, (h.sepx y (hB y hy)).2.1, Nat.lt_of_lt_of_le (h.sepx y (hB y hy)).2.2 k.size⟩
theorem src_gen {P : Program} (w : World) (t e : TypeId) (sz m : Nat) (ht : P.underlying t = some (.slice e)) (cs : List Value) (hl : cs.length = m * sz) (h1 : ∀ u ∈ cs, u.oneCell' = true) : Src P sz t (.slice (some ⟨w.heap.size, 0, none⟩) m m) m cs (w.alloc (.cells cs.toArray e)) := by
  refine Src.ofSlice _ ht _ _ _ _ hl (fun j u hj => ?_) h1
  rw [add_none rfl]
  have q := (Blk.new w e cs).cell hj
  simpa using q
theorem copyCap_right {r : Rcd} (h : r.Right) : CopyCap r ∧ r.before.length ≤ 128 ∧ r.after.length ≤ 128 ∧ r.rows.length ≤ 8 ∧ r.dirty.length ≤ 16 := by
  have q : r.before.length ≤ 128 ∧ r.after.length ≤ 128 ∧ r.rows.length ≤ 8 ∧ r.dirty.length ≤ 16 := by
    have hk := right_kind h
    unfold Rcd.Right at h
    rcases hk with e | e | e | e | e | e | e <;> simp [e, rangedOk, partsOk, listsOk] at h <;> simp [h] <;> omega
  unfold CopyCap
  omega
theorem Spo.appB {w0 w wl w' : World} {X N b : Nat} {x : Rcd} {Vx : RV} {v v' : Value} {xs : List (RV × Rcd)} {new : List UInt8} (h : Spo w0 w X x Vx v N xs) (O : OwnR b w Vx x) (F : Frs b X Vx v xs) (kl : Kept [] w wl) (o' : w'.ownsRow b 5 1 v' (x.before.length + new.length) (u8s x.before ++ u8s new)) (g : wl.grownBy w' Vx.vb.ownBlock) : Blk w' X 26 (x.cl Vx) ∧ Spo w0 (w'.setCell ⟨X, 6, none⟩ v') X (⟨x.kind, x.birth, x.prev, x.id, x.page, x.frm, x.before ++ new, x.after, x.next, x.rows, x.dirty⟩ : Rcd) (⟨v', Vx.va, Vx.vr, Vx.vd⟩ : RV) v N xs := by
  have k : Kept Vx.vb.ownBlock.toList w w' := ((Kept.refl Vx.vb.ownBlock.toList w).then kl).grown g (fun y hy => .inl (by simpa using hy))
  have hS : ∀ s ∈ Vx.vb.ownBlock.toList, b ≤ s := fun s hs => F.own s (.inl (by simpa using hs))
  have blk' := h.blk.kept k fun hm => by have := hS X hm; have := F.blk; omega
  have see' : SeeR w' (⟨v', Vx.va, Vx.vr, Vx.vd⟩ : RV) (⟨x.kind, x.birth, x.prev, x.id, x.page, x.frm, x.before ++ new, x.after, x.next, x.rows, x.dirty⟩ : Rcd) := ⟨bs_own9 (l := x.before ++ new) (by rw [show u8s (x.before ++ new) = u8s x.before ++ u8s new from (by simp [u8s])]; exact o') (by rw [List.length_append]), h.see.after.keptS k (fun y hy hm => O.ba y (by simpa using hm) hy), h.see.rows.keptS k (fun y hy hm => O.br y (by simpa using hm) hy), h.see.dirty.keptS k (fun y hy hm => O.bd y (by simpa using hm) hy)⟩
  have hB : ∀ y, hasB (⟨v', Vx.va, Vx.vr, Vx.vd⟩ : RV) y → b ≤ y ∧ y < w'.heap.size := fun y hy => by
    have hs := k.size
    rcases hy with q | q | q | q
    · exact ⟨own_ge o' y q, own_lt o' y q⟩
    · exact ⟨F.own y (.inr (.inl q)), by have := (h.sepx y (.inr (.inl q))).2.2; omega⟩
    · exact ⟨F.own y (.inr (.inr (.inl q))), by have := (h.sepx y (.inr (.inr (.inl q)))).2.2; omega⟩
    · exact ⟨F.own y (.inr (.inr (.inr q))), by have := (h.sepx y (.inr (.inr (.inr q)))).2.2; omega⟩
  obtain ⟨b2, k2⟩ := blk'.set 6 v'
  exact ⟨blk', h.turn F k hS see' hB k2 b2⟩
theorem Spo.appR {w0 w wl w' : World} {X N b : Nat} {x : Rcd} {Vx : RV} {v v' : Value} {xs : List (RV × Rcd)} {new : List RowR} (h : Spo w0 w X x Vx v N xs) (O : OwnR b w Vx x) (F : Frs b X Vx v xs) (kl : Kept [] w wl) (o' : Row w' b 5 v' (x.rows.length + new.length) (rcells x.rows ++ rcells new)) (g : Kept Vx.vr.ownBlock.toList wl w') : Blk w' X 26 (x.cl Vx) ∧ Spo w0 (w'.setCell ⟨X, 9, none⟩ v') X (⟨x.kind, x.birth, x.prev, x.id, x.page, x.frm, x.before, x.after, x.next, x.rows ++ new, x.dirty⟩ : Rcd) (⟨Vx.vb, Vx.va, v', Vx.vd⟩ : RV) v N xs := by
  have k : Kept Vx.vr.ownBlock.toList w w' := ((Kept.refl Vx.vr.ownBlock.toList w).then kl).trans g (fun y hy => .inl hy)
  have hS : ∀ s ∈ Vx.vr.ownBlock.toList, b ≤ s := fun s hs => F.own s (.inr (.inr (.inl (by simpa using hs))))
  have blk' := h.blk.kept k fun hm => by have := hS X hm; have := F.blk; omega
  have see' : SeeR w' (⟨Vx.vb, Vx.va, v', Vx.vd⟩ : RV) (⟨x.kind, x.birth, x.prev, x.id, x.page, x.frm, x.before, x.after, x.next, x.rows ++ new, x.dirty⟩ : Rcd) := ⟨h.see.before.keptS k (fun y hy hm => O.br y hy (by simpa using hm)), h.see.after.keptS k (fun y hy hm => O.ar y hy (by simpa using hm)), (by have q := o'.cs; rw [← rcells_append] at q; rw [List.length_append]; exact q), h.see.dirty.keptS k (fun y hy hm => O.rd y (by simpa using hm) hy)⟩
  have hB : ∀ y, hasB (⟨Vx.vb, Vx.va, v', Vx.vd⟩ : RV) y → b ≤ y ∧ y < w'.heap.size := fun y hy => by
    have hs := k.size
    rcases hy with q | q | q | q
    · exact ⟨F.own y (.inl q), by have := (h.sepx y (.inl q)).2.2; omega⟩
    · exact ⟨F.own y (.inr (.inl q)), by have := (h.sepx y (.inr (.inl q))).2.2; omega⟩
    · exact ⟨(o'.lt y q).1, (o'.lt y q).2⟩
    · exact ⟨F.own y (.inr (.inr (.inr q))), by have := (h.sepx y (.inr (.inr (.inr q)))).2.2; omega⟩
  obtain ⟨b2, k2⟩ := blk'.set 9 v'
  exact ⟨blk', h.turn F k hS see' hB k2 b2⟩
theorem Spo.appD {w0 w wl w' : World} {X N b : Nat} {x : Rcd} {Vx : RV} {v v' : Value} {xs : List (RV × Rcd)} {new : List RecR} (h : Spo w0 w X x Vx v N xs) (O : OwnR b w Vx x) (F : Frs b X Vx v xs) (kl : Kept [] w wl) (o' : Row w' b 2 v' (x.dirty.length + new.length) (dcells x.dirty ++ dcells new)) (g : Kept Vx.vd.ownBlock.toList wl w') : Blk w' X 26 (x.cl Vx) ∧ Spo w0 (w'.setCell ⟨X, 10, none⟩ v') X (⟨x.kind, x.birth, x.prev, x.id, x.page, x.frm, x.before, x.after, x.next, x.rows, x.dirty ++ new⟩ : Rcd) (⟨Vx.vb, Vx.va, Vx.vr, v'⟩ : RV) v N xs := by
  have k : Kept Vx.vd.ownBlock.toList w w' := ((Kept.refl Vx.vd.ownBlock.toList w).then kl).trans g (fun y hy => .inl hy)
  have hS : ∀ s ∈ Vx.vd.ownBlock.toList, b ≤ s := fun s hs => F.own s (.inr (.inr (.inr (by simpa using hs))))
  have blk' := h.blk.kept k fun hm => by have := hS X hm; have := F.blk; omega
  have see' : SeeR w' (⟨Vx.vb, Vx.va, Vx.vr, v'⟩ : RV) (⟨x.kind, x.birth, x.prev, x.id, x.page, x.frm, x.before, x.after, x.next, x.rows, x.dirty ++ new⟩ : Rcd) := ⟨h.see.before.keptS k (fun y hy hm => O.bd y hy (by simpa using hm)), h.see.after.keptS k (fun y hy hm => O.ad y hy (by simpa using hm)), h.see.rows.keptS k (fun y hy hm => O.rd y hy (by simpa using hm)), (by have q := o'.cs; rw [← dcells_append] at q; rw [List.length_append]; exact q)⟩
  have hB : ∀ y, hasB (⟨Vx.vb, Vx.va, Vx.vr, v'⟩ : RV) y → b ≤ y ∧ y < w'.heap.size := fun y hy => by
    have hs := k.size
    rcases hy with q | q | q | q
    · exact ⟨F.own y (.inl q), by have := (h.sepx y (.inl q)).2.2; omega⟩
    · exact ⟨F.own y (.inr (.inl q)), by have := (h.sepx y (.inr (.inl q))).2.2; omega⟩
    · exact ⟨F.own y (.inr (.inr (.inl q))), by have := (h.sepx y (.inr (.inr (.inl q)))).2.2; omega⟩
    · exact ⟨(o'.lt y q).1, (o'.lt y q).2⟩
  obtain ⟨b2, k2⟩ := blk'.set 10 v'
  exact ⟨blk', h.turn F k hS see' hB k2 b2⟩
theorem Spo.newA {w0 w w' : World} {X N b : Nat} {x : Rcd} {Vx : RV} {v v' : Value} {xs : List (RV × Rcd)} {l : List UInt8} (h : Spo w0 w X x Vx v N xs) (F : Frs b X Vx v xs) (k : Kept [] w w') (o' : w'.ownsRow b 5 1 v' l.length (u8s l)) : Blk w' X 26 (x.cl Vx) ∧ Spo w0 (w'.setCell ⟨X, 7, none⟩ v') X (⟨x.kind, x.birth, x.prev, x.id, x.page, x.frm, x.before, l, x.next, x.rows, x.dirty⟩ : Rcd) (⟨Vx.vb, v', Vx.vr, Vx.vd⟩ : RV) v N xs := by
  have blk' := h.blk.kept k (by simp)
  have s := h.see.kept k
  obtain ⟨b2, k2⟩ := blk'.set 7 v'
  have hs := k.size
  refine ⟨blk', h.turn (V' := ⟨Vx.vb, v', Vx.vr, Vx.vd⟩) (x' := ⟨x.kind, x.birth, x.prev, x.id, x.page, x.frm, x.before, l, x.next, x.rows, x.dirty⟩) F k (by simp) ⟨s.before, Bs.ofOwn o', s.rows, s.dirty⟩ (fun y hy => ?_) k2 b2⟩
  rcases hy with q | q | q | q
  · exact ⟨F.own y (.inl q), by have := (h.sepx y (.inl q)).2.2; omega⟩
  · exact ⟨own_ge o' y q, own_lt o' y q⟩
  · exact ⟨F.own y (.inr (.inr (.inl q))), by have := (h.sepx y (.inr (.inr (.inl q)))).2.2; omega⟩
  · exact ⟨F.own y (.inr (.inr (.inr q))), by have := (h.sepx y (.inr (.inr (.inr q)))).2.2; omega⟩
/-- a byte of Before, or of After, is written over -/
theorem Spo.pokeB {w0 w : World} {X N b g n c : Nat} {x : Rcd} {Vx : RV} {v : Value} {xs : List (RV × Rcd)} (h : Spo w0 w X x Vx v N xs) (O : OwnR b w Vx x) (F : Frs b X Vx v xs) (hv : Vx.vb = .slice (some ⟨g, 0, none⟩) x.before.length c) (j : Nat) (y : UInt8) : Spo w0 (w.setCell ⟨g, j, none⟩ (.int .u8 (y.toNat : Int))) X (⟨x.kind, x.birth, x.prev, x.id, x.page, x.frm, x.before.set j y, x.after, x.next, x.rows, x.dirty⟩ : Rcd) Vx v N xs := by
  have ob := O.before
  rw [hv] at ob
  obtain ⟨o2, k⟩ := set_own ob j y (y.toNat : Int) rfl
  have hg : Vx.vb.ownBlock = some g := by rw [hv]; rfl
  have hS : ∀ s ∈ [g], b ≤ s := fun s hs => by simp at hs; rw [hs]; exact F.own g (.inl hg)
  have blk' := h.blk.kept k fun hm => by have := hS X hm; have := F.blk; omega
  have hs := k.size
  refine h.turn (V' := Vx) (x' := ⟨x.kind, x.birth, x.prev, x.id, x.page, x.frm, x.before.set j y, x.after, x.next, x.rows, x.dirty⟩) F k hS ⟨by rw [hv]; exact bs_own9 o2 (by rw [List.length_set]), h.see.after.keptS k (fun z hz hm => O.ba g hg (by simp at hm; rw [← hm]; exact hz)), h.see.rows.keptS k (fun z hz hm => O.br g hg (by simp at hm; rw [← hm]; exact hz)), h.see.dirty.keptS k (fun z hz hm => O.bd g hg (by simp at hm; rw [← hm]; exact hz))⟩ (fun z hz => ⟨F.own z hz, by have := (h.sepx z hz).2.2; omega⟩) (Kept.refl [X] _) blk'
theorem Spo.pokeA {w0 w : World} {X N b g n c : Nat} {x : Rcd} {Vx : RV} {v : Value} {xs : List (RV × Rcd)} (h : Spo w0 w X x Vx v N xs) (O : OwnR b w Vx x) (F : Frs b X Vx v xs) (hv : Vx.va = .slice (some ⟨g, 0, none⟩) x.after.length c) (j : Nat) (y : UInt8) : Spo w0 (w.setCell ⟨g, j, none⟩ (.int .u8 (y.toNat : Int))) X (⟨x.kind, x.birth, x.prev, x.id, x.page, x.frm, x.before, x.after.set j y, x.next, x.rows, x.dirty⟩ : Rcd) Vx v N xs := by
  have ob := O.after
  rw [hv] at ob
  obtain ⟨o2, k⟩ := set_own ob j y (y.toNat : Int) rfl
  have hg : Vx.va.ownBlock = some g := by rw [hv]; rfl
  have hS : ∀ s ∈ [g], b ≤ s := fun s hs => by simp at hs; rw [hs]; exact F.own g (.inr (.inl hg))
  have blk' := h.blk.kept k fun hm => by have := hS X hm; have := F.blk; omega
  have hs := k.size
  refine h.turn (V' := Vx) (x' := ⟨x.kind, x.birth, x.prev, x.id, x.page, x.frm, x.before, x.after.set j y, x.next, x.rows, x.dirty⟩) F k hS ⟨h.see.before.keptS k (fun z hz hm => O.ba z hz (by simp at hm; rw [hm]; exact hg)), by rw [hv]; exact bs_own9 o2 (by rw [List.length_set]), h.see.rows.keptS k (fun z hz hm => O.ar g hg (by simp at hm; rw [← hm]; exact hz)), h.see.dirty.keptS k (fun z hz hm => O.ad g hg (by simp at hm; rw [← hm]; exact hz))⟩ (fun z hz => ⟨F.own z hz, by have := (h.sepx z hz).2.2; omega⟩) (Kept.refl [X] _) blk'

theorem Spo.then {w0 w w' : World} {X N : Nat} {x : Rcd} {Vx : RV} {v : Value} {xs : List (RV × Rcd)} (h : Spo w0 w X x Vx v N xs) (k : Kept [] w w') : Spo w0 w' X x Vx v N xs :=
  ⟨h.blk.kept k (by simp), h.see.kept k, h.len, h.row.kept k (by simp), fun p hp => ⟨(h.all p hp).1.kept k, (h.all p hp).2⟩, fun p hp y hy => ⟨(h.sep p hp y hy).1, (h.sep p hp y hy).2.1, Nat.lt_of_lt_of_le (h.sep p hp y hy).2.2 k.size⟩, fun y hy => ⟨(h.sepx y hy).1, (h.sepx y hy).2.1, Nat.lt_of_lt_of_le (h.sepx y hy).2.2 k.size⟩, h.sepv, h.kept.then k, h.lo⟩
end Go.Proofs.Ytebcmcmboomgfaa

/-
  OWN WORK. '[]byte("..")' of a constant text.
-/
namespace Go.Proofs.Ytebcmcmboomgfaa
open Go.RowKit
set_option linter.unusedVariables false

theorem run_lit {P : Program} (w : World) (t e : TypeId) (C : Array Value) (n c g : Nat) (hg : g = w.heap.size) (ht : P.underlying t = some (.slice e)) (he : P.underlying e = some (.int .u8)) :
    (convert t t (.slice (some ⟨g, 0, none⟩) n c)).run P (w.alloc (.cells C e)) = .ok (.slice (some ⟨g, 0, none⟩) n c) (w.alloc (.cells C e (C.size, C.size + 1))) := by
  subst hg; exact Lib.run_convert_bytes_const w t e C n c ht he
theorem Bs.litF (w : World) (e : TypeId) (l : List UInt8) (cs : Array Value) (fr : Nat × Nat) (hcs : cs = (u8s l).toArray) (hl : l.length ≤ maxLen) (H : Nat) (hH : w.heap.size = H) : Bs (w.alloc (.cells cs e fr)) (.slice (some ⟨H, 0, none⟩) l.length l.length) l := by
  subst hcs
  subst hH
  exact Bs.mk (Nat.le_refl _) hl fun i x hx => by
    have := World.news_of_block (heap_alloc_new w (.cells (u8s l).toArray e fr)) i (.int .u8 (x.toNat : Int)) (by simp [u8s, hx])
    rwa [add_none rfl] at this
end Go.Proofs.Ytebcmcmboomgfaa

/-
  OWN WORK. octet.Put at its four widths.
-/
namespace Go.Proofs.Ytebcmcmboomgfaa
open Go.RowKit
set_option linter.unusedVariables false

set_option maxHeartbeats 800000 in
theorem put8_any (v : Value) (l : List UInt8) (x : Nat) (w : World) (hv : Bs w v l) (hl : l.length ≤ 140737488355000) (hx : (x : Int) < 256) :
    Calls Try.prog 49 #[v, .int .u8 (x : Int)] w fun e w' => ∃ v', e = .returned v' ∧ w'.ownsRow w.heap.size 5 1 v' (l.length + 1) (u8s (l ++ lay 1 x)) ∧ Kept [] w w' := by
  have hmk := fun u => run_make_bs (P := Try.prog) u 22 5 Try.underlying22 (by kernel_rfl) l.length (l.length + 1) (by omega) (by omega)
  have ec : ((l.length + 1 : Nat) : Int) = (l.length : Int) + 1 := by omega
  rw [ec] at hmk
  have hown0 := own_made w 5 w.heap.size l.length (l.length + 1) (Nat.le_refl _) (by omega) (by unfold maxLen; omega)
  have hB : Bs (w.alloc (.cells (madeCells #[.int .u8 0] (l.length + 1)) 5)) v l := hv.kept ((Kept.refl [] w).alloc _)
  have hwr : IntKind.u64.wrap (x : Int) = (x : Int) := by rw [IntKind.wrap_u64]; omega
  clear hx
  obtain ⟨p, c, rfl, h1, h2, h3, h4⟩ := hv
  go_enter Try.func49, Try.ntmps49
  go_wp2_with (first | (go_at_call 68; refine (width8_any _).mono ?_; rintro e w' ⟨rfl, rfl⟩) | (refine wpList_copy_bs rfl (.tmp 16) (.tmp 17) 22 rfl _ 5 Try.underlying22 (by kernel_rfl) _ _ _ (by rfl) hown0 _ l (by rfl) hB rfl ?_; intro w1 hown1 hg1))
  have hk1 : Kept [] w' w1 := ((Kept.refl [] w').alloc _).grown hg1 fun k hk => .inr (own_ge hown0 k hk)
  clear hmk hown0 hB hg1 h3 h4
  go_loopw [6, 20] (fun s i wr => ∃ k : Nat, k ≤ 1 ∧ i = .int .i64 k ∧ wr.ownsRow w'.heap.size 5 1 s (l.length + k) (u8s (l ++ lay k x)) ∧ Kept [] w' wr) (fun _ i _ => 1 - (intOf i).toNat)
  case atStart => exact ⟨0, Nat.zero_le _, rfl, by simpa [lay] using hown1, hk1⟩
  case round =>
    obtain ⟨k, hk, rfl, hown, hkept⟩ := hrel
    have hsz := hkept.size
    clear hown1 hk1 ec
    by_cases hlt : k < 1
    · go_wp2_with (at_builtin; refine wpList_append_bs rfl (.tmp 23) (.tmp 30) 22 rfl w'.heap.size 5 Try.underlying22 (by kernel_rfl) _ _ _ (by rfl) (hown.alloc _) _ [UInt8.ofNat (x / 256 ^ k)] (by rfl) (Bs.one wr 5 _ _ (byte_of x k)) (by simp; omega) (by simp; omega) ?_; intro v2 w2 hown2 hg2 hat2)
      have hk2 : Kept [] w' w2 := (hkept.alloc _).grown hg2 fun j hj => .inr (own_ge hown j hj)
      go_roundw
      case rel => exact ⟨k + 1, by omega, by go_num, by rw [lay_succ, ← List.append_assoc, u8s_append]; exact hown2, hk2⟩
      case measure => simp [intOf]; omega
    · go_wp2
      go_ret
      obtain rfl : k = 1 := by omega
      exact ⟨_, rfl, hown, hkept⟩

set_option maxHeartbeats 800000 in
theorem put16_any (v : Value) (l : List UInt8) (x : Nat) (w : World) (hv : Bs w v l) (hl : l.length ≤ 140737488355000) (hx : (x : Int) < 65536) :
    Calls Try.prog 80 #[v, .int .u16 (x : Int)] w fun e w' => ∃ v', e = .returned v' ∧ w'.ownsRow w.heap.size 5 1 v' (l.length + 2) (u8s (l ++ lay 2 x)) ∧ Kept [] w w' := by
  have hmk := fun u => run_make_bs (P := Try.prog) u 22 5 Try.underlying22 (by kernel_rfl) l.length (l.length + 2) (by omega) (by omega)
  have ec : ((l.length + 2 : Nat) : Int) = (l.length : Int) + 2 := by omega
  rw [ec] at hmk
  have hown0 := own_made w 5 w.heap.size l.length (l.length + 2) (Nat.le_refl _) (by omega) (by unfold maxLen; omega)
  have hB : Bs (w.alloc (.cells (madeCells #[.int .u8 0] (l.length + 2)) 5)) v l := hv.kept ((Kept.refl [] w).alloc _)
  have hwr : IntKind.u64.wrap (x : Int) = (x : Int) := by rw [IntKind.wrap_u64]; omega
  clear hx
  obtain ⟨p, c, rfl, h1, h2, h3, h4⟩ := hv
  go_enter Try.func80, Try.ntmps80
  go_wp2_with (first | (go_at_call 86; refine (width16_any _).mono ?_; rintro e w' ⟨rfl, rfl⟩) | (refine wpList_copy_bs rfl (.tmp 16) (.tmp 17) 22 rfl _ 5 Try.underlying22 (by kernel_rfl) _ _ _ (by rfl) hown0 _ l (by rfl) hB rfl ?_; intro w1 hown1 hg1))
  have hk1 : Kept [] w' w1 := ((Kept.refl [] w').alloc _).grown hg1 fun k hk => .inr (own_ge hown0 k hk)
  clear hmk hown0 hB hg1 h3 h4
  go_loopw [6, 20] (fun s i wr => ∃ k : Nat, k ≤ 2 ∧ i = .int .i64 k ∧ wr.ownsRow w'.heap.size 5 1 s (l.length + k) (u8s (l ++ lay k x)) ∧ Kept [] w' wr) (fun _ i _ => 2 - (intOf i).toNat)
  case atStart => exact ⟨0, Nat.zero_le _, rfl, by simpa [lay] using hown1, hk1⟩
  case round =>
    obtain ⟨k, hk, rfl, hown, hkept⟩ := hrel
    have hsz := hkept.size
    clear hown1 hk1 ec
    by_cases hlt : k < 2
    · go_wp2_with (at_builtin; refine wpList_append_bs rfl (.tmp 23) (.tmp 30) 22 rfl w'.heap.size 5 Try.underlying22 (by kernel_rfl) _ _ _ (by rfl) (hown.alloc _) _ [UInt8.ofNat (x / 256 ^ k)] (by rfl) (Bs.one wr 5 _ _ (byte_of x k)) (by simp; omega) (by simp; omega) ?_; intro v2 w2 hown2 hg2 hat2)
      have hk2 : Kept [] w' w2 := (hkept.alloc _).grown hg2 fun j hj => .inr (own_ge hown j hj)
      go_roundw
      case rel => exact ⟨k + 1, by omega, by go_num, by rw [lay_succ, ← List.append_assoc, u8s_append]; exact hown2, hk2⟩
      case measure => simp [intOf]; omega
    · go_wp2
      go_ret
      obtain rfl : k = 2 := by omega
      exact ⟨_, rfl, hown, hkept⟩

set_option maxHeartbeats 800000 in
theorem put64_any (v : Value) (l : List UInt8) (x : Nat) (w : World) (hv : Bs w v l) (hl : l.length ≤ 140737488355000) (hx : (x : Int) < 18446744073709551616) :
    Calls Try.prog 50 #[v, .int .u64 (x : Int)] w fun e w' => ∃ v', e = .returned v' ∧ w'.ownsRow w.heap.size 5 1 v' (l.length + 8) (u8s (l ++ lay 8 x)) ∧ Kept [] w w' := by
  have hmk := fun u => run_make_bs (P := Try.prog) u 22 5 Try.underlying22 (by kernel_rfl) l.length (l.length + 8) (by omega) (by omega)
  have ec : ((l.length + 8 : Nat) : Int) = (l.length : Int) + 8 := by omega
  rw [ec] at hmk
  have hown0 := own_made w 5 w.heap.size l.length (l.length + 8) (Nat.le_refl _) (by omega) (by unfold maxLen; omega)
  have hB : Bs (w.alloc (.cells (madeCells #[.int .u8 0] (l.length + 8)) 5)) v l := hv.kept ((Kept.refl [] w).alloc _)
  have hwr : IntKind.u64.wrap (x : Int) = (x : Int) := by rw [IntKind.wrap_u64]; omega
  clear hx
  obtain ⟨p, c, rfl, h1, h2, h3, h4⟩ := hv
  go_enter Try.func50, Try.ntmps50
  go_wp2_with (first | (go_at_call 69; refine (width64_any _).mono ?_; rintro e w' ⟨rfl, rfl⟩) | (refine wpList_copy_bs rfl (.tmp 16) (.tmp 17) 22 rfl _ 5 Try.underlying22 (by kernel_rfl) _ _ _ (by rfl) hown0 _ l (by rfl) hB rfl ?_; intro w1 hown1 hg1))
  have hk1 : Kept [] w' w1 := ((Kept.refl [] w').alloc _).grown hg1 fun k hk => .inr (own_ge hown0 k hk)
  clear hmk hown0 hB hg1 h3 h4
  go_loopw [6, 20] (fun s i wr => ∃ k : Nat, k ≤ 8 ∧ i = .int .i64 k ∧ wr.ownsRow w'.heap.size 5 1 s (l.length + k) (u8s (l ++ lay k x)) ∧ Kept [] w' wr) (fun _ i _ => 8 - (intOf i).toNat)
  case atStart => exact ⟨0, Nat.zero_le _, rfl, by simpa [lay] using hown1, hk1⟩
  case round =>
    obtain ⟨k, hk, rfl, hown, hkept⟩ := hrel
    have hsz := hkept.size
    clear hown1 hk1 ec
    by_cases hlt : k < 8
    · go_wp2_with (at_builtin; refine wpList_append_bs rfl (.tmp 23) (.tmp 29) 22 rfl w'.heap.size 5 Try.underlying22 (by kernel_rfl) _ _ _ (by rfl) (hown.alloc _) _ [UInt8.ofNat (x / 256 ^ k)] (by rfl) (Bs.one wr 5 _ _ (byte_of x k)) (by simp; omega) (by simp; omega) ?_; intro v2 w2 hown2 hg2 hat2)
      have hk2 : Kept [] w' w2 := (hkept.alloc _).grown hg2 fun j hj => .inr (own_ge hown j hj)
      go_roundw
      case rel => exact ⟨k + 1, by omega, by go_num, by rw [lay_succ, ← List.append_assoc, u8s_append]; exact hown2, hk2⟩
      case measure => simp [intOf]; omega
    · go_wp2
      go_ret
      obtain rfl : k = 8 := by omega
      exact ⟨_, rfl, hown, hkept⟩
end Go.Proofs.Ytebcmcmboomgfaa

/-
  OWN WORK. octet.Join and the document's Join.
-/
namespace Go.Proofs.Ytebcmcmboomgfaa
open Go.RowKit
set_option linter.unusedVariables false

set_option maxHeartbeats 800000 in
theorem join_any (v : Value) (ls : List (List UInt8)) (w : World) (hv : Bss w v ls) (ht : (flat ls).length ≤ 140737488355328) :
    Calls Try.prog 28 #[v] w fun e w' => ∃ v', e = .returned v' ∧ w'.ownsRow w.heap.size 5 1 v' (flat ls).length (u8s (flat ls)) ∧ Kept [] w w' := by
  have hmk := fun u => run_make_bs (P := Try.prog) u 22 5 Try.underlying22 (by kernel_rfl) 0 (flat ls).length (by omega) (by omega)
  have hown0 := own_made w 5 w.heap.size 0 (flat ls).length (Nat.le_refl _) (by omega) (by unfold maxLen; omega)
  rw [show ((0 : Nat) : Int) = 0 from rfl] at hmk
  by_cases h0 : ls.length = 0
  · obtain rfl : ls = [] := List.eq_nil_of_length_eq_zero h0
    obtain ⟨p, c, rfl, -⟩ := hv
    simp only [flat_nil, List.length_nil] at hmk hown0
    rw [show ((0 : Nat) : Int) = 0 from rfl] at hmk
    go_enter Try.func28, Try.ntmps28
    go_wp2
    refine wp_loop_rounds 1 ?_
    rw [rounds_succ]
    go_wp2
    refine wp_loop_rounds 1 ?_
    rw [rounds_succ]
    go_wp2
    go_ret
    exact ⟨_, rfl, by simpa [u8s, flat_nil] using hown0, (Kept.refl [] w).alloc _⟩
  · obtain ⟨b, o, c, rfl, h1, h2, hb, hcell⟩ := id (hv.pos (by omega))
    have hlen : ls.length ≤ 9223372036854775807 := by unfold maxLen at h2; omega
    go_enter Try.func28, Try.ntmps28
    go_wp2
    go_loop [3, 11] (fun s i => ∃ k : Nat, k ≤ ls.length ∧ i = .int .i64 k ∧ s = .int .i64 ((flat (ls.take k)).length : Int)) (fun _ i => ls.length - (intOf i).toNat)
    case atStart => exact ⟨0, Nat.zero_le _, rfl, rfl⟩
    case round =>
      obtain ⟨k, hk, rfl, rfl⟩ := hrel
      by_cases hlt : k < ls.length
      · obtain ⟨l, hl⟩ : ∃ l, ls[k]? = some l := ⟨_, List.getElem?_eq_getElem hlt⟩
        obtain ⟨q, d, hc, hB⟩ := hcell k l hl
        have hf1 := flat_le ls (k + 1)
        rw [flat_take ls k l hl, List.length_append] at hf1
        have HL : Hid (ls[k]? = some l) := hl
        clear hl
        go_wp2
        go_round
        case rel => exact ⟨k + 1, by omega, by go_num, by rw [flat_take ls k l HL.out, List.length_append]; go_num⟩
        case measure => simp [intOf]; omega
      · have e : ls.take k = ls := List.take_of_length_le (by omega)
        rw [e]
        clear e
        go_wp2
        go_loopw [6, 24] (fun s i wr => ∃ k : Nat, k ≤ ls.length ∧ i = .int .i64 k ∧ wr.ownsRow w.heap.size 5 1 s (flat (ls.take k)).length (u8s (flat (ls.take k))) ∧ Kept [] w wr) (fun _ i _ => ls.length - (intOf i).toNat)
        case atStart => exact ⟨0, Nat.zero_le _, rfl, by simpa [u8s, flat] using hown0, (Kept.refl [] w).alloc _⟩
        case round =>
          obtain ⟨j, hj, rfl, hown, hkept⟩ := hrel
          have hsz := hkept.size
          by_cases hjt : j < ls.length
          · obtain ⟨l, hl⟩ : ∃ l, ls[j]? = some l := ⟨_, List.getElem?_eq_getElem hjt⟩
            obtain ⟨q, d, hc, hB⟩ := hcell j l hl
            have hc' := hkept.cell hc (by simp)
            have hB' := hB.kept hkept
            have hf1 := flat_le ls (j + 1)
            have hf2 := flat_take ls j l hl
            rw [hf2, List.length_append] at hf1
            have HL : Hid (flat (ls.take (j + 1)) = flat (ls.take j) ++ l) := hf2
            clear hl hf2 hc hB hmk hown0
            go_wp2_with (at_builtin; refine wpList_append_bs rfl (.tmp 28) (.tmp 29) 22 rfl w.heap.size 5 Try.underlying22 (by kernel_rfl) _ _ _ (by rfl) hown _ l (by rfl) hB' (by omega) hsz ?_; intro v2 w2 hown2 hg2 hat2)
            have hk2 : Kept [] w w2 := hkept.grown hg2 fun m hm => .inr (own_ge hown m hm)
            go_roundw
            case rel => exact ⟨j + 1, by omega, by go_num, by rw [HL.out, List.length_append, u8s_append]; exact hown2, hk2⟩
            case measure => simp [intOf]; omega
          · have e : ls.take j = ls := List.take_of_length_le (by omega)
            rw [e] at hown
            clear e
            go_wp2
            go_ret
            exact ⟨_, rfl, hown, hkept⟩

end Go.Proofs.Ytebcmcmboomgfaa

/-
  OWN WORK. record: one, two, eight; Join, for rows that are made.
-/
namespace Go.Proofs.Ytebcmcmboomgfaa
open Go.RowKit
set_option linter.unusedVariables false
set_option linter.unusedSimpArgs false

theorem ofNat_mod8 (n : Nat) : UInt8.ofNat (n % 256) = UInt8.ofNat n := by
  apply UInt8.toNat_inj.1
  simp
theorem lay_putN : ∀ (n v : Nat), lay n v = putN n v
  | 0, v => rfl
  | n + 1, v => by
    rw [putN_next, ← lay_putN n v, ofNat_mod8]
    simp [lay, List.range_succ]
theorem qOne (z : Int) (w : World) (h0 : 0 ≤ z) (h1 : z < 256) : Calls Try.prog 29 #[.int .i64 z] w fun e w' => ∃ u, e = .returned u ∧ Acc w w' u (putN 1 z.toNat) := by
  obtain ⟨n, rfl⟩ : ∃ n : Nat, z = n := ⟨z.toNat, by omega⟩
  have hw : IntKind.u8.wrap (n : Int) = (n : Int) := by simp only [IntKind.wrap, IntKind.signed, IntKind.bits]; simp; omega
  have hp := fun w => put8_any (.slice none 0 0) [] n w (Bs.nil w) (by simp) h1
  go_enter Try.func29, Try.ntmps29
  go_wp2_with fail
  refine (hp _).mono ?_
  rintro e w1 ⟨u, rfl, ho, hk⟩
  go_wp2
  go_ret
  refine ⟨u, rfl, ?_, hk⟩
  rw [putN_length, Int.toNat_natCast, ← lay_putN]
  exact ho
theorem qTwo (z : Int) (w : World) (h0 : 0 ≤ z) (h1 : z < 65536) : Calls Try.prog 70 #[.int .i64 z] w fun e w' => ∃ u, e = .returned u ∧ Acc w w' u (putN 2 z.toNat) := by
  obtain ⟨n, rfl⟩ : ∃ n : Nat, z = n := ⟨z.toNat, by omega⟩
  have hw : IntKind.u16.wrap (n : Int) = (n : Int) := by simp only [IntKind.wrap, IntKind.signed, IntKind.bits]; simp; omega
  have hp := fun w => put16_any (.slice none 0 0) [] n w (Bs.nil w) (by simp) h1
  have H := @hideH _ h1
  clear h1
  go_enter Try.func70, Try.ntmps70
  go_wp2_with fail
  refine (hp _).mono ?_
  rintro e w1 ⟨u, rfl, ho, hk⟩
  go_wp2
  go_ret
  refine ⟨u, rfl, ?_, hk⟩
  rw [putN_length, Int.toNat_natCast, ← lay_putN]
  exact ho
theorem qEight (z : Int) (w : World) (h0 : 0 ≤ z) (h1 : z ≤ 1152921504606846976) : Calls Try.prog 30 #[.int .i64 z] w fun e w' => ∃ u, e = .returned u ∧ Acc w w' u (putN 8 z.toNat) := by
  obtain ⟨n, rfl⟩ : ∃ n : Nat, z = n := ⟨z.toNat, by omega⟩
  have hw : IntKind.u64.wrap (n : Int) = (n : Int) := by simp only [IntKind.wrap, IntKind.signed, IntKind.bits]; simp; omega
  have hp := fun w => put64_any (.slice none 0 0) [] n w (Bs.nil w) (by simp) (by omega)
  have H := @hideH _ h1
  clear h1
  go_enter Try.func30, Try.ntmps30
  go_wp2_with fail
  refine (hp _).mono ?_
  rintro e w1 ⟨u, rfl, ho, hk⟩
  go_wp2
  go_ret
  refine ⟨u, rfl, ?_, hk⟩
  rw [putN_length, Int.toNat_natCast, ← lay_putN]
  exact ho
theorem qJoin (v : Value) (ls : List (List UInt8)) (w : World) (hv : Bss w v ls) (ht : (flat ls).length ≤ 100000) : Calls Try.prog 28 #[v] w fun e w' => ∃ u, e = .returned u ∧ Acc w w' u (flat ls) := by
  refine (join_any v ls w hv (by omega)).mono ?_
  rintro e w' ⟨u, rfl, ho, hk⟩
  exact ⟨u, rfl, ho, hk⟩
theorem Acc.bs {w0 w : World} {u : Value} {b : List UInt8} (h : Acc w0 w u b) : Bs w u b := Bs.ofOwn h.1
theorem Acc.low {w0 w1 w : World} {u : Value} {b : List UInt8} (h : Acc w1 w u b) (k : Kept [] w0 w1) : Acc w0 w u b := ⟨own_baseK h.1 k.size, k.then h.2⟩
theorem Bss.lit4 (w : World) (e : TypeId) (a b c d : Value) (la lb lc ld : List UInt8) (ha : Bs w a la) (hb : Bs w b lb) (hc : Bs w c lc) (hd : Bs w d ld) (H : Nat) (hH : w.heap.size = H) : Bss (w.alloc (.cells #[a, b, c, d] e)) (.slice (some ⟨H, 0, none⟩) 4 4) [la, lb, lc, ld] :=
  Bss.lit w e [a, b, c, d] [la, lb, lc, ld] rfl (by simp [maxLen]) (fun i v l hv hl => by
    match i, hv, hl with
    | 0, hv, hl => simp at hv hl; subst hv hl; exact ha
    | 1, hv, hl => simp at hv hl; subst hv hl; exact hb
    | 2, hv, hl => simp at hv hl; subst hv hl; exact hc
    | 3, hv, hl => simp at hv hl; subst hv hl; exact hd
    | i + 4, hv, hl => simp at hv) H hH
theorem Bss.lit6 (w : World) (e : TypeId) (a b c d x y : Value) (la lb lc ld lx ly : List UInt8) (ha : Bs w a la) (hb : Bs w b lb) (hc : Bs w c lc) (hd : Bs w d ld) (hx : Bs w x lx) (hy : Bs w y ly) (H : Nat) (hH : w.heap.size = H) : Bss (w.alloc (.cells #[a, b, c, d, x, y] e)) (.slice (some ⟨H, 0, none⟩) 6 6) [la, lb, lc, ld, lx, ly] :=
  Bss.lit w e [a, b, c, d, x, y] [la, lb, lc, ld, lx, ly] rfl (by simp [maxLen]) (fun i v l hv hl => by
    match i, hv, hl with
    | 0, hv, hl => simp at hv hl; subst hv hl; exact ha
    | 1, hv, hl => simp at hv hl; subst hv hl; exact hb
    | 2, hv, hl => simp at hv hl; subst hv hl; exact hc
    | 3, hv, hl => simp at hv hl; subst hv hl; exact hd
    | 4, hv, hl => simp at hv hl; subst hv hl; exact hx
    | 5, hv, hl => simp at hv hl; subst hv hl; exact hy
    | i + 6, hv, hl => simp at hv) H hH
end Go.Proofs.Ytebcmcmboomgfaa

/-
  OWN WORK. record: rangeBytes.
-/
namespace Go.Proofs.Ytebcmcmboomgfaa
open Go.RowKit
set_option linter.unusedVariables false
set_option linter.unusedSimpArgs false

theorem flat3 (a b c : List UInt8) : flat [a, b, c] = a ++ (b ++ c) := by simp [flat]
theorem flat2 (a b : List UInt8) : flat [a, b] = a ++ b := by simp [flat]
theorem flat4 (a b c d : List UInt8) : flat [a, b, c, d] = a ++ (b ++ (c ++ d)) := by simp [flat]
theorem flat6 (a b c d x y : List UInt8) : flat [a, b, c, d, x, y] = a ++ (b ++ (c ++ (d ++ (x ++ y)))) := by simp [flat]
def rangeB (r : Rcd) : List UInt8 := putN 1 r.page.toNat ++ (putN 2 r.frm.toNat ++ putN 2 r.after.length)
theorem rangeB_length (r : Rcd) : (rangeB r).length = 5 := by simp [rangeB, putN_length]
set_option maxRecDepth 20000 in
set_option maxHeartbeats 3200000 in
theorem qRangeB (V : RV) (r : Rcd) (w : World) (h : SeeR w V r) (hr : rangedOk r) : Calls Try.prog 51 #[r.agg V] w fun e w' => ∃ u, e = .returned u ∧ Acc w w' u (rangeB r) := by
  obtain ⟨pb, cb, pa, ca, pr, cr, pd, cd, rfl⟩ := h.shapes
  have h1 := fun w => qOne r.page w hr.1.1 (by have := hr.1.2; omega)
  have h2 := fun w => qTwo r.frm w (by have := hr.2.2.1; omega) (by have := hr.2.2.2; omega)
  have h3 := fun w => qTwo (r.after.length : Int) w (by omega) (by have := hr.2.1.2; omega)
  rw [Int.toNat_natCast] at h3
  unfold rangeB
  unfold Rcd.agg
  dsimp only
  generalize r.after.length = na at *
  generalize r.page = page at *
  generalize r.frm = frm at *
  generalize r.before.length = nb at *
  generalize r.rows.length = nr at *
  generalize r.dirty.length = nd at *
  clear h hr
  obtain ⟨wa, hwa⟩ : ∃ wa, wa = w.alloc (.cells #[.int .i64 r.kind, .int .i64 r.birth, .int .i64 r.prev, .int .i64 r.id, .int .i64 page, .int .i64 frm, .slice pb nb cb, .slice pa na ca, .int .i64 r.next, .slice pr nr cr, .slice pd nd cd] 26) := ⟨_, rfl⟩
  have ba : Blk wa w.heap.size 26 [.int .i64 r.kind, .int .i64 r.birth, .int .i64 r.prev, .int .i64 r.id, .int .i64 page, .int .i64 frm, .slice pb nb cb, .slice pa na ca, .int .i64 r.next, .slice pr nr cr, .slice pd nd cd] := by rw [hwa]; exact Blk.new w _ _
  have KA := @hideH _ (show Kept [] w wa by rw [hwa]; exact (Kept.refl [] w).alloc _)
  have c4 := ba.cell (j := 4) rfl
  have c5 := ba.cell (j := 5) rfl
  have c7 := ba.cell (j := 7) rfl
  have tk : True := trivial
  have kx : Kept [] wa wa.drew := (Kept.refl [] wa).drew
  clear ba
  go_enter Try.func51, Try.ntmps51
  go_upto_region 1 with fail
  rw [← hwa]
  clear hwa
  go_region_held3 (fun w' => w'.cell? ⟨w.heap.size, 4, none⟩ = some (.int .i64 page) ∧ w'.cell? ⟨w.heap.size, 5, none⟩ = some (.int .i64 frm) ∧ w'.cell? ⟨w.heap.size, 7, none⟩ = some (.slice pa na ca))
    (first | (with_reducible exact ⟨kx.cell c4 (by simp), kx.cell c5 (by simp), kx.cell c7 (by simp)⟩) | (with_reducible exact ⟨(kx.alloc _).cell c4 (by simp), (kx.alloc _).cell c5 (by simp), (kx.alloc _).cell c7 (by simp)⟩) | fail)
    (first
      | (go_at_call 29; refine (h1 _).mono ?_; rintro e w1 ⟨u1, rfl, a1⟩; obtain ⟨p1, q1, rfl⟩ := own_shape2 a1.1; replace kx := kx.then a1.2)
      | (go_at_call 70; clear tk; refine (h2 _).mono ?_; rintro e w2 ⟨u2, rfl, a2⟩; obtain ⟨p2, q2, rfl⟩ := own_shape2 a2.1; replace kx := kx.then a2.2)
      | (go_at_call 70; refine (h3 _).mono ?_; rintro e w3 ⟨u3, rfl, a3⟩; obtain ⟨p3, q3, rfl⟩ := own_shape2 a3.1; replace kx := kx.then a3.2)
      | (go_at_call 28; refine (qJoin _ _ _ (Bss.lit3 w3 _ _ _ _ _ _ _ ((a1.then a2.2).then a3.2).bs (a2.then a3.2).bs a3.bs _ rfl) (by rw [flat3]; simp [putN_length])).mono ?_; rintro e w4 ⟨u4, rfl, a4⟩; have ky := kx; replace kx := (kx.alloc _).then a4.2)
      | fail)
  go_wp2
  go_ret
  refine ⟨u4, rfl, ?_⟩
  rw [← flat3]
  exact a4.low ((KA.out.then ky).alloc _)
end Go.Proofs.Ytebcmcmboomgfaa

/-
  OWN WORK. record's small questions: isLsn, isLsnOrNone, isId, isPage, isOwned, isBlank, isRange, partAtEnds.
-/
namespace Go.Proofs.Ytebcmcmboomgfaa
open Go.RowKit
set_option linter.unusedVariables false
set_option linter.unusedSimpArgs false

theorem pIsLsn (n : Int) (w : World) : Calls Try.prog 65 #[.int .i64 n] w fun e w' => e = .returned (.bool (bl (lsnOk n))) ∧ w' = w := by
  by_cases h1 : 1 ≤ n
  · have hq : bl (lsnOk n) = decide (n ≤ 1152921504606846976) := by unfold lsnOk; rw [bl_d]; simp [h1]
    rw [hq]
    clear hq
    go_enter Try.func65, Try.ntmps65
    go_wp2
    go_ret
    exact ⟨by simp, rfl⟩
  · have hq : bl (lsnOk n) = false := bl_f (fun h => h1 h.1)
    rw [hq]
    clear hq
    go_enter Try.func65, Try.ntmps65
    go_wp2
    go_ret
    exact ⟨by simp, rfl⟩
def idOk (n : Int) : Prop := 1 ≤ n ∧ n ≤ 64
def pageOk (n : Int) : Prop := 0 ≤ n ∧ n < 16
theorem pIsId (n : Int) (w : World) : Calls Try.prog 42 #[.int .i64 n] w fun e w' => e = .returned (.bool (bl (idOk n))) ∧ w' = w := by
  by_cases h1 : 1 ≤ n
  · have hq : bl (idOk n) = decide (n ≤ 64) := by unfold idOk; rw [bl_d]; simp [h1]
    rw [hq]
    clear hq
    go_enter Try.func42, Try.ntmps42
    go_wp2
    go_ret
    exact ⟨by simp, rfl⟩
  · have hq : bl (idOk n) = false := bl_f (fun h => h1 h.1)
    rw [hq]
    clear hq
    go_enter Try.func42, Try.ntmps42
    go_wp2
    go_ret
    exact ⟨by simp, rfl⟩
theorem pIsPage (n : Int) (w : World) : Calls Try.prog 66 #[.int .i64 n] w fun e w' => e = .returned (.bool (bl (pageOk n))) ∧ w' = w := by
  by_cases h1 : 0 ≤ n
  · have hq : bl (pageOk n) = decide (n < 16) := by unfold pageOk; rw [bl_d]; simp [h1]
    rw [hq]
    clear hq
    go_enter Try.func66, Try.ntmps66
    go_wp2
    go_ret
    exact ⟨by simp, rfl⟩
  · have hq : bl (pageOk n) = false := bl_f (fun h => h1 h.1)
    rw [hq]
    clear hq
    go_enter Try.func66, Try.ntmps66
    go_wp2
    go_ret
    exact ⟨by simp, rfl⟩
theorem pIsNext (n : Int) (w : World) : Calls Try.prog 46 #[.int .i64 n] w fun e w' => e = .returned (.bool (bl (nextOk n))) ∧ w' = w := by
  by_cases h1 : n = 0
  · subst h1
    have hq : bl (nextOk 0) = true := bl_t (by unfold nextOk; omega)
    rw [hq]
    clear hq
    go_enter Try.func46, Try.ntmps46
    go_wp2
    go_ret
    exact ⟨by simp, rfl⟩
  · have hq : bl (nextOk n) = bl (lsnOk n) := congrArg bl (propext (by unfold nextOk lsnOk; omega))
    have h1b : (n == 0) = false := by simp [h1]
    rw [hq]
    clear hq
    go_enter Try.func46, Try.ntmps46
    go_wp2_with fail
    refine (pIsLsn n _).mono ?_
    rintro e w1 ⟨rfl, rfl⟩
    go_wp2
    go_ret
    exact ⟨by simp [h1], rfl⟩
def ownedOk (r : Rcd) : Prop := lsnOk r.birth ∧ lsnOk r.prev
theorem pOwned (V : RV) (r : Rcd) (w : World) : Calls Try.prog 43 #[r.agg V] w fun e w' => e = .returned (.bool (bl (ownedOk r))) ∧ Kept [] w w' := by
  have h1 := fun w => pIsLsn r.birth w
  have h2 := fun w => pIsLsn r.prev w
  by_cases c1 : lsnOk r.birth
  · rw [bl_t c1] at h1
    have hq : bl (ownedOk r) = bl (lsnOk r.prev) := congrArg bl (propext (by unfold ownedOk; simp [c1]))
    rw [hq]
    clear hq c1
    unfold Rcd.agg
    go_enter Try.func43, Try.ntmps43
    go_wp2_with fail
    refine (h1 _).mono ?_
    rintro e w1 ⟨rfl, rfl⟩
    go_wp2_with fail
    refine (h2 _).mono ?_
    rintro e w1 ⟨rfl, rfl⟩
    go_wp2
    go_ret
    exact ⟨by simp, (Kept.refl [] w).alloc _⟩
  · rw [bl_f c1] at h1
    have hq : bl (ownedOk r) = false := bl_f fun h => c1 h.1
    rw [hq]
    clear hq c1
    unfold Rcd.agg
    go_enter Try.func43, Try.ntmps43
    go_wp2_with fail
    refine (h1 _).mono ?_
    rintro e w1 ⟨rfl, rfl⟩
    go_wp2
    go_ret
    exact ⟨by simp, (Kept.refl [] w).alloc _⟩
end Go.Proofs.Ytebcmcmboomgfaa

/-
  OWN WORK (by mkpr.py). record: partAtEnds, isRow.
-/
namespace Go.Proofs.Ytebcmcmboomgfaa
open Go.RowKit
set_option linter.unusedVariables false
set_option linter.unusedSimpArgs false

theorem byteNe {x y : UInt8} (h : x ≠ y) : ((x.toNat : Int) != (y.toNat : Int)) = true := by
  simp only [bne_iff_ne, ne_eq, Int.natCast_inj]
  exact fun e => h (UInt8.toNat_inj.1 e)
def partsL (before after : List UInt8) : Prop := before.length = after.length ∧ before[0]? ≠ after[0]? ∧ before[after.length - 1]? ≠ after[after.length - 1]?
set_option maxRecDepth 20000 in
set_option maxHeartbeats 6400000 in
theorem pParts (vb va : Value) (before after : List UInt8) (w : World) (hb : Bs w vb before) (ha : Bs w va after) (hn : 0 < after.length) : Calls Try.prog 45 #[vb, va] w fun e w' => e = .returned (.bool (bl (partsL before after))) ∧ Kept [] w w' := by
  haveI HNE : ∀ w2, Nonempty (Calm w2) := calmNe
  have hmx := @hideH _ (show after.length ≤ maxLen from (by obtain ⟨_, _, e, h1, h2, _⟩ := ha; exact Nat.le_trans h1 h2))
  obtain ⟨ba, oa, ca, rfl, -, -, -, hac⟩ := ha.pos hn
  obtain ⟨Q, hQ⟩ : ∃ Q, Q = bl (partsL before after) := ⟨_, rfl⟩
  rw [← hQ]
  have HQ := @hideH _ hQ
  clear hQ
  obtain ⟨na, hna⟩ : ∃ na, na = after.length := ⟨_, rfl⟩
  rw [← hna] at hn ⊢
  have HNA := @hideH _ hna
  clear hna
  have wna : IntKind.i64.wrap ((na : Int) - 1) = ((na - 1 : Nat) : Int) := by rw [show (na : Int) - 1 = ((na - 1 : Nat) : Int) by omega]; exact wrap_i64_of (by omega) (by have := hmx.out; have e := HNA.out; unfold maxLen at this; omega)
  have nz : (0 : Int) < (na : Int) := by omega
  have nl : ((na - 1 : Nat) : Int) < (na : Int) := by omega
  have nl0 : (0 : Int) ≤ ((na - 1 : Nat) : Int) := by omega
  by_cases hlen : before.length = na
  rotate_left
  · have eQ := @hideH _ (show Q = false by rw [HQ.out]; exact bl_f fun h => hlen (by rw [HNA.out]; exact h.1))
    obtain ⟨pb, cb, rfl, -⟩ := hb
    obtain ⟨nb, hnb⟩ : ∃ nb, nb = before.length := ⟨_, rfl⟩
    rw [← hnb] at hlen ⊢
    have hd : ((nb : Int) == (na : Int)) = false := by simp; omega
    clear hnb hlen hac HQ HNA ha
    go_enter Try.func45, Try.ntmps45
    go_upto_region 2 with fail
    have KR := @hideH _ (Kept.refl [] w)
    refine wp_region_calm KR.out (by kernel_rfl) (by kernel_rfl) ?_
    repeat (go_big_quiet_step (fail))
    refine wpQuiet_nil ?_
    intro _ hw'
    obtain ⟨sq, hw''⟩ := hw'
    subst hw''
    have ks := sq.kept
    generalize sq.at = wx at ks ⊢
    clear sq
    have RK := @hideH _ ks
    clear ks
    go_wp2
    go_ret
    exact ⟨by rw [eQ.out]; rfl, RK.out⟩
  obtain ⟨x0, hx0⟩ : ∃ x, before[0]? = some x := ⟨_, List.getElem?_eq_getElem (by omega)⟩
  obtain ⟨y0, hy0⟩ : ∃ x, after[0]? = some x := ⟨_, List.getElem?_eq_getElem (by have := HNA.out; omega)⟩
  obtain ⟨x1, hx1⟩ : ∃ x, before[na - 1]? = some x := ⟨_, List.getElem?_eq_getElem (by omega)⟩
  obtain ⟨y1, hy1⟩ : ∃ x, after[na - 1]? = some x := ⟨_, List.getElem?_eq_getElem (by have := HNA.out; omega)⟩
  have HXY := @hideH _ (And.intro hx0 (And.intro hy0 (And.intro hx1 hy1)))
  obtain ⟨bb, ob, cb, rfl, -, -, -, hbc⟩ := hb.pos (by omega)
  have HL := @hideH _ hlen
  rw [hlen]
  have v0 : w.cell? ⟨bb, ob, none⟩ = some (.int .u8 (x0.toNat : Int)) := hbc 0 x0 hx0
  have v1 : w.cell? ⟨ba, oa, none⟩ = some (.int .u8 (y0.toNat : Int)) := hac 0 y0 hy0
  have v2 := hbc (na - 1) x1 hx1
  have v3 := hac (na - 1) y1 hy1
  clear hx0 hy0 hx1 hy1 hbc hac hlen hb ha
  by_cases hz0 : x0 = y0
  · have eQ := @hideH _ (show Q = false by rw [HQ.out]; exact bl_f fun h => h.2.1 (by rw [HXY.out.1, HXY.out.2.1, hz0]))
    have hbz : ((x0.toNat : Int) != (y0.toNat : Int)) = false := by simp [hz0]
    clear hz0
    go_enter Try.func45, Try.ntmps45
    go_upto_region 2 with fail
    have s_v0 := fun (s : Calm w) => s.kept.cell v0 (by simp)
    have s_v1 := fun (s : Calm w) => s.kept.cell v1 (by simp)
    have KR := @hideH _ (Kept.refl [] w)
    clear v0 v1 v2 v3
    refine wp_region_calm KR.out (by kernel_rfl) (by kernel_rfl) ?_
    repeat (go_big_quiet_step (fail))
    refine wpQuiet_nil ?_
    intro _ hw'
    obtain ⟨sq, hw''⟩ := hw'
    subst hw''
    have ks := sq.kept
    generalize sq.at = wx at ks ⊢
    clear sq
    have RK := @hideH _ ks
    clear ks s_v0 s_v1
    go_wp2
    go_ret
    exact ⟨by rw [eQ.out]; rfl, RK.out⟩
  have hbz := byteNe hz0
  by_cases hz1 : x1 = y1
  · have eQ := @hideH _ (show Q = false by rw [HQ.out]; exact bl_f fun h => h.2.2 (by rw [← HNA.out, HXY.out.2.2.1, HXY.out.2.2.2, hz1]))
    have hb1 : ((x1.toNat : Int) != (y1.toNat : Int)) = false := by simp [hz1]
    clear hz0 hz1
    go_enter Try.func45, Try.ntmps45
    go_upto_region 2 with fail
    have s_v0 := fun (s : Calm w) => s.kept.cell v0 (by simp)
    have s_v1 := fun (s : Calm w) => s.kept.cell v1 (by simp)
    have s_v2 := fun (s : Calm w) => s.kept.cell v2 (by simp)
    have s_v3 := fun (s : Calm w) => s.kept.cell v3 (by simp)
    have KR := @hideH _ (Kept.refl [] w)
    clear v0 v1 v2 v3
    refine wp_region_calm KR.out (by kernel_rfl) (by kernel_rfl) ?_
    repeat (go_big_quiet_step (fail))
    refine wpQuiet_nil ?_
    intro _ hw'
    obtain ⟨sq, hw''⟩ := hw'
    subst hw''
    have ks := sq.kept
    generalize sq.at = wx at ks ⊢
    clear sq
    have RK := @hideH _ ks
    clear ks s_v0 s_v1 s_v2 s_v3
    go_wp2
    go_ret
    exact ⟨by rw [eQ.out]; rfl, RK.out⟩
  have hb1 := byteNe hz1
  have eQ := @hideH _ (show Q = true by rw [HQ.out]; exact bl_t ⟨by rw [HL.out, HNA.out], by rw [HXY.out.1, HXY.out.2.1]; simpa using hz0, by rw [← HNA.out, HXY.out.2.2.1, HXY.out.2.2.2]; simpa using hz1⟩)
  clear hz0 hz1
  go_enter Try.func45, Try.ntmps45
  go_upto_region 2 with fail
  have s_v0 := fun (s : Calm w) => s.kept.cell v0 (by simp)
  have s_v1 := fun (s : Calm w) => s.kept.cell v1 (by simp)
  have s_v2 := fun (s : Calm w) => s.kept.cell v2 (by simp)
  have s_v3 := fun (s : Calm w) => s.kept.cell v3 (by simp)
  have KR := @hideH _ (Kept.refl [] w)
  clear v0 v1 v2 v3
  refine wp_region_calm KR.out (by kernel_rfl) (by kernel_rfl) ?_
  repeat (go_big_quiet_step (fail))
  refine wpQuiet_nil ?_
  intro _ hw'
  obtain ⟨sq, hw''⟩ := hw'
  subst hw''
  have ks := sq.kept
  generalize sq.at = wx at ks ⊢
  clear sq
  have RK := @hideH _ ks
  clear ks s_v0 s_v1 s_v2 s_v3
  go_wp2
  go_ret
  exact ⟨by rw [eQ.out]; rfl, RK.out⟩
set_option maxHeartbeats 1600000 in
theorem qRow (x : RowR) (w : World) : Calls Try.prog 67 #[.agg #[.int .i64 x.birth, .int .i64 x.id, .int .i64 x.state, .int .i64 x.last, .int .i64 x.next]] w fun e w' => e = .returned (.bool (bl (rowOk x))) ∧ Kept [] w w' := by
  obtain ⟨birth, id, state, last, next⟩ := x
  dsimp only
  have hl1 := fun w => pIsLsn birth w
  have hl4 := fun w => pIsId id w
  have hl2 := fun w => pIsLsn last w
  have hl3 := fun w => pIsNext next w
  have F : ∀ {P : Prop}, (rowOk ⟨birth, id, state, last, next⟩ → P) → ¬ P → bl (rowOk ⟨birth, id, state, last, next⟩) = false := fun h1 h2 => bl_f fun h => h2 (h1 h)
  by_cases h1 : lsnOk birth
  · rw [bl_t h1] at hl1
    by_cases h2 : idOk id
    · rw [bl_t h2] at hl4
      by_cases h4 : state = 1
      · subst h4
        by_cases h5 : lsnOk last
        · rw [bl_t h5] at hl2
          by_cases h6 : nextOk next
          · rw [bl_t h6] at hl3
            rw [bl_t (show rowOk ⟨birth, id, 1, last, next⟩ from ⟨h1, h2, .inl rfl, h5, h6⟩)]
            clear F h1 h2 h5 h6
            go_enter Try.func67, Try.ntmps67
            go_wp2_with fail
            refine (hl1 _).mono ?_
            rintro e w1 ⟨rfl, rfl⟩
            go_wp2_with fail
            refine (hl4 _).mono ?_
            rintro e w2 ⟨rfl, rfl⟩
            go_wp2_with fail
            refine (hl2 _).mono ?_
            rintro e w3 ⟨rfl, rfl⟩
            go_wp2_with fail
            refine (hl3 _).mono ?_
            rintro e w4 ⟨rfl, rfl⟩
            go_wp2
            go_ret
            exact ⟨by simp, (Kept.refl [] _).alloc _⟩
          · rw [F (fun h => h.2.2.2.2) h6]
            rw [bl_f h6] at hl3
            clear F h1 h2 h5 h6
            go_enter Try.func67, Try.ntmps67
            go_wp2_with fail
            refine (hl1 _).mono ?_
            rintro e w1 ⟨rfl, rfl⟩
            go_wp2_with fail
            refine (hl4 _).mono ?_
            rintro e w2 ⟨rfl, rfl⟩
            go_wp2_with fail
            refine (hl2 _).mono ?_
            rintro e w3 ⟨rfl, rfl⟩
            go_wp2_with fail
            refine (hl3 _).mono ?_
            rintro e w4 ⟨rfl, rfl⟩
            go_wp2
            go_ret
            exact ⟨by simp, (Kept.refl [] _).alloc _⟩
        · rw [F (fun h => h.2.2.2.1) h5]
          rw [bl_f h5] at hl2
          clear F h1 h2 h5
          go_enter Try.func67, Try.ntmps67
          go_wp2_with fail
          refine (hl1 _).mono ?_
          rintro e w1 ⟨rfl, rfl⟩
          go_wp2_with fail
          refine (hl4 _).mono ?_
          rintro e w2 ⟨rfl, rfl⟩
          go_wp2_with fail
          refine (hl2 _).mono ?_
          rintro e w3 ⟨rfl, rfl⟩
          go_wp2
          go_ret
          exact ⟨by simp, (Kept.refl [] _).alloc _⟩
      · by_cases h4' : state = 2
        · subst h4'
          by_cases h5 : lsnOk last
          · rw [bl_t h5] at hl2
            by_cases h6 : nextOk next
            · rw [bl_t h6] at hl3
              rw [bl_t (show rowOk ⟨birth, id, 2, last, next⟩ from ⟨h1, h2, .inr rfl, h5, h6⟩)]
              clear F h1 h2 h5 h6
              go_enter Try.func67, Try.ntmps67
              go_wp2_with fail
              refine (hl1 _).mono ?_
              rintro e w1 ⟨rfl, rfl⟩
              go_wp2_with fail
              refine (hl4 _).mono ?_
              rintro e w2 ⟨rfl, rfl⟩
              go_wp2_with fail
              refine (hl2 _).mono ?_
              rintro e w3 ⟨rfl, rfl⟩
              go_wp2_with fail
              refine (hl3 _).mono ?_
              rintro e w4 ⟨rfl, rfl⟩
              go_wp2
              go_ret
              exact ⟨by simp, (Kept.refl [] _).alloc _⟩
            · rw [F (fun h => h.2.2.2.2) h6]
              rw [bl_f h6] at hl3
              clear F h1 h2 h5 h6
              go_enter Try.func67, Try.ntmps67
              go_wp2_with fail
              refine (hl1 _).mono ?_
              rintro e w1 ⟨rfl, rfl⟩
              go_wp2_with fail
              refine (hl4 _).mono ?_
              rintro e w2 ⟨rfl, rfl⟩
              go_wp2_with fail
              refine (hl2 _).mono ?_
              rintro e w3 ⟨rfl, rfl⟩
              go_wp2_with fail
              refine (hl3 _).mono ?_
              rintro e w4 ⟨rfl, rfl⟩
              go_wp2
              go_ret
              exact ⟨by simp, (Kept.refl [] _).alloc _⟩
          · rw [F (fun h => h.2.2.2.1) h5]
            rw [bl_f h5] at hl2
            clear F h1 h2 h5
            go_enter Try.func67, Try.ntmps67
            go_wp2_with fail
            refine (hl1 _).mono ?_
            rintro e w1 ⟨rfl, rfl⟩
            go_wp2_with fail
            refine (hl4 _).mono ?_
            rintro e w2 ⟨rfl, rfl⟩
            go_wp2_with fail
            refine (hl2 _).mono ?_
            rintro e w3 ⟨rfl, rfl⟩
            go_wp2
            go_ret
            exact ⟨by simp, (Kept.refl [] _).alloc _⟩
        · rw [F (fun h => h.2.2.1) (fun h => by rcases h with h | h; exact h4 h; exact h4' h)]
          have e1 : (state == 1) = false := by simp [h4]
          have e2 : (state == 2) = false := by simp [h4']
          clear F h1 h2
          go_enter Try.func67, Try.ntmps67
          go_wp2_with fail
          refine (hl1 _).mono ?_
          rintro e w1 ⟨rfl, rfl⟩
          go_wp2_with fail
          refine (hl4 _).mono ?_
          rintro e w2 ⟨rfl, rfl⟩
          go_wp2
          go_ret
          exact ⟨by simp, (Kept.refl [] _).alloc _⟩
    · rw [F (fun h => h.2.1) h2]
      rw [bl_f h2] at hl4
      clear F h1 h2
      go_enter Try.func67, Try.ntmps67
      go_wp2_with fail
      refine (hl1 _).mono ?_
      rintro e w1 ⟨rfl, rfl⟩
      go_wp2_with fail
      refine (hl4 _).mono ?_
      rintro e w2 ⟨rfl, rfl⟩
      go_wp2
      go_ret
      exact ⟨by simp, (Kept.refl [] _).alloc _⟩
  · rw [F (fun h => h.1) h1]
    rw [bl_f h1] at hl1
    clear F h1
    go_enter Try.func67, Try.ntmps67
    go_wp2_with fail
    refine (hl1 _).mono ?_
    rintro e w1 ⟨rfl, rfl⟩
    go_wp2
    go_ret
    exact ⟨by simp, (Kept.refl [] _).alloc _⟩
end Go.Proofs.Ytebcmcmboomgfaa

/-
  OWN WORK (by mkpr2.py). record: isTable, isDirty.
-/
namespace Go.Proofs.Ytebcmcmboomgfaa
open Go.RowKit
set_option linter.unusedVariables false
set_option linter.unusedSimpArgs false

def tableOk (l : List RowR) : Prop := l.length ≤ 8 ∧ (∀ x ∈ l, rowOk x) ∧ ∀ (i : Nat) x y, l[i]? = some x → l[i + 1]? = some y → x.birth < y.birth
def dirtyOk (l : List RecR) : Prop := l.length ≤ 16 ∧ (∀ x ∈ l, recOk x) ∧ ∀ (i : Nat) x y, l[i]? = some x → l[i + 1]? = some y → x.page < y.page
theorem listsOk_iff (r : Rcd) : listsOk r ↔ tableOk r.rows ∧ dirtyOk r.dirty := by
  unfold listsOk tableOk dirtyOk
  exact ⟨fun ⟨⟨a, b⟩, c, d⟩ => ⟨⟨a, c⟩, b, d⟩, fun ⟨⟨a, c⟩, b, d⟩ => ⟨⟨a, b⟩, c, d⟩⟩
def lastB (l : List RowR) : Nat → Int
  | 0 => 0
  | k + 1 => match l[k]? with
    | some x => x.birth
    | none => 0
def lastP (l : List RecR) : Nat → Int
  | 0 => -1
  | k + 1 => match l[k]? with
    | some x => x.page
    | none => -1
theorem lastB_next {l : List RowR} {k : Nat} {x : RowR} (h : l[k]? = some x) : lastB l (k + 1) = x.birth := by simp [lastB, h]
theorem lastP_next {l : List RecR} {k : Nat} {x : RecR} (h : l[k]? = some x) : lastP l (k + 1) = x.page := by simp [lastP, h]
theorem lastB_bad {l : List RowR} {k : Nat} {x : RowR} (h : l[k]? = some x) (hl : x.birth ≤ lastB l k) : ¬ tableOk l := fun ⟨_, h2, h3⟩ => by
  cases k with
  | zero => have := (h2 x (List.mem_of_getElem? h)).1.1; simp [lastB] at hl; omega
  | succ k =>
    obtain ⟨y, hy⟩ : ∃ y, l[k]? = some y := ⟨_, List.getElem?_eq_getElem (by have := (List.getElem?_eq_some_iff.1 h).1; omega)⟩
    rw [lastB_next hy] at hl
    have := h3 k y x hy h
    omega
theorem lastP_bad {l : List RecR} {k : Nat} {x : RecR} (h : l[k]? = some x) (hl : x.page ≤ lastP l k) : ¬ dirtyOk l := fun ⟨_, h2, h3⟩ => by
  cases k with
  | zero => have := (h2 x (List.mem_of_getElem? h)).1.1; simp [lastP] at hl; omega
  | succ k =>
    obtain ⟨y, hy⟩ : ∃ y, l[k]? = some y := ⟨_, List.getElem?_eq_getElem (by have := (List.getElem?_eq_some_iff.1 h).1; omega)⟩
    rw [lastP_next hy] at hl
    have := h3 k y x hy h
    omega
theorem rowsTo_next2 {l : List RowR} {k : Nat} {x : RowR} (h : rowsTo l k) (hx : l[k]? = some x) (ho : rowOk x) (hl : ¬ x.birth ≤ lastB l k) : rowsTo l (k + 1) :=
  h.next hx ho fun j y e hy => by subst e; rw [lastB_next hy] at hl; omega
theorem recsTo_next2 {l : List RecR} {k : Nat} {x : RecR} (h : recsTo l k) (hx : l[k]? = some x) (ho : recOk x) (hl : ¬ x.page ≤ lastP l k) : recsTo l (k + 1) :=
  h.next hx ho fun j y e hy => by subst e; rw [lastP_next hy] at hl; omega

set_option maxRecDepth 20000 in
set_option maxHeartbeats 6400000 in
theorem qTable (v : Value) (l : List RowR) (w : World) (h : Cs w 5 v l.length (rcells l)) : Calls Try.prog 47 #[v] w fun e w' => e = .returned (.bool (bl (tableOk l))) ∧ Kept [] w w' := by
  obtain ⟨Q, hQ⟩ : ∃ Q, Q = bl (tableOk l) := ⟨_, rfl⟩
  rw [← hQ]
  have HF := @hideH _ (show ¬ tableOk l → Q = false from fun h => by rw [hQ]; exact bl_f h)
  have HT := @hideH _ (show l.length ≤ 8 → rowsTo l l.length → Q = true from fun h1 h2 => by rw [hQ]; exact bl_t ⟨h1, h2.all⟩)
  clear hQ
  have HC := @hideH _ h
  obtain ⟨-, -, p, c, rfl, -⟩ := h
  obtain ⟨n, hn⟩ : ∃ n, n = l.length := ⟨_, rfl⟩
  rw [← hn]
  have HN := @hideH _ hn
  clear hn
  by_cases h8 : (8 : Int) < (n : Int)
  · have eQ := @hideH _ (HF.out fun h => by have := h.1; have e := HN.out; omega)
    go_enter Try.func47, Try.ntmps47
    go_wp2
    go_ret
    exact ⟨by rw [eQ.out]; rfl, Kept.refl [] _⟩
  have HS := @hideH _ (show n ≤ 8 by omega)
  go_enter Try.func47, Try.ntmps47
  go_wp2
  go_loopw [3, 5, 11] (fun vb vp vi wr => ∃ k : Nat, k ≤ n ∧ vi = .int .i64 k ∧ vb = .int .i64 (lastB l k) ∧ Hid (rowsTo l k ∧ Kept [] w wr)) (fun _ _ vi _ => n - (intOf vi).toNat)
  case atStart => exact ⟨0, Nat.zero_le _, rfl, rfl, ⟨fun i x hi => by omega, fun i x y hi => by omega⟩, Kept.refl [] _⟩
  case round =>
    obtain ⟨k, hk, rfl, rfl, hh⟩ := hrel
    by_cases hkl : k < n
    · have hkl' : (k : Int) < (n : Int) := by omega
      have hk0 : (0 : Int) ≤ (k : Int) := by omega
      have wk : IntKind.i64.wrap ((k : Int) + 1) = (k : Int) + 1 := wrap_i64_of (by omega) (by have := HS.out; omega)
      obtain ⟨x, hx⟩ : ∃ x, l[k]? = some x := ⟨_, List.getElem?_eq_getElem (by have := HN.out; omega)⟩
      obtain ⟨b, o, c', ev, hc⟩ := (HC.out.kept hh.out.2).rowAt (by have := HN.out; omega)
      simp only [Value.slice.injEq] at ev
      obtain ⟨rfl, -, rfl⟩ := ev
      obtain ⟨x0, x1, x2, x3, x4⟩ := hc k x hx
      obtain ⟨B, hB⟩ : ∃ B, B = lastB l k := ⟨_, rfl⟩
      rw [← hB]
      have HX := @hideH _ (And.intro hx hB)
      obtain ⟨wz, hwz⟩ : ∃ wz, wz = wr.alloc (.cells #[.int .i64 x.birth, .int .i64 x.id, .int .i64 x.state, .int .i64 x.last, .int .i64 x.next] 66) := ⟨_, rfl⟩
      have kz : Kept [] wr wz := by rw [hwz]; exact (Kept.refl [] wr).alloc _
      have bz : Blk wz wr.heap.size 66 [.int .i64 x.birth, .int .i64 x.id, .int .i64 x.state, .int .i64 x.last, .int .i64 x.next] := by rw [hwz]; exact Blk.new wr _ _
      have z0 := bz.cell (j := 0) rfl
      have z1 := bz.cell (j := 1) rfl
      have z2 := bz.cell (j := 2) rfl
      have z3 := bz.cell (j := 3) rfl
      have z4 := bz.cell (j := 4) rfl
      have KZ := @hideH _ (hh.out.2.then kz)
      clear hx hB hc bz kz
      by_cases hlt : x.birth ≤ B
      · have eQ := @hideH _ (HF.out (lastB_bad HX.out.1 (by rw [← HX.out.2]; exact hlt)))
        have KE := KZ
        go_upto_region 7 with fail
        rw [← hwz]
        clear hwz
        go_wp2
        go_ret
        exact ⟨by rw [eQ.out]; rfl, KE.out⟩
      have HLT := @hideH _ hlt
      have hr := fun w => qRow x w
      by_cases hok : rowOk x
      · have HOK := @hideH _ hok
        simp only [bl_t hok] at hr
        clear hok
        go_upto_region 7 with fail
        rw [← hwz]
        clear hwz
        go_wp2_with fail
        refine (hr _).mono ?_
        rintro e w2 ⟨rfl, k2⟩
        clear hr
        replace z0 := k2.cell z0 (by simp)
        replace z1 := k2.cell z1 (by simp)
        replace z2 := k2.cell z2 (by simp)
        replace z3 := k2.cell z3 (by simp)
        replace z4 := k2.cell z4 (by simp)
        have KE := @hideH _ (KZ.out.then k2)
        clear k2
        have REL := @hideH _ (rowsTo_next2 hh.out.1 HX.out.1 HOK.out (by rw [← HX.out.2]; have := HLT.out; omega))
        have EB := @hideH _ (lastB_next HX.out.1)
        clear hh
        go_wp2
        go_roundw
        case rel => exact ⟨k + 1, by omega, by go_num, by rw [EB.out], REL.out, KE.out⟩
        case measure => simp [intOf]; omega
      · have eQ := @hideH _ (HF.out fun h => hok (h.2.1 x (List.mem_of_getElem? HX.out.1)))
        simp only [bl_f hok] at hr
        clear hok
        go_upto_region 7 with fail
        rw [← hwz]
        clear hwz
        go_wp2_with fail
        refine (hr _).mono ?_
        rintro e w2 ⟨rfl, k2⟩
        clear hr
        have KE := @hideH _ (KZ.out.then k2)
        clear k2
        go_wp2
        go_ret
        exact ⟨by rw [eQ.out]; rfl, KE.out⟩
    · have hkl' : ¬ (k : Int) < (n : Int) := by omega
      obtain rfl : k = n := by omega
      have eQ := @hideH _ (HT.out (by have := HS.out; have e := HN.out; omega) (by rw [← HN.out]; exact hh.out.1))
      have KE := @hideH _ hh.out.2
      clear hh
      go_wp2
      go_ret
      exact ⟨by rw [eQ.out]; rfl, KE.out⟩
set_option maxRecDepth 20000 in
set_option maxHeartbeats 6400000 in
theorem qDirty (v : Value) (l : List RecR) (w : World) (h : Cs w 2 v l.length (dcells l)) : Calls Try.prog 48 #[v] w fun e w' => e = .returned (.bool (bl (dirtyOk l))) ∧ Kept [] w w' := by
  obtain ⟨Q, hQ⟩ : ∃ Q, Q = bl (dirtyOk l) := ⟨_, rfl⟩
  rw [← hQ]
  have HF := @hideH _ (show ¬ dirtyOk l → Q = false from fun h => by rw [hQ]; exact bl_f h)
  have HT := @hideH _ (show l.length ≤ 16 → recsTo l l.length → Q = true from fun h1 h2 => by rw [hQ]; exact bl_t ⟨h1, h2.all⟩)
  clear hQ
  have HC := @hideH _ h
  obtain ⟨-, -, p, c, rfl, -⟩ := h
  obtain ⟨n, hn⟩ : ∃ n, n = l.length := ⟨_, rfl⟩
  rw [← hn]
  have HN := @hideH _ hn
  clear hn
  by_cases h8 : (16 : Int) < (n : Int)
  · have eQ := @hideH _ (HF.out fun h => by have := h.1; have e := HN.out; omega)
    go_enter Try.func48, Try.ntmps48
    go_wp2
    go_ret
    exact ⟨by rw [eQ.out]; rfl, Kept.refl [] _⟩
  have HS := @hideH _ (show n ≤ 16 by omega)
  go_enter Try.func48, Try.ntmps48
  go_wp2
  go_loopw [3, 5, 11] (fun vb vp vi wr => ∃ k : Nat, k ≤ n ∧ vi = .int .i64 k ∧ vb = .int .i64 (lastP l k) ∧ Hid (recsTo l k ∧ Kept [] w wr)) (fun _ _ vi _ => n - (intOf vi).toNat)
  case atStart => exact ⟨0, Nat.zero_le _, rfl, rfl, ⟨fun i x hi => by omega, fun i x y hi => by omega⟩, Kept.refl [] _⟩
  case round =>
    obtain ⟨k, hk, rfl, rfl, hh⟩ := hrel
    by_cases hkl : k < n
    · have hkl' : (k : Int) < (n : Int) := by omega
      have hk0 : (0 : Int) ≤ (k : Int) := by omega
      have wk : IntKind.i64.wrap ((k : Int) + 1) = (k : Int) + 1 := wrap_i64_of (by omega) (by have := HS.out; omega)
      obtain ⟨x, hx⟩ : ∃ x, l[k]? = some x := ⟨_, List.getElem?_eq_getElem (by have := HN.out; omega)⟩
      obtain ⟨b, o, c', ev, hc⟩ := (HC.out.kept hh.out.2).recAt (by have := HN.out; omega)
      simp only [Value.slice.injEq] at ev
      obtain ⟨rfl, -, rfl⟩ := ev
      obtain ⟨x0, x1⟩ := hc k x hx
      obtain ⟨B, hB⟩ : ∃ B, B = lastP l k := ⟨_, rfl⟩
      rw [← hB]
      have HX := @hideH _ (And.intro hx hB)
      obtain ⟨wz, hwz⟩ : ∃ wz, wz = wr.alloc (.cells #[.int .i64 x.page, .int .i64 x.lsn] 68) := ⟨_, rfl⟩
      have kz : Kept [] wr wz := by rw [hwz]; exact (Kept.refl [] wr).alloc _
      have bz : Blk wz wr.heap.size 68 [.int .i64 x.page, .int .i64 x.lsn] := by rw [hwz]; exact Blk.new wr _ _
      have z0 := bz.cell (j := 0) rfl
      have z1 := bz.cell (j := 1) rfl
      have KZ := @hideH _ (hh.out.2.then kz)
      clear hx hB hc bz kz
      by_cases hlt : x.page ≤ B
      · have eQ := @hideH _ (HF.out (lastP_bad HX.out.1 (by rw [← HX.out.2]; exact hlt)))
        have KE := KZ
        go_upto_region 7 with fail
        rw [← hwz]
        clear hwz
        go_wp2
        go_ret
        exact ⟨by rw [eQ.out]; rfl, KE.out⟩
      have HLT := @hideH _ hlt
      have KE := KZ
      have hp := fun w => pIsPage x.page w
      have hl := fun w => pIsLsn x.lsn w
      by_cases hpg : pageOk x.page
      · simp only [bl_t hpg] at hp
        by_cases hls : lsnOk x.lsn
        · have HOK := @hideH _ (show recOk x from ⟨hpg, hls⟩)
          simp only [bl_t hls] at hl
          clear hpg hls
          go_upto_region 7 with fail
          rw [← hwz]
          clear hwz
          go_wp2_with fail
          refine (hp _).mono ?_
          rintro e w2 ⟨rfl, rfl⟩
          go_wp2_with fail
          refine (hl _).mono ?_
          rintro e w2 ⟨rfl, rfl⟩
          clear hp hl
          have REL := @hideH _ (recsTo_next2 hh.out.1 HX.out.1 HOK.out (by rw [← HX.out.2]; have := HLT.out; omega))
          have EB := @hideH _ (lastP_next HX.out.1)
          clear hh
          go_wp2
          go_roundw
          case rel => exact ⟨k + 1, by omega, by go_num, by rw [EB.out], REL.out, KE.out⟩
          case measure => simp [intOf]; omega
        · have eQ := @hideH _ (HF.out fun h => hls (h.2.1 x (List.mem_of_getElem? HX.out.1)).2)
          simp only [bl_f hls] at hl
          clear hpg hls
          go_upto_region 7 with fail
          rw [← hwz]
          clear hwz
          go_wp2_with fail
          refine (hp _).mono ?_
          rintro e w2 ⟨rfl, rfl⟩
          go_wp2_with fail
          refine (hl _).mono ?_
          rintro e w2 ⟨rfl, rfl⟩
          clear hp hl
          go_wp2
          go_ret
          exact ⟨by rw [eQ.out]; rfl, KE.out⟩
      · have eQ := @hideH _ (HF.out fun h => hpg (h.2.1 x (List.mem_of_getElem? HX.out.1)).1)
        simp only [bl_f hpg] at hp
        clear hpg
        go_upto_region 7 with fail
        rw [← hwz]
        clear hwz
        go_wp2_with fail
        refine (hp _).mono ?_
        rintro e w2 ⟨rfl, rfl⟩
        clear hp hl
        go_wp2
        go_ret
        exact ⟨by rw [eQ.out]; rfl, KE.out⟩
    · have hkl' : ¬ (k : Int) < (n : Int) := by omega
      obtain rfl : k = n := by omega
      have eQ := @hideH _ (HT.out (by have := HS.out; have e := HN.out; omega) (by rw [← HN.out]; exact hh.out.1))
      have KE := @hideH _ hh.out.2
      clear hh
      go_wp2
      go_ret
      exact ⟨by rw [eQ.out]; rfl, KE.out⟩
end Go.Proofs.Ytebcmcmboomgfaa

/-
  OWN WORK (by mkpr4.py). record: tableBytes, dirtyBytes.
-/
namespace Go.Proofs.Ytebcmcmboomgfaa
open Go.RowKit
set_option linter.unusedVariables false
set_option linter.unusedSimpArgs false


theorem flatB_tk {α : Type} (f : α → List UInt8) : ∀ (l : List α) (k : Nat) (x : α), l[k]? = some x → flatB f (l.take (k + 1)) = flatB f (l.take k) ++ f x
  | [], k, x, h => by simp at h
  | a :: r, 0, x, h => by simp at h; subst h; simp [flatB]
  | a :: r, k + 1, x, h => by
    have := flatB_tk f r k x (by simpa using h)
    simp only [List.take_succ_cons, flatB, List.append_assoc]
    rw [this]
theorem flatB_len {α : Type} (f : α → List UInt8) (n : Nat) : ∀ (l : List α), (∀ x ∈ l, (f x).length = n) → (flatB f l).length = n * l.length
  | [], _ => by simp [flatB]
  | a :: r, h => by
    rw [flatB, List.length_append, h a (by simp), flatB_len f n r (fun x hx => h x (by simp [hx]))]
    simp [Nat.mul_add]; omega
theorem rowB_len (x : RowR) : (rowB x).length = 26 := by simp [rowB, putN_length]
theorem recB_len (x : RecR) : (recB x).length = 9 := by simp [recB, putN_length]

set_option maxRecDepth 20000 in
set_option maxHeartbeats 6400000 in
theorem qTableB (v : Value) (l : List RowR) (w : World) (h : Cs w 5 v l.length (rcells l)) (hok : tableOk l) : Calls Try.prog 52 #[v] w fun e w' => ∃ u, e = .returned u ∧ Acc w w' u (putN 1 l.length ++ flatB rowB l) := by
  have HOK := @hideH _ hok
  have HC := @hideH _ h
  obtain ⟨-, -, p, c, rfl, -⟩ := h
  have hone := fun w => qOne (l.length : Int) w (by omega) (by have := hok.1; omega)
  rw [Int.toNat_natCast] at hone
  obtain ⟨Z, hZ⟩ : ∃ Z, Z = putN 1 l.length ++ flatB rowB l := ⟨_, rfl⟩
  rw [← hZ]
  have HZ : Hid (∀ k, k ≤ l.length → (putN 1 l.length ++ flatB rowB (l.take k)).length ≤ 500) := (by intro k hk; rw [List.length_append, putN_length, flatB_len rowB 26 _ (fun x _ => rowB_len x), List.length_take]; have := hok.1; omega)
  have HZE := @hideH _ hZ
  clear hZ hok
  obtain ⟨n, hn⟩ : ∃ n, n = l.length := ⟨_, rfl⟩
  rw [← hn] at hone ⊢
  have HN := @hideH _ hn
  clear hn
  go_enter Try.func52, Try.ntmps52
  go_wp2_with fail
  refine (hone _).mono ?_
  rintro e w0 ⟨u0, rfl, a0⟩
  clear hone
  go_wp2
  go_loopw [3, 5, 11] (fun vb vp vi wr => ∃ k : Nat, k ≤ n ∧ vi = .int .i64 k ∧ Hid (Acc w wr vb (putN 1 n ++ flatB rowB (l.take k)))) (fun _ _ vi _ => n - (intOf vi).toNat)
  case atStart => exact ⟨0, Nat.zero_le _, rfl, by simpa [flatB, Hid] using a0⟩
  case round =>
    clear a0
    obtain ⟨k, hk, rfl, hh⟩ := hrel
    by_cases hkl : k < n
    · have hkl' : (k : Int) < (n : Int) := by omega
      have hk0 : (0 : Int) ≤ (k : Int) := by omega
      have wk : IntKind.i64.wrap ((k : Int) + 1) = (k : Int) + 1 := wrap_i64_of (by omega) (by have := HOK.out.1; have e := HN.out; omega)
      obtain ⟨x, hx⟩ : ∃ x, l[k]? = some x := ⟨_, List.getElem?_eq_getElem (by have := HN.out; omega)⟩
      obtain ⟨b, o, c', ev, hc⟩ := (HC.out.kept hh.out.2).rowAt (by have := HN.out; omega)
      simp only [Value.slice.injEq] at ev
      obtain ⟨rfl, -, rfl⟩ := ev
      obtain ⟨x0, x1, x2, x3, x4⟩ := hc k x hx
      have xok := HOK.out.2.1 x (List.mem_of_getElem? hx)
      have d1 := fun w => qEight x.birth w (by have := xok.1.1; omega) xok.1.2
      have d2 := fun w => qOne x.id w (by have := xok.2.1.1; omega) (by have := xok.2.1.2; omega)
      have d3 := fun w => qOne x.state w (by rcases xok.2.2.1 with q | q <;> omega) (by rcases xok.2.2.1 with q | q <;> omega)
      have d4 := fun w => qEight x.last w (by have := xok.2.2.2.1.1; omega) xok.2.2.2.1.2
      have d5 := fun w => qEight x.next w xok.2.2.2.2.1 xok.2.2.2.2.2
      have EX := @hideH _ (flatB_tk rowB l k x hx)
      have HL := @hideH _ (HZ.out k (by have := HN.out; omega))
      rw [← HN.out] at HL
      obtain ⟨pu, cu, rfl⟩ := own_shape2 hh.out.1
      obtain ⟨A, hA⟩ : ∃ A, A = putN 1 n ++ flatB rowB (l.take k) := ⟨_, rfl⟩
      rw [← hA] at hh HL ⊢
      have HAE := @hideH _ hA
      clear hA
      generalize hna : A.length = na at hh HL ⊢
      have HNA := @hideH _ hna
      clear hna
      obtain ⟨wz, hwz⟩ : ∃ wz, wz = wr.alloc (.cells #[.int .i64 x.birth, .int .i64 x.id, .int .i64 x.state, .int .i64 x.last, .int .i64 x.next] 66) := ⟨_, rfl⟩
      have kz : Kept [] wr wz := by rw [hwz]; exact (Kept.refl [] wr).alloc _
      have bz : Blk wz wr.heap.size 66 [.int .i64 x.birth, .int .i64 x.id, .int .i64 x.state, .int .i64 x.last, .int .i64 x.next] := by rw [hwz]; exact Blk.new wr _ _
      have z0 := bz.cell (j := 0) rfl
      have z1 := bz.cell (j := 1) rfl
      have z2 := bz.cell (j := 2) rfl
      have z3 := bz.cell (j := 3) rfl
      have z4 := bz.cell (j := 4) rfl
      have HACC := @hideH _ (hh.out.then kz)
      clear hx hc bz kz hh xok
      have kx : Kept [] wz wz.drew := (Kept.refl [] wz).drew
      have t1 : True := trivial
      have t2 : True := trivial
      have t3 : True := trivial
      go_upto_region 5 with fail
      rw [← hwz]
      clear hwz
      go_region_held3 (fun w' => w'.cell? ⟨wr.heap.size, 0, none⟩ = some (.int .i64 x.birth) ∧ w'.cell? ⟨wr.heap.size, 1, none⟩ = some (.int .i64 x.id) ∧ w'.cell? ⟨wr.heap.size, 2, none⟩ = some (.int .i64 x.state) ∧ w'.cell? ⟨wr.heap.size, 3, none⟩ = some (.int .i64 x.last) ∧ w'.cell? ⟨wr.heap.size, 4, none⟩ = some (.int .i64 x.next))
        (first | (with_reducible exact ⟨kx.cell z0 (by simp), kx.cell z1 (by simp), kx.cell z2 (by simp), kx.cell z3 (by simp), kx.cell z4 (by simp)⟩) | (with_reducible exact ⟨(kx.alloc _).cell z0 (by simp), (kx.alloc _).cell z1 (by simp), (kx.alloc _).cell z2 (by simp), (kx.alloc _).cell z3 (by simp), (kx.alloc _).cell z4 (by simp)⟩) | fail)
        (first
          | (go_at_call 30; clear t1; refine (d1 _).mono ?_; rintro e w1 ⟨u1, rfl, a1⟩; obtain ⟨p1, q1, rfl⟩ := own_shape2 a1.1; replace kx := kx.then a1.2)
          | (go_at_call 29; clear t2; refine (d2 _).mono ?_; rintro e w2 ⟨u2, rfl, a2⟩; obtain ⟨p2, q2, rfl⟩ := own_shape2 a2.1; replace kx := kx.then a2.2)
          | (go_at_call 29; refine (d3 _).mono ?_; rintro e w3 ⟨u3, rfl, a3⟩; obtain ⟨p3, q3, rfl⟩ := own_shape2 a3.1; replace kx := kx.then a3.2)
          | (go_at_call 30; clear t3; refine (d4 _).mono ?_; rintro e w4 ⟨u4, rfl, a4⟩; obtain ⟨p4, q4, rfl⟩ := own_shape2 a4.1; replace kx := kx.then a4.2)
          | (go_at_call 30; refine (d5 _).mono ?_; rintro e w5 ⟨u5, rfl, a5⟩; obtain ⟨p5, q5, rfl⟩ := own_shape2 a5.1; replace kx := kx.then a5.2)
          | (go_at_call 28; refine (qJoin _ _ _ (Bss.lit6 w5 _ _ _ _ _ _ _ _ _ _ _ _ _ (HACC.out.then kx).bs ((((a1.then a2.2).then a3.2).then a4.2).then a5.2).bs (((a2.then a3.2).then a4.2).then a5.2).bs ((a3.then a4.2).then a5.2).bs (a4.then a5.2).bs a5.bs _ rfl) (by rw [flat6]; simp [putN_length]; have := HL.out; have e := HNA.out; omega)).mono ?_; rintro e wj ⟨uj, rfl, aj⟩; have ky := kx; replace kx := (kx.alloc _).then aj.2)
          | fail)
      have REL := @hideH _ (show Acc w wj uj (putN 1 n ++ flatB rowB (l.take (k + 1))) by rw [EX.out, ← List.append_assoc, ← HAE.out]; have q := aj.low ((HACC.out.2.then ky).alloc _); rw [flat6] at q; exact q)
      clear aj ky kx HACC a1 a2 a3 a4 a5 d1 d2 d3 d4 d5
      go_wp2
      go_roundw
      case rel => exact ⟨k + 1, by omega, by go_num, REL⟩
      case measure => simp [intOf]; omega
    · have hkl' : ¬ (k : Int) < (n : Int) := by omega
      obtain rfl : k = n := by omega
      have REL := @hideH _ (show Acc w wr _ Z by rw [HZE.out, ← HN.out]; have q := hh.out; rw [List.take_of_length_le (by have := HN.out; omega)] at q; exact q)
      clear hh
      go_wp2
      go_ret
      exact ⟨_, rfl, REL.out⟩
set_option maxRecDepth 20000 in
set_option maxHeartbeats 6400000 in
theorem qDirtyB (v : Value) (l : List RecR) (w : World) (h : Cs w 2 v l.length (dcells l)) (hok : dirtyOk l) : Calls Try.prog 53 #[v] w fun e w' => ∃ u, e = .returned u ∧ Acc w w' u (putN 1 l.length ++ flatB recB l) := by
  have HOK := @hideH _ hok
  have HC := @hideH _ h
  obtain ⟨-, -, p, c, rfl, -⟩ := h
  have hone := fun w => qOne (l.length : Int) w (by omega) (by have := hok.1; omega)
  rw [Int.toNat_natCast] at hone
  obtain ⟨Z, hZ⟩ : ∃ Z, Z = putN 1 l.length ++ flatB recB l := ⟨_, rfl⟩
  rw [← hZ]
  have HZ : Hid (∀ k, k ≤ l.length → (putN 1 l.length ++ flatB recB (l.take k)).length ≤ 500) := (by intro k hk; rw [List.length_append, putN_length, flatB_len recB 9 _ (fun x _ => recB_len x), List.length_take]; have := hok.1; omega)
  have HZE := @hideH _ hZ
  clear hZ hok
  obtain ⟨n, hn⟩ : ∃ n, n = l.length := ⟨_, rfl⟩
  rw [← hn] at hone ⊢
  have HN := @hideH _ hn
  clear hn
  go_enter Try.func53, Try.ntmps53
  go_wp2_with fail
  refine (hone _).mono ?_
  rintro e w0 ⟨u0, rfl, a0⟩
  clear hone
  go_wp2
  go_loopw [3, 5, 11] (fun vb vp vi wr => ∃ k : Nat, k ≤ n ∧ vi = .int .i64 k ∧ Hid (Acc w wr vb (putN 1 n ++ flatB recB (l.take k)))) (fun _ _ vi _ => n - (intOf vi).toNat)
  case atStart => exact ⟨0, Nat.zero_le _, rfl, by simpa [flatB, Hid] using a0⟩
  case round =>
    clear a0
    obtain ⟨k, hk, rfl, hh⟩ := hrel
    by_cases hkl : k < n
    · have hkl' : (k : Int) < (n : Int) := by omega
      have hk0 : (0 : Int) ≤ (k : Int) := by omega
      have wk : IntKind.i64.wrap ((k : Int) + 1) = (k : Int) + 1 := wrap_i64_of (by omega) (by have := HOK.out.1; have e := HN.out; omega)
      obtain ⟨x, hx⟩ : ∃ x, l[k]? = some x := ⟨_, List.getElem?_eq_getElem (by have := HN.out; omega)⟩
      obtain ⟨b, o, c', ev, hc⟩ := (HC.out.kept hh.out.2).recAt (by have := HN.out; omega)
      simp only [Value.slice.injEq] at ev
      obtain ⟨rfl, -, rfl⟩ := ev
      obtain ⟨x0, x1⟩ := hc k x hx
      have xok := HOK.out.2.1 x (List.mem_of_getElem? hx)
      have d1 := fun w => qOne x.page w xok.1.1 (by have := xok.1.2; omega)
      have d2 := fun w => qEight x.lsn w (by have := xok.2.1; omega) xok.2.2
      have EX := @hideH _ (flatB_tk recB l k x hx)
      have HL := @hideH _ (HZ.out k (by have := HN.out; omega))
      rw [← HN.out] at HL
      obtain ⟨pu, cu, rfl⟩ := own_shape2 hh.out.1
      obtain ⟨A, hA⟩ : ∃ A, A = putN 1 n ++ flatB recB (l.take k) := ⟨_, rfl⟩
      rw [← hA] at hh HL ⊢
      have HAE := @hideH _ hA
      clear hA
      generalize hna : A.length = na at hh HL ⊢
      have HNA := @hideH _ hna
      clear hna
      obtain ⟨wz, hwz⟩ : ∃ wz, wz = wr.alloc (.cells #[.int .i64 x.page, .int .i64 x.lsn] 68) := ⟨_, rfl⟩
      have kz : Kept [] wr wz := by rw [hwz]; exact (Kept.refl [] wr).alloc _
      have bz : Blk wz wr.heap.size 68 [.int .i64 x.page, .int .i64 x.lsn] := by rw [hwz]; exact Blk.new wr _ _
      have z0 := bz.cell (j := 0) rfl
      have z1 := bz.cell (j := 1) rfl
      have HACC := @hideH _ (hh.out.then kz)
      clear hx hc bz kz hh xok
      have kx : Kept [] wz wz.drew := (Kept.refl [] wz).drew
      have t1 : True := trivial
      have t2 : True := trivial
      have t3 : True := trivial
      go_upto_region 5 with fail
      rw [← hwz]
      clear hwz
      go_region_held3 (fun w' => w'.cell? ⟨wr.heap.size, 0, none⟩ = some (.int .i64 x.page) ∧ w'.cell? ⟨wr.heap.size, 1, none⟩ = some (.int .i64 x.lsn))
        (first | (with_reducible exact ⟨kx.cell z0 (by simp), kx.cell z1 (by simp)⟩) | (with_reducible exact ⟨(kx.alloc _).cell z0 (by simp), (kx.alloc _).cell z1 (by simp)⟩) | fail)
        (first
          | (go_at_call 29; refine (d1 _).mono ?_; rintro e w1 ⟨u1, rfl, a1⟩; obtain ⟨p1, q1, rfl⟩ := own_shape2 a1.1; replace kx := kx.then a1.2)
          | (go_at_call 30; refine (d2 _).mono ?_; rintro e w2 ⟨u2, rfl, a2⟩; obtain ⟨p2, q2, rfl⟩ := own_shape2 a2.1; replace kx := kx.then a2.2)
          | (go_at_call 28; refine (qJoin _ _ _ (Bss.lit3 w2 _ _ _ _ _ _ _ (HACC.out.then kx).bs (a1.then a2.2).bs a2.bs _ rfl) (by rw [flat3]; simp [putN_length]; have := HL.out; have e := HNA.out; omega)).mono ?_; rintro e wj ⟨uj, rfl, aj⟩; have ky := kx; replace kx := (kx.alloc _).then aj.2)
          | fail)
      have REL := @hideH _ (show Acc w wj uj (putN 1 n ++ flatB recB (l.take (k + 1))) by rw [EX.out, ← List.append_assoc, ← HAE.out]; have q := aj.low ((HACC.out.2.then ky).alloc _); rw [flat3] at q; exact q)
      clear aj ky kx HACC a1 a2 d1 d2
      go_wp2
      go_roundw
      case rel => exact ⟨k + 1, by omega, by go_num, REL⟩
      case measure => simp [intOf]; omega
    · have hkl' : ¬ (k : Int) < (n : Int) := by omega
      obtain rfl : k = n := by omega
      have REL := @hideH _ (show Acc w wr _ Z by rw [HZE.out, ← HN.out]; have q := hh.out; rw [List.take_of_length_le (by have := HN.out; omega)] at q; exact q)
      clear hh
      go_wp2
      go_ret
      exact ⟨_, rfl, REL.out⟩
end Go.Proofs.Ytebcmcmboomgfaa

/-
  OWN WORK (by mkpr.py). record: isBlank, isRange.
-/
namespace Go.Proofs.Ytebcmcmboomgfaa
open Go.RowKit
set_option linter.unusedVariables false
set_option linter.unusedSimpArgs false

set_option maxRecDepth 20000 in
set_option maxHeartbeats 6400000 in
theorem pBlank (kind birth prev id page frm next : Int) (pb pa pr pd : Option Addr) (nb cb na ca nr cr nd cd : Nat) (w : World) : Calls Try.prog 41 #[.agg #[.int .i64 kind, .int .i64 birth, .int .i64 prev, .int .i64 id, .int .i64 page, .int .i64 frm, .slice pb nb cb, .slice pa na ca, .int .i64 next, .slice pr nr cr, .slice pd nd cd]] w fun e w' => e = .returned (.bool (decide (birth = 0 ∧ prev = 0 ∧ id = 0 ∧ page = 0 ∧ frm = 0 ∧ next = 0 ∧ nb = 0 ∧ na = 0 ∧ nr = 0 ∧ nd = 0))) ∧ Kept [] w w' := by
  by_cases h0 : birth = 0
  · subst h0
    by_cases h1 : prev = 0
    · subst h1
      by_cases h2 : id = 0
      · subst h2
        by_cases h3 : page = 0
        · subst h3
          by_cases h4 : frm = 0
          · subst h4
            by_cases h5 : next = 0
            · subst h5
              by_cases h6 : nb = 0
              · subst h6
                by_cases h7 : na = 0
                · subst h7
                  by_cases h8 : nr = 0
                  · subst h8
                    by_cases h9 : nd = 0
                    · subst h9
                      rw [show decide ((0 : Int) = 0 ∧ (0 : Int) = 0 ∧ (0 : Int) = 0 ∧ (0 : Int) = 0 ∧ (0 : Int) = 0 ∧ (0 : Int) = 0 ∧ (0 : Nat) = 0 ∧ (0 : Nat) = 0 ∧ (0 : Nat) = 0 ∧ (0 : Nat) = 0) = true from rfl]
                      go_enter Try.func41, Try.ntmps41
                      go_wp2
                      go_ret
                      exact ⟨by simp, (Kept.refl [] w).alloc _⟩
                    · rw [show decide ((0 : Int) = 0 ∧ (0 : Int) = 0 ∧ (0 : Int) = 0 ∧ (0 : Int) = 0 ∧ (0 : Int) = 0 ∧ (0 : Int) = 0 ∧ (0 : Nat) = 0 ∧ (0 : Nat) = 0 ∧ (0 : Nat) = 0 ∧ nd = 0) = false from decide_eq_false fun h => h9 (by first | exact h.1 | (simp only [true_and] at h; first | exact h.1 | exact h))]
                      have g : ((nd : Int) == 0) = false := by simp [h9]
                      clear h9
                      go_enter Try.func41, Try.ntmps41
                      go_wp2
                      go_ret
                      exact ⟨by simp, (Kept.refl [] w).alloc _⟩
                  · rw [show decide ((0 : Int) = 0 ∧ (0 : Int) = 0 ∧ (0 : Int) = 0 ∧ (0 : Int) = 0 ∧ (0 : Int) = 0 ∧ (0 : Int) = 0 ∧ (0 : Nat) = 0 ∧ (0 : Nat) = 0 ∧ nr = 0 ∧ nd = 0) = false from decide_eq_false fun h => h8 (by first | exact h.1 | (simp only [true_and] at h; first | exact h.1 | exact h))]
                    have g : ((nr : Int) == 0) = false := by simp [h8]
                    clear h8
                    go_enter Try.func41, Try.ntmps41
                    go_wp2
                    go_ret
                    exact ⟨by simp, (Kept.refl [] w).alloc _⟩
                · rw [show decide ((0 : Int) = 0 ∧ (0 : Int) = 0 ∧ (0 : Int) = 0 ∧ (0 : Int) = 0 ∧ (0 : Int) = 0 ∧ (0 : Int) = 0 ∧ (0 : Nat) = 0 ∧ na = 0 ∧ nr = 0 ∧ nd = 0) = false from decide_eq_false fun h => h7 (by first | exact h.1 | (simp only [true_and] at h; first | exact h.1 | exact h))]
                  have g : ((na : Int) == 0) = false := by simp [h7]
                  clear h7
                  go_enter Try.func41, Try.ntmps41
                  go_wp2
                  go_ret
                  exact ⟨by simp, (Kept.refl [] w).alloc _⟩
              · rw [show decide ((0 : Int) = 0 ∧ (0 : Int) = 0 ∧ (0 : Int) = 0 ∧ (0 : Int) = 0 ∧ (0 : Int) = 0 ∧ (0 : Int) = 0 ∧ nb = 0 ∧ na = 0 ∧ nr = 0 ∧ nd = 0) = false from decide_eq_false fun h => h6 (by first | exact h.1 | (simp only [true_and] at h; first | exact h.1 | exact h))]
                have g : ((nb : Int) == 0) = false := by simp [h6]
                clear h6
                go_enter Try.func41, Try.ntmps41
                go_wp2
                go_ret
                exact ⟨by simp, (Kept.refl [] w).alloc _⟩
            · rw [show decide ((0 : Int) = 0 ∧ (0 : Int) = 0 ∧ (0 : Int) = 0 ∧ (0 : Int) = 0 ∧ (0 : Int) = 0 ∧ next = 0 ∧ nb = 0 ∧ na = 0 ∧ nr = 0 ∧ nd = 0) = false from decide_eq_false fun h => h5 (by first | exact h.1 | (simp only [true_and] at h; first | exact h.1 | exact h))]
              have g : (next == 0) = false := by simp [h5]
              clear h5
              go_enter Try.func41, Try.ntmps41
              go_wp2
              go_ret
              exact ⟨by simp, (Kept.refl [] w).alloc _⟩
          · rw [show decide ((0 : Int) = 0 ∧ (0 : Int) = 0 ∧ (0 : Int) = 0 ∧ (0 : Int) = 0 ∧ frm = 0 ∧ next = 0 ∧ nb = 0 ∧ na = 0 ∧ nr = 0 ∧ nd = 0) = false from decide_eq_false fun h => h4 (by first | exact h.1 | (simp only [true_and] at h; first | exact h.1 | exact h))]
            have g : (frm == 0) = false := by simp [h4]
            clear h4
            go_enter Try.func41, Try.ntmps41
            go_wp2
            go_ret
            exact ⟨by simp, (Kept.refl [] w).alloc _⟩
        · rw [show decide ((0 : Int) = 0 ∧ (0 : Int) = 0 ∧ (0 : Int) = 0 ∧ page = 0 ∧ frm = 0 ∧ next = 0 ∧ nb = 0 ∧ na = 0 ∧ nr = 0 ∧ nd = 0) = false from decide_eq_false fun h => h3 (by first | exact h.1 | (simp only [true_and] at h; first | exact h.1 | exact h))]
          have g : (page == 0) = false := by simp [h3]
          clear h3
          go_enter Try.func41, Try.ntmps41
          go_wp2
          go_ret
          exact ⟨by simp, (Kept.refl [] w).alloc _⟩
      · rw [show decide ((0 : Int) = 0 ∧ (0 : Int) = 0 ∧ id = 0 ∧ page = 0 ∧ frm = 0 ∧ next = 0 ∧ nb = 0 ∧ na = 0 ∧ nr = 0 ∧ nd = 0) = false from decide_eq_false fun h => h2 (by first | exact h.1 | (simp only [true_and] at h; first | exact h.1 | exact h))]
        have g : (id == 0) = false := by simp [h2]
        clear h2
        go_enter Try.func41, Try.ntmps41
        go_wp2
        go_ret
        exact ⟨by simp, (Kept.refl [] w).alloc _⟩
    · rw [show decide ((0 : Int) = 0 ∧ prev = 0 ∧ id = 0 ∧ page = 0 ∧ frm = 0 ∧ next = 0 ∧ nb = 0 ∧ na = 0 ∧ nr = 0 ∧ nd = 0) = false from decide_eq_false fun h => h1 (by first | exact h.1 | (simp only [true_and] at h; first | exact h.1 | exact h))]
      have g : (prev == 0) = false := by simp [h1]
      clear h1
      go_enter Try.func41, Try.ntmps41
      go_wp2
      go_ret
      exact ⟨by simp, (Kept.refl [] w).alloc _⟩
  · rw [show decide (birth = 0 ∧ prev = 0 ∧ id = 0 ∧ page = 0 ∧ frm = 0 ∧ next = 0 ∧ nb = 0 ∧ na = 0 ∧ nr = 0 ∧ nd = 0) = false from decide_eq_false fun h => h0 (by first | exact h.1 | (simp only [true_and] at h; first | exact h.1 | exact h))]
    have g : (birth == 0) = false := by simp [h0]
    clear h0
    go_enter Try.func41, Try.ntmps41
    go_wp2
    go_ret
    exact ⟨by simp, (Kept.refl [] w).alloc _⟩
theorem pBlankB (kind birth prev id page frm next : Int) (pb pa pr pd : Option Addr) (nb cb na ca nr cr nd cd : Nat) (B : Bool) (hB : B = decide (birth = 0 ∧ prev = 0 ∧ id = 0 ∧ page = 0 ∧ frm = 0 ∧ next = 0 ∧ nb = 0 ∧ na = 0 ∧ nr = 0 ∧ nd = 0)) (w : World) : Calls Try.prog 41 #[.agg #[.int .i64 kind, .int .i64 birth, .int .i64 prev, .int .i64 id, .int .i64 page, .int .i64 frm, .slice pb nb cb, .slice pa na ca, .int .i64 next, .slice pr nr cr, .slice pd nd cd]] w fun e w' => e = .returned (.bool B) ∧ Kept [] w w' := by
  rw [hB]
  exact pBlank kind birth prev id page frm next pb pa pr pd nb cb na ca nr cr nd cd w
set_option maxHeartbeats 1600000 in
theorem pRange (V : RV) (r : Rcd) (w : World) (h : SeeR w V r) : Calls Try.prog 44 #[r.agg V] w fun e w' => e = .returned (.bool (bl (rangedOk r))) ∧ Kept [] w w' := by
  obtain ⟨pb, cb, pa, ca, pr, cr, pd, cd, rfl⟩ := h.shapes
  have hal : after_len r.after.length := (by obtain ⟨_, _, e, h1, h2, _⟩ := h.after; cases e; exact Nat.le_trans h1 h2)
  obtain ⟨kind, birth, prev, id, page, frm, before, after, next, rows, dirty⟩ := r
  clear h
  unfold Rcd.agg
  dsimp only at hal ⊢
  obtain ⟨n, hn⟩ : ∃ n, n = after.length := ⟨_, rfl⟩
  have R : rangedOk ⟨kind, birth, prev, id, page, frm, before, after, next, rows, dirty⟩ ↔ (pageOk page ∧ 0 < n ∧ 16 ≤ frm ∧ frm ≤ 144 - (n : Int)) := by rw [hn]; unfold rangedOk pageOk; simp only; omega
  have wn : IntKind.i64.wrap (144 - (n : Int)) = 144 - (n : Int) := wrap_i64_of (by unfold after_len maxLen at hal; omega) (by omega)
  rw [← hn]
  have HN := @hideH _ (And.intro hn hal)
  clear hn hal
  have F : ∀ {P : Prop}, (rangedOk ⟨kind, birth, prev, id, page, frm, before, after, next, rows, dirty⟩ → P) → ¬ P → bl (rangedOk ⟨kind, birth, prev, id, page, frm, before, after, next, rows, dirty⟩) = false := fun h1 h2 => bl_f fun h => h2 (h1 h)
  have hp := fun w => pIsPage page w
  by_cases h1 : pageOk page
  · skip
    by_cases h2 : 0 < n
    · skip
      by_cases h3 : 16 ≤ frm
      · skip
        by_cases h4 : frm ≤ 144 - (n : Int)
        · skip
          rw [bl_t (R.2 ⟨h1, h2, h3, h4⟩)]
          rw [bl_t h1] at hp
          clear F R h1
          have h2' : (0 : Int) < (n : Int) := by omega
          go_enter Try.func44, Try.ntmps44
          go_wp2_with fail
          refine (hp _).mono ?_
          rintro e wq ⟨rfl, rfl⟩
          go_wp2
          go_ret
          exact ⟨by simp <;> omega, (Kept.refl [] w).alloc _⟩
        · rw [F (fun h => (R.1 h).2.2.2) h4]
          rw [bl_t h1] at hp
          clear F R h1
          have h2' : (0 : Int) < (n : Int) := by omega
          go_enter Try.func44, Try.ntmps44
          go_wp2_with fail
          refine (hp _).mono ?_
          rintro e wq ⟨rfl, rfl⟩
          go_wp2
          go_ret
          exact ⟨by simp <;> omega, (Kept.refl [] w).alloc _⟩
      · rw [F (fun h => (R.1 h).2.2.1) h3]
        rw [bl_t h1] at hp
        clear F R h1
        have h2' : (0 : Int) < (n : Int) := by omega
        go_enter Try.func44, Try.ntmps44
        go_wp2_with fail
        refine (hp _).mono ?_
        rintro e wq ⟨rfl, rfl⟩
        go_wp2
        go_ret
        exact ⟨by simp <;> omega, (Kept.refl [] w).alloc _⟩
    · rw [F (fun h => (R.1 h).2.1) h2]
      rw [bl_t h1] at hp
      clear F R h1
      have h2' : ¬ (0 : Int) < (n : Int) := by omega
      go_enter Try.func44, Try.ntmps44
      go_wp2_with fail
      refine (hp _).mono ?_
      rintro e wq ⟨rfl, rfl⟩
      go_wp2
      go_ret
      exact ⟨by simp <;> omega, (Kept.refl [] w).alloc _⟩
  · rw [F (fun h => (R.1 h).1) h1]
    rw [bl_f h1] at hp
    clear F R h1
    go_enter Try.func44, Try.ntmps44
    go_wp2_with fail
    refine (hp _).mono ?_
    rintro e wq ⟨rfl, rfl⟩
    go_wp2
    go_ret
    exact ⟨by simp <;> omega, (Kept.refl [] w).alloc _⟩
end Go.Proofs.Ytebcmcmboomgfaa

/-
  OWN WORK (by mkpr3.py). record: isRight, kind 1.
-/
namespace Go.Proofs.Ytebcmcmboomgfaa
open Go.RowKit
set_option linter.unusedVariables false
set_option linter.unusedSimpArgs false

set_option maxRecDepth 20000 in
set_option maxHeartbeats 6400000 in
theorem qRight_1 (V : RV) (birth prev id page frm : Int) (before after : List UInt8) (next : Int) (rows : List RowR) (dirty : List RecR) (w : World) (h : SeeR w V (⟨1, birth, prev, id, page, frm, before, after, next, rows, dirty⟩ : Rcd)) : Calls Try.prog 27 #[(⟨1, birth, prev, id, page, frm, before, after, next, rows, dirty⟩ : Rcd).agg V] w fun e w' => e = .returned (.bool (bl (⟨1, birth, prev, id, page, frm, before, after, next, rows, dirty⟩ : Rcd).Right)) ∧ Kept [] w w' := by
  obtain ⟨pb, cb, pa, ca, pr, cr, pd, cd, rfl⟩ := h.shapes
  obtain ⟨B, hB⟩ : ∃ B, B = decide (birth = 0 ∧ prev = 0 ∧ (0 : Int) = 0 ∧ page = 0 ∧ frm = 0 ∧ next = 0 ∧ before.length = 0 ∧ after.length = 0 ∧ rows.length = 0 ∧ dirty.length = 0) := ⟨_, rfl⟩
  have hb := fun wz => pBlankB 1 birth prev 0 page frm next pb pa pr pd before.length cb after.length ca rows.length cr dirty.length cd B hB wz
  have RI : (⟨1, birth, prev, id, page, frm, before, after, next, rows, dirty⟩ : Rcd).Right ↔ B = true ∧ idOk id := by
    have e : (⟨1, birth, prev, id, page, frm, before, after, next, rows, dirty⟩ : Rcd).Right ↔ (birth = 0 ∧ prev = 0) ∧ (1 ≤ id ∧ id ≤ 64) ∧ (rows = [] ∧ dirty = []) ∧ next = 0 ∧ (page = 0 ∧ frm = 0 ∧ after = []) ∧ before = [] := by unfold Rcd.Right; simp
    rw [e, hB]
    constructor
    · rintro ⟨a0, a1, a2, a3, a4, a5⟩
      exact ⟨decide_eq_true ⟨a0.1, a0.2, rfl, a4.1, a4.2.1, a3, (by rw [a5]; rfl), (by rw [a4.2.2]; rfl), (by rw [a2.1]; rfl), (by rw [a2.2]; rfl)⟩, a1⟩
    · rintro ⟨hd, s0⟩
      have q := of_decide_eq_true hd
      exact ⟨⟨q.1, q.2.1⟩, s0, ⟨List.eq_nil_of_length_eq_zero q.2.2.2.2.2.2.2.2.1, List.eq_nil_of_length_eq_zero q.2.2.2.2.2.2.2.2.2⟩, q.2.2.2.2.2.1, ⟨q.2.2.2.1, q.2.2.2.2.1, List.eq_nil_of_length_eq_zero q.2.2.2.2.2.2.2.1⟩, List.eq_nil_of_length_eq_zero q.2.2.2.2.2.2.1⟩
  clear hB
  have ho := fun wz => pOwned (⟨.slice pb before.length cb, .slice pa after.length ca, .slice pr rows.length cr, .slice pd dirty.length cd⟩ : RV) (⟨1, birth, prev, id, page, frm, before, after, next, rows, dirty⟩ : Rcd) wz
  have hr := fun wz (kz : Kept [] w wz) => pRange _ (⟨1, birth, prev, id, page, frm, before, after, next, rows, dirty⟩ : Rcd) wz (h.kept kz)
  have hp := fun wz (kz : Kept [] w wz) (hn : 0 < after.length) => pParts _ _ before after wz (h.before.kept kz) (h.after.kept kz) hn
  have hn := fun wz => pIsNext next wz
  have hi := fun wz => pIsId id wz
  have ht := fun wz (kz : Kept [] w wz) => qTable _ rows wz (h.rows.kept kz)
  have hd := fun wz (kz : Kept [] w wz) => qDirty _ dirty wz (h.dirty.kept kz)
  clear h
  unfold Rcd.agg at ho hr ⊢
  dsimp only at ho hr hp ht hd ⊢
  obtain ⟨Q, hQ⟩ : ∃ Q, Q = bl (⟨1, birth, prev, id, page, frm, before, after, next, rows, dirty⟩ : Rcd).Right := ⟨_, rfl⟩
  rw [← hQ]
  have HQ := @hideH _ (show (¬ (B = true ∧ idOk id) → Q = false) ∧ ((B = true ∧ idOk id) → Q = true) from ⟨fun h => by rw [hQ]; exact bl_f fun q => h (RI.1 q), fun h => by rw [hQ]; exact bl_t (RI.2 h)⟩)
  clear hQ RI
  clear ho
  clear hr
  clear hp
  clear hn
  clear ht
  clear hd
  obtain ⟨wa, hwa⟩ : ∃ wa, wa = w.alloc (.cells #[.int .i64 1, .int .i64 birth, .int .i64 prev, .int .i64 id, .int .i64 page, .int .i64 frm, .slice pb before.length cb, .slice pa after.length ca, .int .i64 next, .slice pr rows.length cr, .slice pd dirty.length cd] 26) := ⟨_, rfl⟩
  have ba : Blk wa w.heap.size 26 [.int .i64 1, .int .i64 birth, .int .i64 prev, .int .i64 id, .int .i64 page, .int .i64 frm, .slice pb before.length cb, .slice pa after.length ca, .int .i64 next, .slice pr rows.length cr, .slice pd dirty.length cd] := by rw [hwa]; exact Blk.new w _ _
  have ka : Kept [] w wa := by rw [hwa]; exact (Kept.refl [] w).alloc _
  have HA := @hideH _ (And.intro hwa (And.intro ba ka))
  clear hwa ba ka
  go_enter Try.func27, Try.ntmps27
  go_wp2_with fail
  rw [← HA.out.1]
  refine (hb _).mono ?_
  rintro e w1 ⟨rfl, k1⟩
  clear hb
  have b1 := (HA.out.2.1.kept ((Kept.refl [] wa).alloc _) (by simp)).kept k1 (by simp)
  have K1 := (HA.out.2.2.alloc _).then k1
  have c0 := b1.cell (j := 0) rfl
  have c1 := b1.cell (j := 1) rfl
  have c2 := b1.cell (j := 2) rfl
  have c3 := b1.cell (j := 3) rfl
  have c4 := b1.cell (j := 4) rfl
  have c5 := b1.cell (j := 5) rfl
  have c6 := b1.cell (j := 6) rfl
  have c7 := b1.cell (j := 7) rfl
  have c8 := b1.cell (j := 8) rfl
  have c9 := b1.cell (j := 9) rfl
  have c10 := b1.cell (j := 10) rfl
  clear b1 k1
  cases B with
  | false =>
    have eQ := @hideH _ (HQ.out.1 fun h => by cases h.1)
    have KE := @hideH _ K1
    clear K1
    go_wp2
    go_ret
    exact ⟨by rw [eQ.out]; rfl, KE.out⟩
  | true =>
    by_cases g0 : idOk id
    · simp only [bl_t g0] at hi
      have q0 := @hideH _ g0
      clear g0
      go_wp2_with fail
      refine (hi _).mono ?_
      rintro e wq ⟨rfl, rfl⟩
      clear hi
      have eQ := @hideH _ (HQ.out.2 ⟨by trivial, q0.out⟩)
      have KE := @hideH _ K1
      clear K1
      go_wp2
      go_ret
      exact ⟨by rw [eQ.out]; rfl, KE.out⟩
    · simp only [bl_f g0] at hi
      have eQ := @hideH _ (HQ.out.1 fun h => g0 (h.2))
      clear g0
      go_wp2_with fail
      refine (hi _).mono ?_
      rintro e wq ⟨rfl, rfl⟩
      clear hi
      have KE := @hideH _ K1
      clear K1
      go_wp2
      go_ret
      exact ⟨by rw [eQ.out]; rfl, KE.out⟩
end Go.Proofs.Ytebcmcmboomgfaa

/-
  OWN WORK (by mkpr3.py). record: isRight, kind 2.
-/
namespace Go.Proofs.Ytebcmcmboomgfaa
open Go.RowKit
set_option linter.unusedVariables false
set_option linter.unusedSimpArgs false

set_option maxRecDepth 20000 in
set_option maxHeartbeats 6400000 in
theorem qRight_2 (V : RV) (birth prev id page frm : Int) (before after : List UInt8) (next : Int) (rows : List RowR) (dirty : List RecR) (w : World) (h : SeeR w V (⟨2, birth, prev, id, page, frm, before, after, next, rows, dirty⟩ : Rcd)) : Calls Try.prog 27 #[(⟨2, birth, prev, id, page, frm, before, after, next, rows, dirty⟩ : Rcd).agg V] w fun e w' => e = .returned (.bool (bl (⟨2, birth, prev, id, page, frm, before, after, next, rows, dirty⟩ : Rcd).Right)) ∧ Kept [] w w' := by
  obtain ⟨pb, cb, pa, ca, pr, cr, pd, cd, rfl⟩ := h.shapes
  obtain ⟨B, hB⟩ : ∃ B, B = decide ((0 : Int) = 0 ∧ (0 : Int) = 0 ∧ id = 0 ∧ (0 : Int) = 0 ∧ (0 : Int) = 0 ∧ next = 0 ∧ (0 : Nat) = 0 ∧ (0 : Nat) = 0 ∧ rows.length = 0 ∧ dirty.length = 0) := ⟨_, rfl⟩
  have hb := fun wz => pBlankB 2 0 0 id 0 0 next none none pr pd 0 0 0 0 rows.length cr dirty.length cd B hB wz
  have RI : (⟨2, birth, prev, id, page, frm, before, after, next, rows, dirty⟩ : Rcd).Right ↔ B = true ∧ ownedOk (⟨2, birth, prev, id, page, frm, before, after, next, rows, dirty⟩ : Rcd) ∧ rangedOk (⟨2, birth, prev, id, page, frm, before, after, next, rows, dirty⟩ : Rcd) ∧ partsL before after := by
    have e : (⟨2, birth, prev, id, page, frm, before, after, next, rows, dirty⟩ : Rcd).Right ↔ (lsnOk birth ∧ lsnOk prev) ∧ id = 0 ∧ (rows = [] ∧ dirty = []) ∧ next = 0 ∧ rangedOk (⟨2, birth, prev, id, page, frm, before, after, next, rows, dirty⟩ : Rcd) ∧ partsOk (⟨2, birth, prev, id, page, frm, before, after, next, rows, dirty⟩ : Rcd) := by unfold Rcd.Right; simp
    rw [e, hB]
    constructor
    · rintro ⟨a0, a1, a2, a3, a4, a5⟩
      exact ⟨decide_eq_true ⟨rfl, rfl, a1, rfl, rfl, a3, rfl, rfl, (by rw [a2.1]; rfl), (by rw [a2.2]; rfl)⟩, a0, a4, a5⟩
    · rintro ⟨hd, s0, s1, s2⟩
      have q := of_decide_eq_true hd
      exact ⟨s0, q.2.2.1, ⟨List.eq_nil_of_length_eq_zero q.2.2.2.2.2.2.2.2.1, List.eq_nil_of_length_eq_zero q.2.2.2.2.2.2.2.2.2⟩, q.2.2.2.2.2.1, s1, s2⟩
  clear hB
  have ho := fun wz => pOwned (⟨.slice pb before.length cb, .slice pa after.length ca, .slice pr rows.length cr, .slice pd dirty.length cd⟩ : RV) (⟨2, birth, prev, id, page, frm, before, after, next, rows, dirty⟩ : Rcd) wz
  have hr := fun wz (kz : Kept [] w wz) => pRange _ (⟨2, birth, prev, id, page, frm, before, after, next, rows, dirty⟩ : Rcd) wz (h.kept kz)
  have hp := fun wz (kz : Kept [] w wz) (hn : 0 < after.length) => pParts _ _ before after wz (h.before.kept kz) (h.after.kept kz) hn
  have hn := fun wz => pIsNext next wz
  have hi := fun wz => pIsId id wz
  have ht := fun wz (kz : Kept [] w wz) => qTable _ rows wz (h.rows.kept kz)
  have hd := fun wz (kz : Kept [] w wz) => qDirty _ dirty wz (h.dirty.kept kz)
  clear h
  unfold Rcd.agg at ho hr ⊢
  dsimp only at ho hr hp ht hd ⊢
  obtain ⟨Q, hQ⟩ : ∃ Q, Q = bl (⟨2, birth, prev, id, page, frm, before, after, next, rows, dirty⟩ : Rcd).Right := ⟨_, rfl⟩
  rw [← hQ]
  have HQ := @hideH _ (show (¬ (B = true ∧ ownedOk (⟨2, birth, prev, id, page, frm, before, after, next, rows, dirty⟩ : Rcd) ∧ rangedOk (⟨2, birth, prev, id, page, frm, before, after, next, rows, dirty⟩ : Rcd) ∧ partsL before after) → Q = false) ∧ ((B = true ∧ ownedOk (⟨2, birth, prev, id, page, frm, before, after, next, rows, dirty⟩ : Rcd) ∧ rangedOk (⟨2, birth, prev, id, page, frm, before, after, next, rows, dirty⟩ : Rcd) ∧ partsL before after) → Q = true) from ⟨fun h => by rw [hQ]; exact bl_f fun q => h (RI.1 q), fun h => by rw [hQ]; exact bl_t (RI.2 h)⟩)
  clear hQ RI
  clear hn
  clear hi
  clear ht
  clear hd
  obtain ⟨wa, hwa⟩ : ∃ wa, wa = w.alloc (.cells #[.int .i64 2, .int .i64 birth, .int .i64 prev, .int .i64 id, .int .i64 page, .int .i64 frm, .slice pb before.length cb, .slice pa after.length ca, .int .i64 next, .slice pr rows.length cr, .slice pd dirty.length cd] 26) := ⟨_, rfl⟩
  have ba : Blk wa w.heap.size 26 [.int .i64 2, .int .i64 birth, .int .i64 prev, .int .i64 id, .int .i64 page, .int .i64 frm, .slice pb before.length cb, .slice pa after.length ca, .int .i64 next, .slice pr rows.length cr, .slice pd dirty.length cd] := by rw [hwa]; exact Blk.new w _ _
  have ka : Kept [] w wa := by rw [hwa]; exact (Kept.refl [] w).alloc _
  have HA := @hideH _ (And.intro hwa (And.intro ba ka))
  clear hwa ba ka
  go_enter Try.func27, Try.ntmps27
  go_wp2_with fail
  rw [← HA.out.1]
  refine (hb _).mono ?_
  rintro e w1 ⟨rfl, k1⟩
  clear hb
  have b1 := (HA.out.2.1.kept ((Kept.refl [] wa).alloc _) (by simp)).kept k1 (by simp)
  have K1 := (HA.out.2.2.alloc _).then k1
  have c0 := b1.cell (j := 0) rfl
  have c1 := b1.cell (j := 1) rfl
  have c2 := b1.cell (j := 2) rfl
  have c3 := b1.cell (j := 3) rfl
  have c4 := b1.cell (j := 4) rfl
  have c5 := b1.cell (j := 5) rfl
  have c6 := b1.cell (j := 6) rfl
  have c7 := b1.cell (j := 7) rfl
  have c8 := b1.cell (j := 8) rfl
  have c9 := b1.cell (j := 9) rfl
  have c10 := b1.cell (j := 10) rfl
  clear b1 k1
  cases B with
  | false =>
    have eQ := @hideH _ (HQ.out.1 fun h => by cases h.1)
    have KE := @hideH _ K1
    clear K1
    go_wp2
    go_ret
    exact ⟨by rw [eQ.out]; rfl, KE.out⟩
  | true =>
    by_cases g0 : ownedOk (⟨2, birth, prev, id, page, frm, before, after, next, rows, dirty⟩ : Rcd)
    · simp only [bl_t g0] at ho
      have q0 := @hideH _ g0
      clear g0
      go_wp2_with fail
      refine (ho _).mono ?_
      rintro e w2 ⟨rfl, kn⟩
      clear ho
      replace c0 := kn.cell c0 (by simp)
      replace c1 := kn.cell c1 (by simp)
      replace c2 := kn.cell c2 (by simp)
      replace c3 := kn.cell c3 (by simp)
      replace c4 := kn.cell c4 (by simp)
      replace c5 := kn.cell c5 (by simp)
      replace c6 := kn.cell c6 (by simp)
      replace c7 := kn.cell c7 (by simp)
      replace c8 := kn.cell c8 (by simp)
      replace c9 := kn.cell c9 (by simp)
      replace c10 := kn.cell c10 (by simp)
      have K2 := K1.then kn
      clear kn K1
      by_cases g1 : rangedOk (⟨2, birth, prev, id, page, frm, before, after, next, rows, dirty⟩ : Rcd)
      · simp only [bl_t g1] at hr
        have q1 := @hideH _ g1
        clear g1
        go_wp2_with fail
        refine (hr _ K2).mono ?_
        rintro e w3 ⟨rfl, kn⟩
        clear hr
        replace c0 := kn.cell c0 (by simp)
        replace c1 := kn.cell c1 (by simp)
        replace c2 := kn.cell c2 (by simp)
        replace c3 := kn.cell c3 (by simp)
        replace c4 := kn.cell c4 (by simp)
        replace c5 := kn.cell c5 (by simp)
        replace c6 := kn.cell c6 (by simp)
        replace c7 := kn.cell c7 (by simp)
        replace c8 := kn.cell c8 (by simp)
        replace c9 := kn.cell c9 (by simp)
        replace c10 := kn.cell c10 (by simp)
        have K3 := K2.then kn
        clear kn K2
        by_cases g2 : partsL before after
        · simp only [bl_t g2] at hp
          have q2 := @hideH _ g2
          clear g2
          have H1 : 0 < after.length := q1.out.2.1.1
          replace hp := fun wz kz => hp wz kz H1
          clear H1
          go_wp2_with fail
          refine (hp _ K3).mono ?_
          rintro e w4 ⟨rfl, kn⟩
          clear hp
          replace c0 := kn.cell c0 (by simp)
          replace c1 := kn.cell c1 (by simp)
          replace c2 := kn.cell c2 (by simp)
          replace c3 := kn.cell c3 (by simp)
          replace c4 := kn.cell c4 (by simp)
          replace c5 := kn.cell c5 (by simp)
          replace c6 := kn.cell c6 (by simp)
          replace c7 := kn.cell c7 (by simp)
          replace c8 := kn.cell c8 (by simp)
          replace c9 := kn.cell c9 (by simp)
          replace c10 := kn.cell c10 (by simp)
          have K4 := K3.then kn
          clear kn K3
          have eQ := @hideH _ (HQ.out.2 ⟨by trivial, q0.out, q1.out, q2.out⟩)
          have KE := @hideH _ K4
          clear K4
          go_wp2
          go_ret
          exact ⟨by rw [eQ.out]; rfl, KE.out⟩
        · simp only [bl_f g2] at hp
          have eQ := @hideH _ (HQ.out.1 fun h => g2 (h.2.2.2))
          clear g2
          have H1 : 0 < after.length := q1.out.2.1.1
          replace hp := fun wz kz => hp wz kz H1
          clear H1
          go_wp2_with fail
          refine (hp _ K3).mono ?_
          rintro e w4 ⟨rfl, kn⟩
          clear hp
          replace c0 := kn.cell c0 (by simp)
          replace c1 := kn.cell c1 (by simp)
          replace c2 := kn.cell c2 (by simp)
          replace c3 := kn.cell c3 (by simp)
          replace c4 := kn.cell c4 (by simp)
          replace c5 := kn.cell c5 (by simp)
          replace c6 := kn.cell c6 (by simp)
          replace c7 := kn.cell c7 (by simp)
          replace c8 := kn.cell c8 (by simp)
          replace c9 := kn.cell c9 (by simp)
          replace c10 := kn.cell c10 (by simp)
          have K4 := K3.then kn
          clear kn K3
          have KE := @hideH _ K4
          clear K4
          go_wp2
          go_ret
          exact ⟨by rw [eQ.out]; rfl, KE.out⟩
      · simp only [bl_f g1] at hr
        have eQ := @hideH _ (HQ.out.1 fun h => g1 (h.2.2.1))
        clear g1
        go_wp2_with fail
        refine (hr _ K2).mono ?_
        rintro e w3 ⟨rfl, kn⟩
        clear hr
        replace c0 := kn.cell c0 (by simp)
        replace c1 := kn.cell c1 (by simp)
        replace c2 := kn.cell c2 (by simp)
        replace c3 := kn.cell c3 (by simp)
        replace c4 := kn.cell c4 (by simp)
        replace c5 := kn.cell c5 (by simp)
        replace c6 := kn.cell c6 (by simp)
        replace c7 := kn.cell c7 (by simp)
        replace c8 := kn.cell c8 (by simp)
        replace c9 := kn.cell c9 (by simp)
        replace c10 := kn.cell c10 (by simp)
        have K3 := K2.then kn
        clear kn K2
        have KE := @hideH _ K3
        clear K3
        go_wp2
        go_ret
        exact ⟨by rw [eQ.out]; rfl, KE.out⟩
    · simp only [bl_f g0] at ho
      have eQ := @hideH _ (HQ.out.1 fun h => g0 (h.2.1))
      clear g0
      go_wp2_with fail
      refine (ho _).mono ?_
      rintro e w2 ⟨rfl, kn⟩
      clear ho
      replace c0 := kn.cell c0 (by simp)
      replace c1 := kn.cell c1 (by simp)
      replace c2 := kn.cell c2 (by simp)
      replace c3 := kn.cell c3 (by simp)
      replace c4 := kn.cell c4 (by simp)
      replace c5 := kn.cell c5 (by simp)
      replace c6 := kn.cell c6 (by simp)
      replace c7 := kn.cell c7 (by simp)
      replace c8 := kn.cell c8 (by simp)
      replace c9 := kn.cell c9 (by simp)
      replace c10 := kn.cell c10 (by simp)
      have K2 := K1.then kn
      clear kn K1
      have KE := @hideH _ K2
      clear K2
      go_wp2
      go_ret
      exact ⟨by rw [eQ.out]; rfl, KE.out⟩
end Go.Proofs.Ytebcmcmboomgfaa

/-
  OWN WORK (by mkpr3.py). record: isRight, kind 3.
-/
namespace Go.Proofs.Ytebcmcmboomgfaa
open Go.RowKit
set_option linter.unusedVariables false
set_option linter.unusedSimpArgs false

set_option maxRecDepth 20000 in
set_option maxHeartbeats 6400000 in
theorem qRight_3 (V : RV) (birth prev id page frm : Int) (before after : List UInt8) (next : Int) (rows : List RowR) (dirty : List RecR) (w : World) (h : SeeR w V (⟨3, birth, prev, id, page, frm, before, after, next, rows, dirty⟩ : Rcd)) : Calls Try.prog 27 #[(⟨3, birth, prev, id, page, frm, before, after, next, rows, dirty⟩ : Rcd).agg V] w fun e w' => e = .returned (.bool (bl (⟨3, birth, prev, id, page, frm, before, after, next, rows, dirty⟩ : Rcd).Right)) ∧ Kept [] w w' := by
  obtain ⟨pb, cb, pa, ca, pr, cr, pd, cd, rfl⟩ := h.shapes
  obtain ⟨B, hB⟩ : ∃ B, B = decide ((0 : Int) = 0 ∧ (0 : Int) = 0 ∧ id = 0 ∧ (0 : Int) = 0 ∧ (0 : Int) = 0 ∧ (0 : Int) = 0 ∧ before.length = 0 ∧ (0 : Nat) = 0 ∧ rows.length = 0 ∧ dirty.length = 0) := ⟨_, rfl⟩
  have hb := fun wz => pBlankB 3 0 0 id 0 0 0 pb none pr pd before.length cb 0 0 rows.length cr dirty.length cd B hB wz
  have RI : (⟨3, birth, prev, id, page, frm, before, after, next, rows, dirty⟩ : Rcd).Right ↔ B = true ∧ ownedOk (⟨3, birth, prev, id, page, frm, before, after, next, rows, dirty⟩ : Rcd) ∧ rangedOk (⟨3, birth, prev, id, page, frm, before, after, next, rows, dirty⟩ : Rcd) ∧ nextOk next := by
    have e : (⟨3, birth, prev, id, page, frm, before, after, next, rows, dirty⟩ : Rcd).Right ↔ (lsnOk birth ∧ lsnOk prev) ∧ id = 0 ∧ (rows = [] ∧ dirty = []) ∧ nextOk next ∧ rangedOk (⟨3, birth, prev, id, page, frm, before, after, next, rows, dirty⟩ : Rcd) ∧ before = [] := by unfold Rcd.Right; simp
    rw [e, hB]
    constructor
    · rintro ⟨a0, a1, a2, a3, a4, a5⟩
      exact ⟨decide_eq_true ⟨rfl, rfl, a1, rfl, rfl, rfl, (by rw [a5]; rfl), rfl, (by rw [a2.1]; rfl), (by rw [a2.2]; rfl)⟩, a0, a4, a3⟩
    · rintro ⟨hd, s0, s1, s2⟩
      have q := of_decide_eq_true hd
      exact ⟨s0, q.2.2.1, ⟨List.eq_nil_of_length_eq_zero q.2.2.2.2.2.2.2.2.1, List.eq_nil_of_length_eq_zero q.2.2.2.2.2.2.2.2.2⟩, s2, s1, List.eq_nil_of_length_eq_zero q.2.2.2.2.2.2.1⟩
  clear hB
  have ho := fun wz => pOwned (⟨.slice pb before.length cb, .slice pa after.length ca, .slice pr rows.length cr, .slice pd dirty.length cd⟩ : RV) (⟨3, birth, prev, id, page, frm, before, after, next, rows, dirty⟩ : Rcd) wz
  have hr := fun wz (kz : Kept [] w wz) => pRange _ (⟨3, birth, prev, id, page, frm, before, after, next, rows, dirty⟩ : Rcd) wz (h.kept kz)
  have hp := fun wz (kz : Kept [] w wz) (hn : 0 < after.length) => pParts _ _ before after wz (h.before.kept kz) (h.after.kept kz) hn
  have hn := fun wz => pIsNext next wz
  have hi := fun wz => pIsId id wz
  have ht := fun wz (kz : Kept [] w wz) => qTable _ rows wz (h.rows.kept kz)
  have hd := fun wz (kz : Kept [] w wz) => qDirty _ dirty wz (h.dirty.kept kz)
  clear h
  unfold Rcd.agg at ho hr ⊢
  dsimp only at ho hr hp ht hd ⊢
  obtain ⟨Q, hQ⟩ : ∃ Q, Q = bl (⟨3, birth, prev, id, page, frm, before, after, next, rows, dirty⟩ : Rcd).Right := ⟨_, rfl⟩
  rw [← hQ]
  have HQ := @hideH _ (show (¬ (B = true ∧ ownedOk (⟨3, birth, prev, id, page, frm, before, after, next, rows, dirty⟩ : Rcd) ∧ rangedOk (⟨3, birth, prev, id, page, frm, before, after, next, rows, dirty⟩ : Rcd) ∧ nextOk next) → Q = false) ∧ ((B = true ∧ ownedOk (⟨3, birth, prev, id, page, frm, before, after, next, rows, dirty⟩ : Rcd) ∧ rangedOk (⟨3, birth, prev, id, page, frm, before, after, next, rows, dirty⟩ : Rcd) ∧ nextOk next) → Q = true) from ⟨fun h => by rw [hQ]; exact bl_f fun q => h (RI.1 q), fun h => by rw [hQ]; exact bl_t (RI.2 h)⟩)
  clear hQ RI
  clear hp
  clear hi
  clear ht
  clear hd
  obtain ⟨wa, hwa⟩ : ∃ wa, wa = w.alloc (.cells #[.int .i64 3, .int .i64 birth, .int .i64 prev, .int .i64 id, .int .i64 page, .int .i64 frm, .slice pb before.length cb, .slice pa after.length ca, .int .i64 next, .slice pr rows.length cr, .slice pd dirty.length cd] 26) := ⟨_, rfl⟩
  have ba : Blk wa w.heap.size 26 [.int .i64 3, .int .i64 birth, .int .i64 prev, .int .i64 id, .int .i64 page, .int .i64 frm, .slice pb before.length cb, .slice pa after.length ca, .int .i64 next, .slice pr rows.length cr, .slice pd dirty.length cd] := by rw [hwa]; exact Blk.new w _ _
  have ka : Kept [] w wa := by rw [hwa]; exact (Kept.refl [] w).alloc _
  have HA := @hideH _ (And.intro hwa (And.intro ba ka))
  clear hwa ba ka
  go_enter Try.func27, Try.ntmps27
  go_wp2_with fail
  rw [← HA.out.1]
  refine (hb _).mono ?_
  rintro e w1 ⟨rfl, k1⟩
  clear hb
  have b1 := (HA.out.2.1.kept ((Kept.refl [] wa).alloc _) (by simp)).kept k1 (by simp)
  have K1 := (HA.out.2.2.alloc _).then k1
  have c0 := b1.cell (j := 0) rfl
  have c1 := b1.cell (j := 1) rfl
  have c2 := b1.cell (j := 2) rfl
  have c3 := b1.cell (j := 3) rfl
  have c4 := b1.cell (j := 4) rfl
  have c5 := b1.cell (j := 5) rfl
  have c6 := b1.cell (j := 6) rfl
  have c7 := b1.cell (j := 7) rfl
  have c8 := b1.cell (j := 8) rfl
  have c9 := b1.cell (j := 9) rfl
  have c10 := b1.cell (j := 10) rfl
  clear b1 k1
  cases B with
  | false =>
    have eQ := @hideH _ (HQ.out.1 fun h => by cases h.1)
    have KE := @hideH _ K1
    clear K1
    go_wp2
    go_ret
    exact ⟨by rw [eQ.out]; rfl, KE.out⟩
  | true =>
    by_cases g0 : ownedOk (⟨3, birth, prev, id, page, frm, before, after, next, rows, dirty⟩ : Rcd)
    · simp only [bl_t g0] at ho
      have q0 := @hideH _ g0
      clear g0
      go_wp2_with fail
      refine (ho _).mono ?_
      rintro e w2 ⟨rfl, kn⟩
      clear ho
      replace c0 := kn.cell c0 (by simp)
      replace c1 := kn.cell c1 (by simp)
      replace c2 := kn.cell c2 (by simp)
      replace c3 := kn.cell c3 (by simp)
      replace c4 := kn.cell c4 (by simp)
      replace c5 := kn.cell c5 (by simp)
      replace c6 := kn.cell c6 (by simp)
      replace c7 := kn.cell c7 (by simp)
      replace c8 := kn.cell c8 (by simp)
      replace c9 := kn.cell c9 (by simp)
      replace c10 := kn.cell c10 (by simp)
      have K2 := K1.then kn
      clear kn K1
      by_cases g1 : rangedOk (⟨3, birth, prev, id, page, frm, before, after, next, rows, dirty⟩ : Rcd)
      · simp only [bl_t g1] at hr
        have q1 := @hideH _ g1
        clear g1
        go_wp2_with fail
        refine (hr _ K2).mono ?_
        rintro e w3 ⟨rfl, kn⟩
        clear hr
        replace c0 := kn.cell c0 (by simp)
        replace c1 := kn.cell c1 (by simp)
        replace c2 := kn.cell c2 (by simp)
        replace c3 := kn.cell c3 (by simp)
        replace c4 := kn.cell c4 (by simp)
        replace c5 := kn.cell c5 (by simp)
        replace c6 := kn.cell c6 (by simp)
        replace c7 := kn.cell c7 (by simp)
        replace c8 := kn.cell c8 (by simp)
        replace c9 := kn.cell c9 (by simp)
        replace c10 := kn.cell c10 (by simp)
        have K3 := K2.then kn
        clear kn K2
        by_cases g2 : nextOk next
        · simp only [bl_t g2] at hn
          have q2 := @hideH _ g2
          clear g2
          go_wp2_with fail
          refine (hn _).mono ?_
          rintro e wq ⟨rfl, rfl⟩
          clear hn
          have eQ := @hideH _ (HQ.out.2 ⟨by trivial, q0.out, q1.out, q2.out⟩)
          have KE := @hideH _ K3
          clear K3
          go_wp2
          go_ret
          exact ⟨by rw [eQ.out]; rfl, KE.out⟩
        · simp only [bl_f g2] at hn
          have eQ := @hideH _ (HQ.out.1 fun h => g2 (h.2.2.2))
          clear g2
          go_wp2_with fail
          refine (hn _).mono ?_
          rintro e wq ⟨rfl, rfl⟩
          clear hn
          have KE := @hideH _ K3
          clear K3
          go_wp2
          go_ret
          exact ⟨by rw [eQ.out]; rfl, KE.out⟩
      · simp only [bl_f g1] at hr
        have eQ := @hideH _ (HQ.out.1 fun h => g1 (h.2.2.1))
        clear g1
        go_wp2_with fail
        refine (hr _ K2).mono ?_
        rintro e w3 ⟨rfl, kn⟩
        clear hr
        replace c0 := kn.cell c0 (by simp)
        replace c1 := kn.cell c1 (by simp)
        replace c2 := kn.cell c2 (by simp)
        replace c3 := kn.cell c3 (by simp)
        replace c4 := kn.cell c4 (by simp)
        replace c5 := kn.cell c5 (by simp)
        replace c6 := kn.cell c6 (by simp)
        replace c7 := kn.cell c7 (by simp)
        replace c8 := kn.cell c8 (by simp)
        replace c9 := kn.cell c9 (by simp)
        replace c10 := kn.cell c10 (by simp)
        have K3 := K2.then kn
        clear kn K2
        have KE := @hideH _ K3
        clear K3
        go_wp2
        go_ret
        exact ⟨by rw [eQ.out]; rfl, KE.out⟩
    · simp only [bl_f g0] at ho
      have eQ := @hideH _ (HQ.out.1 fun h => g0 (h.2.1))
      clear g0
      go_wp2_with fail
      refine (ho _).mono ?_
      rintro e w2 ⟨rfl, kn⟩
      clear ho
      replace c0 := kn.cell c0 (by simp)
      replace c1 := kn.cell c1 (by simp)
      replace c2 := kn.cell c2 (by simp)
      replace c3 := kn.cell c3 (by simp)
      replace c4 := kn.cell c4 (by simp)
      replace c5 := kn.cell c5 (by simp)
      replace c6 := kn.cell c6 (by simp)
      replace c7 := kn.cell c7 (by simp)
      replace c8 := kn.cell c8 (by simp)
      replace c9 := kn.cell c9 (by simp)
      replace c10 := kn.cell c10 (by simp)
      have K2 := K1.then kn
      clear kn K1
      have KE := @hideH _ K2
      clear K2
      go_wp2
      go_ret
      exact ⟨by rw [eQ.out]; rfl, KE.out⟩
end Go.Proofs.Ytebcmcmboomgfaa

