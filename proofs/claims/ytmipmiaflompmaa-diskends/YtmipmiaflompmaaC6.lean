import Derived.Test.YtmipmiaflompmaaRows
import Derived.Deep.Slices
import Derived.Test.YtmipmiaflompmaaC5
/-
  OWN WORK. The laws of disk: play: a crash, a copy.
-/
namespace Go.Proofs.Ytmipmiaflompmaa
open Go.RowKit
set_option linter.unusedVariables false
set_option linter.unusedSimpArgs false

set_option maxHeartbeats 3200000 in
theorem play_crash (base g M : Nat) (vD vR ub vk : Value) (E : List Ent) (wh n m cl : Int) (b : List UInt8) (keep : List Int) (w : World) (h : Book base w g vD vR E) (hM : Few M E) (hcap : (M + 1) * 40 ≤ 140737488355328) (hcap2 : (E.length + 1) * 8 ≤ 140737488355328) (hb : Bs w ub b) (hk : Is w vk keep) (hub : b ≠ [] → ∀ x, ub.ownBlock = some x → x < base) (hvk : keep ≠ [] → ∀ x, vk.ownBlock = some x → x < base) (hn : IntKind.i64.wrap n = n) (hpos : 0 < E.length) :
    Calls Try.prog 30 #[.pointer (some ⟨g, 0, none⟩), .agg #[.int .i64 13, .int .i64 wh, .int .i64 n, .int .i64 m, ub, .int .i64 cl, vk]] w fun r w' => r = .returned (.bool true) ∧ ∃ vD' vR' E', Book base w' g vD' vR' E' ∧ Few (M + 1) E' ∧ E.length ≤ E'.length ∧ E'.length ≤ E.length + 1 ∧ (E = [] → E' = []) ∧ Past base w w' := by
  obtain ⟨pb, cb, rfl, -⟩ := id hb
  obtain ⟨pk, ck, rfl, -⟩ := id hk
  obtain ⟨w0, hw0⟩ : ∃ w0, w0 = w.alloc (.cells #[.int .i64 13, .int .i64 wh, .int .i64 n, .int .i64 m, .slice pb b.length cb, .int .i64 cl, .slice pk keep.length ck] 59) := ⟨_, rfl⟩
  have k0 : Kept [] w w0 := by rw [hw0]; exact (Kept.refl [] w).alloc _
  have bO : Blk w0 w.heap.size 59 [.int .i64 13, .int .i64 wh, .int .i64 n, .int .i64 m, .slice pb b.length cb, .int .i64 cl, .slice pk keep.length ck] := by rw [hw0]; exact Blk.new w _ _
  have h0 := h.kept k0 (by simp)
  obtain ⟨k, hkd⟩ : ∃ k, k = restN wh E.length := ⟨_, rfl⟩
  have hkl : k < E.length := by rw [hkd]; have := restN_lt wh (E.length - 1); rw [show E.length - 1 + 1 = E.length by omega] at this; omega
  obtain ⟨e, he⟩ : ∃ e, E[k]? = some e := ⟨_, List.getElem?_eq_getElem hkl⟩
  have HNO : Hid (w.heap.size ∉ e.F.own) := (show w.heap.size ∉ e.F.own from fun hm => by have := (h.both e (List.mem_of_getElem? he)).lt _ (Foot.inOwn hm); omega)
  obtain ⟨bD, cD, bR, cR, rfl, rfl, d0, r0, g0, g1⟩ := h0.at he
  have hmd := mod_any wh E.length (w0.drew) hpos (by omega)
  rw [← hkd] at hmd
  have hkl' : (k : Int) < (E.length : Int) := by omega
  have hE0 : ¬ (E.length : Int) = 0 := by omega
  have q0 := bO.cell (j := 0) rfl
  have q1 := bO.cell (j := 1) rfl
  have HB0 : Hid (Book base w0 g (.slice (some ⟨bD, 0, none⟩) E.length cD) (.slice (some ⟨bR, 0, none⟩) E.length cR) E) := h0
  have HE : Hid (E[k]? = some e) := he
  have HBO : Hid (Blk w0 w.heap.size 59 [.int .i64 13, .int .i64 wh, .int .i64 n, .int .i64 m, .slice pb b.length cb, .int .i64 cl, .slice pk keep.length ck]) := bO
  have HW0 : Hid (w0 = w.alloc (.cells #[.int .i64 13, .int .i64 wh, .int .i64 n, .int .i64 m, .slice pb b.length cb, .int .i64 cl, .slice pk keep.length ck] 59)) := hw0
  have HK0 : Hid (Kept [] w w0) := k0
  have HM : Hid (Few M E) := hM
  have HC : Hid ((M + 1) * 40 ≤ 140737488355328 ∧ (E.length + 1) * 8 ≤ 140737488355328) := ⟨hcap, hcap2⟩
  have HBK : Hid (Bs w0 (.slice pb b.length cb) b ∧ Is w0 (.slice pk keep.length ck) keep ∧ (b ≠ [] → ∀ x, (Value.slice pb b.length cb).ownBlock = some x → x < base) ∧ (keep ≠ [] → ∀ x, (Value.slice pk keep.length ck).ownBlock = some x → x < base)) := ⟨hb.kept k0, hk.kept k0, hub, hvk⟩
  have HBW : Hid (base ≤ w.heap.size) := (show base ≤ w.heap.size from Nat.le_trans h.low.1 (Nat.le_of_lt h.blk.lt))
  obtain ⟨A, B, hp, hq, hap, hF⟩ := h0.both e (List.mem_of_getElem? he)
  obtain ⟨gv, ev⟩ := hp.ptr
  obtain ⟨gu, eu⟩ := hq.ptr
  rw [ev] at d0
  rw [eu] at r0
  have HV : Hid (e.v = .pointer (some ⟨gv, 0, none⟩) ∧ e.u = .pointer (some ⟨gu, 0, none⟩)) := ⟨ev, eu⟩
  rw [hw0] at g0 q0 q1
  clear hb hk hub hvk hM hcap hcap2 h h0 he hw0 hpos hkd bO k0 hp hq hap hF ev eu
  go_enter Try.func30, Try.ntmps30
  go_wp2
  rw [← HW0.out]
  rw [← HW0.out] at g0 q0 q1
  go_region_held3 (fun w' => w'.cell? ⟨w.heap.size, 1, none⟩ = some (.int .i64 wh) ∧ w'.cell? ⟨g, 0, none⟩ = some (.slice (some ⟨bD, 0, none⟩) E.length cD))
    (first | (exact ⟨q1, g0⟩) | go_keep)
    (first
      | (go_at_call 11; refine hmd.mono ?_; rintro e w5 ⟨rfl, rfl⟩)
      | fail)
  clear hmd
  go_wp2
  go_region_held3 (fun w' => w'.cell? ⟨g, 0, none⟩ = some (.slice (some ⟨bD, 0, none⟩) E.length cD) ∧ w'.cell? ⟨g, 1, none⟩ = some (.slice (some ⟨bR, 0, none⟩) E.length cR) ∧ w'.cell? ⟨bD, k, none⟩ = some (.pointer (some ⟨gv, 0, none⟩)) ∧ w'.cell? ⟨bR, k, none⟩ = some (.pointer (some ⟨gu, 0, none⟩)))
    (first | (exact ⟨g0, g1, d0, r0⟩) | go_keep) (fail)
  have c0 := HBO.out.cell (j := 0) rfl
  have c5' := HBO.out.cell (j := 5) rfl
  have c6' := HBO.out.cell (j := 6) rfl
  have kd : Kept [] w0 w0.drew.drew := (Kept.refl [] w0).drew.drew
  have hmem := List.mem_of_getElem? HE.out
  obtain ⟨A, B, hp, hq, hap, hF⟩ := HB0.out.both e hmem
  rw [HV.out.1] at hp
  rw [HV.out.2] at hq
  have hcr := fCrash _ e.d A cl (.slice pk keep.length ck) keep _ (hp.kept kd (by simp)) (HBK.out.2.1.kept kd)
  obtain ⟨pD, qD, eD⟩ := own_shape2 HB0.out.rowD
  clear g1 d0 r0 q0 q1
  go_wp2_with fail
  refine hcr.mono ?_
  rintro r wA ⟨nv, rfl, FA, pA, fA, kA, zA⟩
  clear hcr
  have kA' : Kept [] w0 wA := kd.then kA
  have fA' : ∀ x ∈ FA.own, w0.heap.size ≤ x := fA
  have zA' : ∀ x ∈ FA.frz, ∃ e ∈ E, x ∈ e.F.frz := fun x hx => by have := zA x hx; simp at this
  obtain ⟨gn, rfl⟩ := pA.ptr
  have gA := kA'.cell g0 (by simp)
  have kb := kA'.alloc (.cells #[.pointer (some ⟨gn, 0, none⟩)] 27)
  have gB := kb.cell g0 (by simp)
  have rD5 := own_of_kept HB0.out.rowD kb (by simp)
  have ngD : g ∉ (Value.slice (some ⟨bD, 0, none⟩) E.length cD).ownBlock.toList := fun hm => HB0.out.blk.far HB0.out.rowD (by decide) g (by simpa using hm) rfl
  have hnews : ∀ (j : Nat) u, [Value.pointer (some ⟨gn, 0, none⟩)][j]? = some u → (wA.alloc (.cells #[.pointer (some ⟨gn, 0, none⟩)] 27)).cell? ((⟨wA.heap.size, 0, none⟩ : Addr).add j) = some u := fun j u hj => by
    rw [add_none rfl]
    rcases j with _ | j
    · simp at hj; subst hj
      simp [go_sem]
    · simp at hj
  go_wp2_with (at_builtin; refine wpList_append_own2 rfl (.tmp 63) (.tmp 65) 53 rfl base 27 Try.underlying53 (.pointer none) 8 (by kernel_rfl) rfl _ _ _ (by rfl) rD5 ⟨wA.heap.size, 0, none⟩ 1 1 [.pointer (some ⟨gn, 0, none⟩)] (by rfl) rfl hnews (by simp [Value.oneCell']) (by have := HC.out.2; unfold maxLen; omega) (by have := HC.out.2; omega) (by have := HBW.out; have := kb.size; have := HK0.out.size; omega) ?_; intro v5 w5 o5 g5 at5; obtain ⟨p5, c5, rfl⟩ := own_shape2 o5; have k5 := Kept.ofGrown (S := (Value.slice (some ⟨bD, 0, none⟩) E.length cD).ownBlock.toList) g5 (by intro k e _; simp [e]); have kB5 := ((kb.mono (by simp)).trans k5 (fun x hx => .inl hx)); have y0 := (HB0.out.blk.kept kB5 ngD).cell (j := 0) rfl; have y1 := (HB0.out.blk.kept kB5 ngD).free 0)
  have half := Half.make HB0.out kA' pA fA' zA' o5 k5 (by rcases at5 with e | e; exact .inl e; exact .inr (by have := e.1; simp at this; simpa using this))
  have HH : Hid (Half base w0 (w5.setCell ⟨g, 0, none⟩ (.slice p5 (E.length + 1) c5)) g (.slice (some ⟨bD, 0, none⟩) E.length cD) (.slice (some ⟨bR, 0, none⟩) E.length cR) (.slice p5 (E.length + 1) c5) (.pointer (some ⟨gn, 0, none⟩)) E (e.d.crash cl keep) FA) := half
  obtain ⟨w6, hw6⟩ : ∃ w6, w6 = w5.setCell ⟨g, 0, none⟩ (.slice p5 (E.length + 1) c5) := ⟨_, rfl⟩
  have HW6 : Hid (w6 = w5.setCell ⟨g, 0, none⟩ (.slice p5 (E.length + 1) c5)) := hw6
  rw [← hw6] at half HH
  have g1 := half.blk.cell (j := 1) rfl
  have g1f := half.blk.free 1
  have kw6 := half.kept
  have nO : w.heap.size ∉ g :: (Value.slice (some ⟨bD, 0, none⟩) E.length cD).ownBlock.toList := fun hm => by
    have h1 := HB0.out.blk
    rcases List.mem_cons.1 hm with c | c
    · have := HBO.out.lt
      exact absurd (show Blk w0 w.heap.size 56 _ by rw [c]; exact h1) (fun hb => by have h2 := HBO.out; unfold Blk at hb h2; rw [hb] at h2; simp at h2)
    · exact HBO.out.far HB0.out.rowD (by decide) _ (by simpa using c) rfl
  have e5 := kw6.cell c5' nO
  have e6 := kw6.cell c6' nO
  obtain ⟨A6, B6, -, hq6, -, -⟩ := half.both hmem
  rw [HV.out.2] at hq6
  have hcr2 := qCrash _ e.d B6 cl (.slice pk keep.length ck) keep w6.drew (hq6.kept (Kept.refl [] w6).drew (by simp)) ((HBK.out.2.1.past half.past HBK.out.2.2.2).kept (Kept.refl [] w6).drew)
  have rR6 := half.rowR
  have ngR : g ∉ (Value.slice (some ⟨bR, 0, none⟩) E.length cR).ownBlock.toList := fun hm => half.blk.far half.rowR (by decide) g (by simpa using hm) rfl
  clear half hp hq g0 gA gB rD5 hnews o5 k5 g5 at5 kB5 y0 y1 pA fA zA zA' hw6
  go_upto_region 12 with fail
  rw [← HW6.out]
  refine wp_region_late (fun w' => w'.cell? ⟨g, 1, none⟩ = some (.slice (some ⟨bR, 0, none⟩) E.length cR) ∧ w'.cell? ⟨w.heap.size, 5, none⟩ = some (.int .i64 cl) ∧ w'.cell? ⟨w.heap.size, 6, none⟩ = some (.slice pk keep.length ck)) 13 (by kernel_rfl) ?_
  have hS : w6.drew.cell? ⟨g, 1, none⟩ = some (.slice (some ⟨bR, 0, none⟩) E.length cR) ∧ w6.drew.cell? ⟨w.heap.size, 5, none⟩ = some (.int .i64 cl) ∧ w6.drew.cell? ⟨w.heap.size, 6, none⟩ = some (.slice pk keep.length ck) := ⟨g1, e5, e6⟩
  refine wpAnyZ_take 0 (v := ?v0) rfl (by kernel_rfl) (by kernel_rfl) (by kernel_rfl) (by kernel_rfl) (fun _ _ _ h => h) (by rfl) ?hy0 hS ?rest0
  case hy0 => (intro wx hSx; (try dsimp only at hSx); go_simp; (try with_reducible rfl))
  (try simp only [Act.put, List.setIfInBounds_toArray, List.set_cons_zero, List.set_cons_succ])
  refine wpAnyZ_take 1 (v := ?v1) rfl (by kernel_rfl) (by kernel_rfl) (by kernel_rfl) (by kernel_rfl) (fun _ _ _ h => h) (by rfl) ?hy1 hS ?rest1
  case hy1 => (intro wx hSx; (try dsimp only at hSx); go_simp; (try with_reducible rfl))
  (try simp only [Act.put, List.setIfInBounds_toArray, List.set_cons_zero, List.set_cons_succ])
  refine wpAnyZ_take 2 (v := ?v2) rfl (by kernel_rfl) (by kernel_rfl) (by kernel_rfl) (by kernel_rfl) (fun _ _ _ h => h) (by rfl) ?hy2 hS ?rest2
  case hy2 => (intro wx hSx; (try dsimp only at hSx); go_simp; (try with_reducible rfl))
  (try simp only [Act.put, List.setIfInBounds_toArray, List.set_cons_zero, List.set_cons_succ])
  refine wpAnyZ_take 3 (v := ?v3) rfl (by kernel_rfl) (by kernel_rfl) (by kernel_rfl) (by kernel_rfl) (fun _ _ _ h => h) (by rfl) ?hy3 hS ?rest3
  case hy3 => (intro wx hSx; (try dsimp only at hSx); go_simp; (try with_reducible rfl))
  (try simp only [Act.put, List.setIfInBounds_toArray, List.set_cons_zero, List.set_cons_succ])
  refine wpAnyZ_take 4 (v := ?v4) rfl (by kernel_rfl) (by kernel_rfl) (by kernel_rfl) (by kernel_rfl) (fun _ _ _ h => h) (by rfl) ?hy4 hS ?rest4
  case hy4 => (intro wx hSx; (try dsimp only at hSx); go_simp; (try with_reducible rfl))
  (try simp only [Act.put, List.setIfInBounds_toArray, List.set_cons_zero, List.set_cons_succ])
  refine wpAnyZ_take 5 (v := ?v5) rfl (by kernel_rfl) (by kernel_rfl) (by kernel_rfl) (by kernel_rfl) (fun _ _ _ h => h) (by rfl) ?hy5 hS ?rest5
  case hy5 => (intro wx hSx; (try dsimp only at hSx); go_simp; (try with_reducible rfl))
  (try simp only [Act.put, List.setIfInBounds_toArray, List.set_cons_zero, List.set_cons_succ])
  refine wpAnyZ_take 6 (v := ?v6) rfl (by kernel_rfl) (by kernel_rfl) (by kernel_rfl) (by kernel_rfl) (fun _ _ _ h => h) (by rfl) ?hy6 hS ?rest6
  case hy6 => (intro wx hSx; (try dsimp only at hSx); go_simp; (try with_reducible rfl))
  (try simp only [Act.put, List.setIfInBounds_toArray, List.set_cons_zero, List.set_cons_succ])
  refine wpAnyZ_take 7 (v := ?v7) rfl (by kernel_rfl) (by kernel_rfl) (by kernel_rfl) (by kernel_rfl) (fun _ _ _ h => h) (by rfl) ?hy7 hS ?rest7
  case hy7 => (intro wx hSx; (try dsimp only at hSx); go_simp; (try with_reducible rfl))
  (try simp only [Act.put, List.setIfInBounds_toArray, List.set_cons_zero, List.set_cons_succ])
  refine wpAnyZ_one 8 rfl (by kernel_rfl) (fun K hK => ?_)
  go_simp
  refine hcr2.mono ?_
  rintro r wC ⟨nu, rfl, FB, qC, fB, kC⟩
  have kC' : Kept [] w6 wC := (Kept.refl [] w6).drew.then kC
  obtain ⟨gm, rfl⟩ := qC.ptr
  dsimp only
  have hS3 : wC.cell? ⟨g, 1, none⟩ = some (.slice (some ⟨bR, 0, none⟩) E.length cR) ∧ wC.cell? ⟨w.heap.size, 5, none⟩ = some (.int .i64 cl) ∧ wC.cell? ⟨w.heap.size, 6, none⟩ = some (.slice pk keep.length ck) := ⟨kC'.cell g1 (by simp), kC'.cell e5 (by simp), kC'.cell e6 (by simp)⟩
  refine hK _ _ (fun _ => hS3) ?_
  clear hK K hcr2 hS
  (try simp only [Act.put, List.setIfInBounds_toArray, List.set_cons_zero, List.set_cons_succ])
  refine wpAnyZ_one 9 rfl (by kernel_rfl) (fun K hK => ?_)
  have kc2 := kC'.alloc (.cells #[.pointer (some ⟨gm, 0, none⟩)] 76)
  have hS4 : (wC.alloc (.cells #[.pointer (some ⟨gm, 0, none⟩)] 76)).cell? ⟨g, 1, none⟩ = some (.slice (some ⟨bR, 0, none⟩) E.length cR) ∧ (wC.alloc (.cells #[.pointer (some ⟨gm, 0, none⟩)] 76)).cell? ⟨w.heap.size, 5, none⟩ = some (.int .i64 cl) ∧ (wC.alloc (.cells #[.pointer (some ⟨gm, 0, none⟩)] 76)).cell? ⟨w.heap.size, 6, none⟩ = some (.slice pk keep.length ck) := ⟨kc2.cell g1 (by simp), kc2.cell e5 (by simp), kc2.cell e6 (by simp)⟩
  go_simp
  refine hK _ _ (fun _ => hS4) ?_
  clear hK K
  refine wpAnyZ_one 10 rfl (by kernel_rfl) (fun K hK => ?_)
  have hnews2 : ∀ (j : Nat) u, [Value.pointer (some ⟨gm, 0, none⟩)][j]? = some u → (wC.alloc (.cells #[.pointer (some ⟨gm, 0, none⟩)] 76)).cell? ((⟨wC.heap.size, 0, none⟩ : Addr).add j) = some u := fun j u hj => by
    rw [add_none rfl]
    rcases j with _ | j
    · simp at hj; subst hj
      simp [go_sem]
    · simp at hj
  refine step_append_own2 (by rfl) (.tmp 73) (.tmp 78) 54 (by rfl) base 76 Try.underlying54 (.pointer none) 8 (by kernel_rfl) rfl _ _ _ (by rfl) (own_of_kept rR6 kc2 (by simp)) ⟨wC.heap.size, 0, none⟩ 1 1 [.pointer (some ⟨gm, 0, none⟩)] (by rfl) rfl hnews2 (by simp [Value.oneCell']) (by have := HC.out.2; unfold maxLen; omega) (by have := HC.out.2; omega) (by have := HBW.out; have := kc2.size; have := HK0.out.size; have := kw6.size; omega) ?_
  intro v8 w8 o8 g8 at8
  obtain ⟨p8, c8, rfl⟩ := own_shape2 o8
  have k8 := Kept.ofGrown (S := (Value.slice (some ⟨bR, 0, none⟩) E.length cR).ownBlock.toList) g8 (by intro k e _; simp [e])
  have kB8 := ((kc2.mono (by simp)).trans k8 (fun x hx => .inl hx))
  have z0 := (HH.out.blk.kept kB8 ngR).cell (j := 1) rfl
  have z1 := (HH.out.blk.kept kB8 ngR).free 1
  have nO8 : w.heap.size ∉ (Value.slice (some ⟨bR, 0, none⟩) E.length cR).ownBlock.toList := fun hm => HBO.out.far HB0.out.rowR (by decide) _ (by simpa using hm) rfl
  have hS5 : w8.cell? ⟨g, 1, none⟩ = some (.slice (some ⟨bR, 0, none⟩) E.length cR) ∧ w8.cell? ⟨w.heap.size, 5, none⟩ = some (.int .i64 cl) ∧ w8.cell? ⟨w.heap.size, 6, none⟩ = some (.slice pk keep.length ck) := ⟨z0, kB8.cell e5 nO8, kB8.cell e6 nO8⟩
  refine hK _ _ (fun _ => hS5) ?_
  clear hK K
  (try simp only [Act.put, List.setIfInBounds_toArray, List.set_cons_zero, List.set_cons_succ])
  refine wpAnyZ_one 11 rfl (by kernel_rfl) (fun K hK => ?_)
  go_simp
  refine hK _ _ (fun _ => hS5) ?_
  clear hK K
  refine wpAnyZ_one 12 rfl (by kernel_rfl) (fun K hK => ?_)
  go_simp
  refine hK _ _ (fun _ => hS5) ?_
  clear hK K
  refine wpAnyZ_one 13 rfl (by kernel_rfl) (fun K hK => ?_)
  go_simp
  refine hK _ _ (fun h => absurd rfl h) ?_
  clear hK K
  refine wpAnyZ_done (by kernel_rfl) ?_ _
  obtain ⟨f1, f2⟩ := HH.out.done kC' qC fB o8 k8 (by rcases at8 with e | e; exact .inl e; exact .inr (by have := e.1; simp at this; simpa using this))
  have FIN : Hid (∃ vD' vR' E', Book base (w8.setCell ⟨g, 1, none⟩ (.slice p8 (E.length + 1) c8)) g vD' vR' E' ∧ Few (M + 1) E' ∧ E.length ≤ E'.length ∧ E'.length ≤ E.length + 1 ∧ (E = [] → E' = []) ∧ Past base w (w8.setCell ⟨g, 1, none⟩ (.slice p8 (E.length + 1) c8))) := ⟨_, _, _, f1, (HM.out.mono (by omega)).push (by have := HM.out e hmem; show (e.d.crash cl keep).loose.length ≤ _; exact Nat.zero_le _), by simp, by simp, fun e => by rw [e] at hkl; simp at hkl, (Past.kept HK0.out).trans f2⟩
  clear f1 f2 o8 k8 g8 at8 kB8 z0 z1 hS3 hS4 hS5 hnews2 qC fB
  go_wp2
  go_ret
  exact ⟨by simp, FIN.out⟩
set_option maxHeartbeats 3200000 in
theorem play_copy (base g M : Nat) (vD vR ub vk : Value) (E : List Ent) (wh n m cl : Int) (b : List UInt8) (keep : List Int) (w : World) (h : Book base w g vD vR E) (hM : Few M E) (hcap : (M + 1) * 40 ≤ 140737488355328) (hcap2 : (E.length + 1) * 8 ≤ 140737488355328) (hb : Bs w ub b) (hk : Is w vk keep) (hub : b ≠ [] → ∀ x, ub.ownBlock = some x → x < base) (hvk : keep ≠ [] → ∀ x, vk.ownBlock = some x → x < base) (hn : IntKind.i64.wrap n = n) (hpos : 0 < E.length) :
    Calls Try.prog 30 #[.pointer (some ⟨g, 0, none⟩), .agg #[.int .i64 14, .int .i64 wh, .int .i64 n, .int .i64 m, ub, .int .i64 cl, vk]] w fun r w' => r = .returned (.bool true) ∧ ∃ vD' vR' E', Book base w' g vD' vR' E' ∧ Few (M + 1) E' ∧ E.length ≤ E'.length ∧ E'.length ≤ E.length + 1 ∧ (E = [] → E' = []) ∧ Past base w w' := by
  obtain ⟨pb, cb, rfl, -⟩ := id hb
  obtain ⟨pk, ck, rfl, -⟩ := id hk
  obtain ⟨w0, hw0⟩ : ∃ w0, w0 = w.alloc (.cells #[.int .i64 14, .int .i64 wh, .int .i64 n, .int .i64 m, .slice pb b.length cb, .int .i64 cl, .slice pk keep.length ck] 59) := ⟨_, rfl⟩
  have k0 : Kept [] w w0 := by rw [hw0]; exact (Kept.refl [] w).alloc _
  have bO : Blk w0 w.heap.size 59 [.int .i64 14, .int .i64 wh, .int .i64 n, .int .i64 m, .slice pb b.length cb, .int .i64 cl, .slice pk keep.length ck] := by rw [hw0]; exact Blk.new w _ _
  have h0 := h.kept k0 (by simp)
  obtain ⟨k, hkd⟩ : ∃ k, k = restN wh E.length := ⟨_, rfl⟩
  have hkl : k < E.length := by rw [hkd]; have := restN_lt wh (E.length - 1); rw [show E.length - 1 + 1 = E.length by omega] at this; omega
  obtain ⟨e, he⟩ : ∃ e, E[k]? = some e := ⟨_, List.getElem?_eq_getElem hkl⟩
  have HNO : Hid (w.heap.size ∉ e.F.own) := (show w.heap.size ∉ e.F.own from fun hm => by have := (h.both e (List.mem_of_getElem? he)).lt _ (Foot.inOwn hm); omega)
  obtain ⟨bD, cD, bR, cR, rfl, rfl, d0, r0, g0, g1⟩ := h0.at he
  have hmd := mod_any wh E.length (w0.drew) hpos (by omega)
  rw [← hkd] at hmd
  have hkl' : (k : Int) < (E.length : Int) := by omega
  have hE0 : ¬ (E.length : Int) = 0 := by omega
  have q0 := bO.cell (j := 0) rfl
  have q1 := bO.cell (j := 1) rfl
  have HB0 : Hid (Book base w0 g (.slice (some ⟨bD, 0, none⟩) E.length cD) (.slice (some ⟨bR, 0, none⟩) E.length cR) E) := h0
  have HE : Hid (E[k]? = some e) := he
  have HBO : Hid (Blk w0 w.heap.size 59 [.int .i64 14, .int .i64 wh, .int .i64 n, .int .i64 m, .slice pb b.length cb, .int .i64 cl, .slice pk keep.length ck]) := bO
  have HW0 : Hid (w0 = w.alloc (.cells #[.int .i64 14, .int .i64 wh, .int .i64 n, .int .i64 m, .slice pb b.length cb, .int .i64 cl, .slice pk keep.length ck] 59)) := hw0
  have HK0 : Hid (Kept [] w w0) := k0
  have HM : Hid (Few M E) := hM
  have HC : Hid ((M + 1) * 40 ≤ 140737488355328 ∧ (E.length + 1) * 8 ≤ 140737488355328) := ⟨hcap, hcap2⟩
  have HBK : Hid (Bs w0 (.slice pb b.length cb) b ∧ Is w0 (.slice pk keep.length ck) keep ∧ (b ≠ [] → ∀ x, (Value.slice pb b.length cb).ownBlock = some x → x < base) ∧ (keep ≠ [] → ∀ x, (Value.slice pk keep.length ck).ownBlock = some x → x < base)) := ⟨hb.kept k0, hk.kept k0, hub, hvk⟩
  have HBW : Hid (base ≤ w.heap.size) := (show base ≤ w.heap.size from Nat.le_trans h.low.1 (Nat.le_of_lt h.blk.lt))
  obtain ⟨A, B, hp, hq, hap, hF⟩ := h0.both e (List.mem_of_getElem? he)
  obtain ⟨gv, ev⟩ := hp.ptr
  obtain ⟨gu, eu⟩ := hq.ptr
  rw [ev] at d0
  rw [eu] at r0
  have HV : Hid (e.v = .pointer (some ⟨gv, 0, none⟩) ∧ e.u = .pointer (some ⟨gu, 0, none⟩)) := ⟨ev, eu⟩
  rw [hw0] at g0 q0 q1
  clear hb hk hub hvk hM hcap hcap2 h h0 he hw0 hpos hkd bO k0 hp hq hap hF ev eu
  go_enter Try.func30, Try.ntmps30
  go_wp2
  rw [← HW0.out]
  rw [← HW0.out] at g0 q0 q1
  go_region_held3 (fun w' => w'.cell? ⟨w.heap.size, 1, none⟩ = some (.int .i64 wh) ∧ w'.cell? ⟨g, 0, none⟩ = some (.slice (some ⟨bD, 0, none⟩) E.length cD))
    (first | (exact ⟨q1, g0⟩) | go_keep)
    (first
      | (go_at_call 11; refine hmd.mono ?_; rintro e w5 ⟨rfl, rfl⟩)
      | fail)
  clear hmd
  go_wp2
  go_region_held3 (fun w' => w'.cell? ⟨g, 0, none⟩ = some (.slice (some ⟨bD, 0, none⟩) E.length cD) ∧ w'.cell? ⟨g, 1, none⟩ = some (.slice (some ⟨bR, 0, none⟩) E.length cR) ∧ w'.cell? ⟨bD, k, none⟩ = some (.pointer (some ⟨gv, 0, none⟩)) ∧ w'.cell? ⟨bR, k, none⟩ = some (.pointer (some ⟨gu, 0, none⟩)))
    (first | (exact ⟨g0, g1, d0, r0⟩) | go_keep) (fail)
  have c0 := HBO.out.cell (j := 0) rfl
  have kd : Kept [] w0 w0.drew.drew := (Kept.refl [] w0).drew.drew
  have hmem := List.mem_of_getElem? HE.out
  obtain ⟨A, B, hp, hq, hap, hF⟩ := HB0.out.both e hmem
  rw [HV.out.1] at hp
  rw [HV.out.2] at hq
  have hcr := fCopy _ e.d A _ (hp.kept kd (by simp)) (by have := HM.out e hmem; have := HC.out.1; omega)
  obtain ⟨pD, qD, eD⟩ := own_shape2 HB0.out.rowD
  clear g1 d0 r0 q0 q1
  go_wp2_with fail
  refine hcr.mono ?_
  rintro r wA ⟨nv, rfl, FA, pA, fA, kA, zA⟩
  clear hcr
  have kA' : Kept [] w0 wA := kd.then kA
  have fA' : ∀ x ∈ FA.own, w0.heap.size ≤ x := fA
  have zA' : ∀ x ∈ FA.frz, ∃ e ∈ E, x ∈ e.F.frz := fun x hx => ⟨e, hmem, by rw [hF]; exact zA x hx⟩
  obtain ⟨gn, rfl⟩ := pA.ptr
  have gA := kA'.cell g0 (by simp)
  have kb := kA'.alloc (.cells #[.pointer (some ⟨gn, 0, none⟩)] 27)
  have gB := kb.cell g0 (by simp)
  have rD5 := own_of_kept HB0.out.rowD kb (by simp)
  have ngD : g ∉ (Value.slice (some ⟨bD, 0, none⟩) E.length cD).ownBlock.toList := fun hm => HB0.out.blk.far HB0.out.rowD (by decide) g (by simpa using hm) rfl
  have hnews : ∀ (j : Nat) u, [Value.pointer (some ⟨gn, 0, none⟩)][j]? = some u → (wA.alloc (.cells #[.pointer (some ⟨gn, 0, none⟩)] 27)).cell? ((⟨wA.heap.size, 0, none⟩ : Addr).add j) = some u := fun j u hj => by
    rw [add_none rfl]
    rcases j with _ | j
    · simp at hj; subst hj
      simp [go_sem]
    · simp at hj
  go_wp2_with (at_builtin; refine wpList_append_own2 rfl (.tmp 92) (.tmp 94) 53 rfl base 27 Try.underlying53 (.pointer none) 8 (by kernel_rfl) rfl _ _ _ (by rfl) rD5 ⟨wA.heap.size, 0, none⟩ 1 1 [.pointer (some ⟨gn, 0, none⟩)] (by rfl) rfl hnews (by simp [Value.oneCell']) (by have := HC.out.2; unfold maxLen; omega) (by have := HC.out.2; omega) (by have := HBW.out; have := kb.size; have := HK0.out.size; omega) ?_; intro v5 w5 o5 g5 at5; obtain ⟨p5, c5, rfl⟩ := own_shape2 o5; have k5 := Kept.ofGrown (S := (Value.slice (some ⟨bD, 0, none⟩) E.length cD).ownBlock.toList) g5 (by intro k e _; simp [e]); have kB5 := ((kb.mono (by simp)).trans k5 (fun x hx => .inl hx)); have y0 := (HB0.out.blk.kept kB5 ngD).cell (j := 0) rfl; have y1 := (HB0.out.blk.kept kB5 ngD).free 0)
  have half := Half.make HB0.out kA' pA fA' zA' o5 k5 (by rcases at5 with e | e; exact .inl e; exact .inr (by have := e.1; simp at this; simpa using this))
  have HH : Hid (Half base w0 (w5.setCell ⟨g, 0, none⟩ (.slice p5 (E.length + 1) c5)) g (.slice (some ⟨bD, 0, none⟩) E.length cD) (.slice (some ⟨bR, 0, none⟩) E.length cR) (.slice p5 (E.length + 1) c5) (.pointer (some ⟨gn, 0, none⟩)) E (e.d.copy) FA) := half
  obtain ⟨w6, hw6⟩ : ∃ w6, w6 = w5.setCell ⟨g, 0, none⟩ (.slice p5 (E.length + 1) c5) := ⟨_, rfl⟩
  have HW6 : Hid (w6 = w5.setCell ⟨g, 0, none⟩ (.slice p5 (E.length + 1) c5)) := hw6
  rw [← hw6] at half HH
  have g1 := half.blk.cell (j := 1) rfl
  have g1f := half.blk.free 1
  have kw6 := half.kept
  obtain ⟨A6, B6, -, hq6, -, -⟩ := half.both hmem
  rw [HV.out.2] at hq6
  have hcr2 := qCopy _ e.d B6 w6.drew (hq6.kept (Kept.refl [] w6).drew (by simp)) (by have := HM.out e hmem; have := HC.out.1; omega)
  have rR6 := half.rowR
  have ngR : g ∉ (Value.slice (some ⟨bR, 0, none⟩) E.length cR).ownBlock.toList := fun hm => half.blk.far half.rowR (by decide) g (by simpa using hm) rfl
  clear half hp hq g0 gA gB rD5 hnews o5 k5 g5 at5 kB5 y0 y1 pA fA zA zA' hw6
  go_upto_region 17 with fail
  rw [← HW6.out]
  refine wp_region_late (fun w' => w'.cell? ⟨g, 1, none⟩ = some (.slice (some ⟨bR, 0, none⟩) E.length cR)) 11 (by kernel_rfl) ?_
  have hS : w6.drew.cell? ⟨g, 1, none⟩ = some (.slice (some ⟨bR, 0, none⟩) E.length cR) := g1
  refine wpAnyZ_take 0 (v := ?v0) rfl (by kernel_rfl) (by kernel_rfl) (by kernel_rfl) (by kernel_rfl) (fun _ _ _ h => h) (by rfl) ?hy0 hS ?rest0
  case hy0 => (intro wx hSx; (try dsimp only at hSx); go_simp; (try with_reducible rfl))
  (try simp only [Act.put, List.setIfInBounds_toArray, List.set_cons_zero, List.set_cons_succ])
  refine wpAnyZ_take 1 (v := ?v1) rfl (by kernel_rfl) (by kernel_rfl) (by kernel_rfl) (by kernel_rfl) (fun _ _ _ h => h) (by rfl) ?hy1 hS ?rest1
  case hy1 => (intro wx hSx; (try dsimp only at hSx); go_simp; (try with_reducible rfl))
  (try simp only [Act.put, List.setIfInBounds_toArray, List.set_cons_zero, List.set_cons_succ])
  refine wpAnyZ_take 2 (v := ?v2) rfl (by kernel_rfl) (by kernel_rfl) (by kernel_rfl) (by kernel_rfl) (fun _ _ _ h => h) (by rfl) ?hy2 hS ?rest2
  case hy2 => (intro wx hSx; (try dsimp only at hSx); go_simp; (try with_reducible rfl))
  (try simp only [Act.put, List.setIfInBounds_toArray, List.set_cons_zero, List.set_cons_succ])
  refine wpAnyZ_take 3 (v := ?v3) rfl (by kernel_rfl) (by kernel_rfl) (by kernel_rfl) (by kernel_rfl) (fun _ _ _ h => h) (by rfl) ?hy3 hS ?rest3
  case hy3 => (intro wx hSx; (try dsimp only at hSx); go_simp; (try with_reducible rfl))
  (try simp only [Act.put, List.setIfInBounds_toArray, List.set_cons_zero, List.set_cons_succ])
  refine wpAnyZ_take 4 (v := ?v4) rfl (by kernel_rfl) (by kernel_rfl) (by kernel_rfl) (by kernel_rfl) (fun _ _ _ h => h) (by rfl) ?hy4 hS ?rest4
  case hy4 => (intro wx hSx; (try dsimp only at hSx); go_simp; (try with_reducible rfl))
  (try simp only [Act.put, List.setIfInBounds_toArray, List.set_cons_zero, List.set_cons_succ])
  refine wpAnyZ_take 5 (v := ?v5) rfl (by kernel_rfl) (by kernel_rfl) (by kernel_rfl) (by kernel_rfl) (fun _ _ _ h => h) (by rfl) ?hy5 hS ?rest5
  case hy5 => (intro wx hSx; (try dsimp only at hSx); go_simp; (try with_reducible rfl))
  (try simp only [Act.put, List.setIfInBounds_toArray, List.set_cons_zero, List.set_cons_succ])
  refine wpAnyZ_one 6 rfl (by kernel_rfl) (fun K hK => ?_)
  go_simp
  refine hcr2.mono ?_
  rintro r wC ⟨nu, rfl, FB, qC, fB, kC⟩
  have kC' : Kept [] w6 wC := (Kept.refl [] w6).drew.then kC
  obtain ⟨gm, rfl⟩ := qC.ptr
  dsimp only
  have hS3 : wC.cell? ⟨g, 1, none⟩ = some (.slice (some ⟨bR, 0, none⟩) E.length cR) := kC'.cell g1 (by simp)
  refine hK _ _ (fun _ => hS3) ?_
  clear hK K hcr2 hS
  (try simp only [Act.put, List.setIfInBounds_toArray, List.set_cons_zero, List.set_cons_succ])
  refine wpAnyZ_one 7 rfl (by kernel_rfl) (fun K hK => ?_)
  have kc2 := kC'.alloc (.cells #[.pointer (some ⟨gm, 0, none⟩)] 76)
  have hS4 : (wC.alloc (.cells #[.pointer (some ⟨gm, 0, none⟩)] 76)).cell? ⟨g, 1, none⟩ = some (.slice (some ⟨bR, 0, none⟩) E.length cR) := kc2.cell g1 (by simp)
  go_simp
  refine hK _ _ (fun _ => hS4) ?_
  clear hK K
  refine wpAnyZ_one 8 rfl (by kernel_rfl) (fun K hK => ?_)
  have hnews2 : ∀ (j : Nat) u, [Value.pointer (some ⟨gm, 0, none⟩)][j]? = some u → (wC.alloc (.cells #[.pointer (some ⟨gm, 0, none⟩)] 76)).cell? ((⟨wC.heap.size, 0, none⟩ : Addr).add j) = some u := fun j u hj => by
    rw [add_none rfl]
    rcases j with _ | j
    · simp at hj; subst hj
      simp [go_sem]
    · simp at hj
  refine step_append_own2 (by rfl) (.tmp 102) (.tmp 105) 54 (by rfl) base 76 Try.underlying54 (.pointer none) 8 (by kernel_rfl) rfl _ _ _ (by rfl) (own_of_kept rR6 kc2 (by simp)) ⟨wC.heap.size, 0, none⟩ 1 1 [.pointer (some ⟨gm, 0, none⟩)] (by rfl) rfl hnews2 (by simp [Value.oneCell']) (by have := HC.out.2; unfold maxLen; omega) (by have := HC.out.2; omega) (by have := HBW.out; have := kc2.size; have := HK0.out.size; have := kw6.size; omega) ?_
  intro v8 w8 o8 g8 at8
  obtain ⟨p8, c8, rfl⟩ := own_shape2 o8
  have k8 := Kept.ofGrown (S := (Value.slice (some ⟨bR, 0, none⟩) E.length cR).ownBlock.toList) g8 (by intro k e _; simp [e])
  have kB8 := ((kc2.mono (by simp)).trans k8 (fun x hx => .inl hx))
  have z0 := (HH.out.blk.kept kB8 ngR).cell (j := 1) rfl
  have z1 := (HH.out.blk.kept kB8 ngR).free 1
  have hS5 : w8.cell? ⟨g, 1, none⟩ = some (.slice (some ⟨bR, 0, none⟩) E.length cR) := z0
  refine hK _ _ (fun _ => hS5) ?_
  clear hK K
  (try simp only [Act.put, List.setIfInBounds_toArray, List.set_cons_zero, List.set_cons_succ])
  refine wpAnyZ_one 9 rfl (by kernel_rfl) (fun K hK => ?_)
  go_simp
  refine hK _ _ (fun _ => hS5) ?_
  clear hK K
  refine wpAnyZ_one 10 rfl (by kernel_rfl) (fun K hK => ?_)
  go_simp
  refine hK _ _ (fun _ => hS5) ?_
  clear hK K
  refine wpAnyZ_one 11 rfl (by kernel_rfl) (fun K hK => ?_)
  go_simp
  refine hK _ _ (fun h => absurd rfl h) ?_
  clear hK K
  refine wpAnyZ_done (by kernel_rfl) ?_ _
  obtain ⟨f1, f2⟩ := HH.out.done kC' qC fB o8 k8 (by rcases at8 with e | e; exact .inl e; exact .inr (by have := e.1; simp at this; simpa using this))
  have FIN : Hid (∃ vD' vR' E', Book base (w8.setCell ⟨g, 1, none⟩ (.slice p8 (E.length + 1) c8)) g vD' vR' E' ∧ Few (M + 1) E' ∧ E.length ≤ E'.length ∧ E'.length ≤ E.length + 1 ∧ (E = [] → E' = []) ∧ Past base w (w8.setCell ⟨g, 1, none⟩ (.slice p8 (E.length + 1) c8))) := ⟨_, _, _, f1, (HM.out.mono (by omega)).push (by have := HM.out e hmem; show (e.d.copy).loose.length ≤ _; show e.d.loose.length ≤ _; omega), by simp, by simp, fun e => by rw [e] at hkl; simp at hkl, (Past.kept HK0.out).trans f2⟩
  clear f1 f2 o8 k8 g8 at8 kB8 z0 z1 hS3 hS4 hS5 hnews2 qC fB
  go_wp2
  go_ret
  exact ⟨by simp, FIN.out⟩
theorem play_any (base g M : Nat) (vD vR ub vk : Value) (E : List Ent) (wh n m cl : Int) (b : List UInt8) (keep : List Int) (w : World) (h : Book base w g vD vR E) (hM : Few M E) (hcap : (M + 1) * 40 ≤ 140737488355328) (hcap2 : (E.length + 1) * 8 ≤ 140737488355328) (hb : Bs w ub b) (hk : Is w vk keep) (hub : b ≠ [] → ∀ x, ub.ownBlock = some x → x < base) (hvk : keep ≠ [] → ∀ x, vk.ownBlock = some x → x < base) (hn : IntKind.i64.wrap n = n) (K : Int) :
    Calls Try.prog 30 #[.pointer (some ⟨g, 0, none⟩), .agg #[.int .i64 K, .int .i64 wh, .int .i64 n, .int .i64 m, ub, .int .i64 cl, vk]] w fun r w' => r = .returned (.bool true) ∧ ∃ vD' vR' E', Book base w' g vD' vR' E' ∧ Few (M + 1) E' ∧ E.length ≤ E'.length ∧ E'.length ≤ E.length + 1 ∧ (E = [] → E' = []) ∧ Past base w w' := by
  by_cases h0 : E = []
  · exact play_empty base g M vD vR ub vk E wh n m cl b keep w h hM hcap hcap2 hb hk hub hvk hn K h0
  have hpos : 0 < E.length := List.length_pos_iff.2 h0
  by_cases h12 : K = 12
  · subst h12; exact play_stop base g M vD vR ub vk E wh n m cl b keep w h hM hcap hcap2 hb hk hub hvk hn hpos
  by_cases h13 : K = 13
  · subst h13; exact play_crash base g M vD vR ub vk E wh n m cl b keep w h hM hcap hcap2 hb hk hub hvk hn hpos
  by_cases h14 : K = 14
  · subst h14; exact play_copy base g M vD vR ub vk E wh n m cl b keep w h hM hcap hcap2 hb hk hub hvk hn hpos
  exact play_rw base g M vD vR ub vk E wh n m cl b keep w h hM hcap hcap2 hb hk hub hvk hn hpos K h12 h13 h14
end Go.Proofs.Ytmipmiaflompmaa

/-
  OWN WORK. The laws of disk: row, head (the document's examples).
-/
namespace Go.Proofs.Ytmipmiaflompmaa
open Go.RowKit
set_option linter.unusedVariables false

theorem row_any (n : Nat) (x : UInt8) (w : World) (hn : n ≤ 1000) :
    Calls Try.prog 13 #[.int .i64 (n : Int), .int .u8 (x.toNat : Int)] w fun e w' => ∃ v, e = .returned v ∧ w'.ownsRow w.heap.size 5 1 v (List.replicate n x).length (u8s (List.replicate n x)) ∧ Kept [] w w' := by
  obtain ⟨l, hl⟩ : ∃ l, l = List.replicate n x := ⟨_, rfl⟩
  have hln : l.length = n := by rw [hl]; simp
  have hat : ∀ (k : Nat) (h : k < l.length), l[k] = x := fun k h => by simp [hl]
  rw [← hl]
  rw [← hln] at hn ⊢
  clear hl hln n
  have hmk := fun u => run_make_bs (P := Try.prog) u 33 5 Try.underlying33 (by kernel_rfl) l.length l.length (Nat.le_refl _) (by omega)
  have hown0 := own_made w 5 w.heap.size l.length l.length (Nat.le_refl _) (Nat.le_refl _) (by unfold maxLen; omega)
  have hk0 : Kept [] w (w.alloc (.cells (madeCells #[.int .u8 0] l.length) 5)) := (Kept.refl [] w).alloc _
  have h63 : l.length ≤ 9223372036854775807 := by omega
  have HAT : Hid (∀ (k : Nat) (h : k < l.length), l[k] = x) := hat
  clear hn hat
  go_enter Try.func13, Try.ntmps13
  go_wp2
  generalize w.alloc (.cells (madeCells #[.int .u8 0] l.length) 5) = w1 at *
  go_loopw [6] (fun i wr => ∃ k : Nat, k ≤ l.length ∧ i = .int .i64 k ∧ wr.ownsRow w.heap.size 5 1 (.slice (some ⟨w.heap.size, 0, none⟩) l.length l.length) l.length (u8s (l.take k ++ List.replicate (l.length - k) (0 : UInt8))) ∧ Kept [] w wr) (fun i _ => l.length - (intOf i).toNat)
  case atStart => exact ⟨0, Nat.zero_le _, rfl, by simpa using hown0, hk0⟩
  case round =>
    obtain ⟨k, hk, rfl, hown, hkept⟩ := hrel
    by_cases hlt : k < l.length
    · have hlen : (l.take k ++ List.replicate (l.length - k) (0 : UInt8)).length = l.length := by simp; omega
      have hcc := hown.cellAt k (by omega)
      rw [show (u8s (l.take k ++ List.replicate (l.length - k) (0 : UInt8)))[k]? = some (.int .u8 (((l.take k ++ List.replicate (l.length - k) (0 : UInt8))[k]'(by omega)).toNat : Int)) from by simp only [u8s, List.getElem?_map, List.getElem?_eq_getElem (show k < (l.take k ++ List.replicate (l.length - k) (0 : UInt8)).length by omega)]; rfl] at hcc
      have hf := hown.frozenAt k
      obtain ⟨ow2, kw2⟩ := set_own hown k l[k] _ rfl
      rw [copy_step l l.length k rfl hlt] at ow2
      rw [HAT.out k hlt] at ow2 kw2
      have hge := own_ge hown w.heap.size rfl
      have kw3 := hkept.trans kw2 (by intro x hx; simp at hx; subst hx; exact .inr hge)
      generalize (l.take k ++ List.replicate (l.length - k) (0 : UInt8))[k]'(by omega) = old at hcc
      clear kw2 hown hown0 hmk hlen
      go_wp2
      go_roundw
      case rel => exact ⟨k + 1, by omega, by go_num, ow2, kw3⟩
      case measure => simp [intOf]; omega
    · obtain rfl : k = l.length := by omega
      clear hown0 hmk
      go_wp2
      go_ret
      exact ⟨_, rfl, by simpa using hown, hkept⟩
/-- 'append(out, b...)' behind a guard that holds -/
theorem wpList_append_bs_g {P : Program} {w : World} {ops : Array Oper} {rest : List Oper} {o : Oper} {a : Act} {Q : Exit → Act → World → Prop} (hwd : Region.wanted o (yielded ops a.tmps) = true) (s x : Operand) (t : TypeId)
    (ho : o.op = .call { callee := .builtin .append, args := #[s, x], argTypes := #[t, t] }) (base : Nat) (e : TypeId) (hu : P.underlying t = some (.slice e))
    (hinf : (P.info? e).map (fun i => (i.zero, i.size, i.bytes)) = some (some (.int .u8 0), 1, 1))
    (v : Value) (n : Nat) (xs : List Value) (hs : a.eval s = v) (hown : w.ownsRow base e 1 v n xs) (sv : Value) (l : List UInt8) (hx : a.eval x = sv) (hb : Bs w sv l) (hpos : 0 < l.length)
    (hroom : n + l.length ≤ 140737488355328) (hbase : base ≤ w.heap.size)
    (h : ∀ v' w', w'.ownsRow base e 1 v' (n + l.length) (xs ++ u8s l) → w.grownBy w' v.ownBlock → (v'.ownBlock = v.ownBlock ∨ v'.ownBlock = some w.heap.size) → wpList P ops Q rest (a.put o.dst v') w') :
    wpList P ops Q (o :: rest) a w := by
  obtain ⟨i, hi, hz, hsz, hby⟩ := info_parts hinf
  obtain ⟨p, c, rfl, h1, h2, h3, h4⟩ := hb
  cases p with
  | none => have hc := h3 rfl; omega
  | some ad =>
    refine wpList_step fun K hK => ?_
    rw [if_pos hwd]
    obtain ⟨v', w', hr, k1, k2, _, k4⟩ := run_append_own_at (P := P) w base t o.type e i (.int .u8 0) 1 1 hu hi hz hsz hby rfl (by decide) v n xs hown ad l.length c (u8s l) (by simp [u8s])
      (fun j u hj => by obtain ⟨y, hy, rfl⟩ := u8s_at hj; exact h4 ad rfl j y hy) (u8s_one l) (by unfold maxLen; omega) (by omega) hbase
    unfold Oper.wp execOp
    simp only [ho, resolve, invoke, builtin, Sem.run_bind, Sem.run_pure, Result.andThen_ok, List.map_toArray, List.map_cons, List.map_nil, hs, hx, hr]
    exact hK _ _ (h v' w' k1 k2 k4)
/-- the disks of the examples -/
def e0 : DS := DS.blank 2 1 1024
def e1 : DS := e0.act
def e2 : DS := e1.write (pageIx 2 0) (List.replicate 40 1)
def e3 : DS := e2.append [4, 5]
def e4 : DS := e3.crash 1 [3]
theorem ex_1 : newE 2 1 1024 = 0 := by decide
theorem ex_2 : newD 2 1 1024 = e0 := rfl
theorem ex_3 : readE e0 (pageIx 2 2) = 61 := by decide
theorem ex_4 : writeE e1 (pageIx 2 0) (List.replicate 40 1) = 0 := by decide
theorem ex_5 : appendE e2 [4, 5] = 0 := by decide
theorem ex_6 : e3.acts = 3 := by decide
theorem ex_7 : e3.log.length = 2 := by decide
theorem ex_8 : readE e4 (pageIx 2 0) = 0 := by decide
theorem ex_9 : readL e4 (pageIx 2 0) = List.replicate 2 1 ++ List.replicate 38 0 := by decide
theorem ex_10 : readLogE e4.act 0 9 = 0 := by decide
theorem ex_11 : readLogL e4.act 0 9 = [4] := by decide
theorem is_lit (w : World) (t : TypeId) (x : Int) (h : IntKind.i64.wrap x = x) : Is (w.alloc (.cells #[.int .i64 x] t)) (.slice (some ⟨w.heap.size, 0, none⟩) 1 1) [x] := by
  refine ⟨some ⟨w.heap.size, 0, none⟩, 1, rfl, Nat.le_refl _, by simp [maxLen], fun e => (by cases e), by simpa using h, fun a e i y hy => ?_⟩
  cases e
  rcases i with _ | i
  · simp at hy; subst hy
    rw [add_none rfl]
    simp [go_sem]
  · simp at hy
set_option maxHeartbeats 3200000 in
theorem head_any (w : World) :
    Calls Try.prog 9 #[] w fun r w' => r = .returned (.bool true) ∧ Kept [] w w' := by
  have hN := fNew 2 1 1024 w
  rw [ex_1, ex_2] at hN
  go_enter Try.func9, Try.ntmps9
  go_wp2_with fail
  refine hN.mono ?_
  clear hN
  rintro r w1 ⟨u, rfl, ⟨-, F0, p0, f0, k1, -⟩ | ⟨h9, -⟩⟩
  case inr => exact absurd rfl h9
  obtain ⟨gd, rfl⟩ := p0.ptr
  have hR := fReadPage _ e0 F0 2 w1 p0
  rw [show e0.np = 2 from rfl, ex_3] at hR
  go_wp2_with fail
  refine hR.mono ?_
  clear hR
  rintro r w2 ⟨c1, F1, rfl, o1, -, p1, x1⟩
  obtain ⟨pc1, cc1, rfl⟩ := own_shape2 o1
  have hrow := row_any 40 1 w2 (by decide)
  rw [show ((40 : Nat) : Int) = 40 from rfl, show (((1 : UInt8).toNat : Nat) : Int) = 1 from rfl] at hrow
  have lt1 := p1.lt
  go_wp2_with fail
  refine hrow.mono ?_
  clear hrow
  rintro r w3 ⟨v3, rfl, o3, k3⟩
  have hW := fWritePage _ e1 F1 0 v3 (List.replicate 40 1) w3 (p1.kept k3 (by simp)) (Bs.ofOwn o3) (fun _ x hx hm => by have := own_ge o3 x hx; have := lt1 x (Foot.inOwn hm); omega) (by decide)
  rw [show e1.np = 2 from rfl, ex_4] at hW
  obtain ⟨p3, c3, rfl⟩ := own_shape2 o3
  go_wp2_with fail
  refine hW.mono ?_
  clear hW
  rintro r w4 ⟨F2, rfl, p2, x2⟩
  have k45 := (Kept.refl [] w4).alloc (.cells #[.int .u8 4, .int .u8 5] 5)
  have lt2 := p2.lt
  have hA := fAppend _ e2 F2 (.slice (some ⟨w4.heap.size, 0, none⟩) 2 2) [4, 5] (w4.alloc (.cells #[.int .u8 4, .int .u8 5] 5)) (p2.kept k45 (by simp)) (Bs.ofOwn (own_of_lit w4 5 0 [4, 5] (Nat.zero_le _) (by simp [maxLen]))) (fun _ x hx hm => by have := lt2 x (Foot.inOwn hm); simp [Value.ownBlock] at hx; omega)
  rw [ex_5] at hA
  go_wp2_with fail
  refine hA.mono ?_
  clear hA
  rintro r w5 ⟨F3, rfl, p3', x3⟩
  have hAc := fActs _ e3 F3 w5 p3'
  rw [ex_6] at hAc
  go_wp2_with fail
  refine hAc.mono ?_
  clear hAc
  rintro r w6 ⟨rfl, k6⟩
  have hLL := fLogLen _ e3 F3 w6 (p3'.kept k6 (by simp))
  rw [ex_7] at hLL
  go_wp2_with fail
  refine hLL.mono ?_
  clear hLL
  rintro r w7 ⟨rfl, k7⟩
  have p7 := (p3'.kept k6 (by simp)).kept k7 (by simp)
  have k78 := (Kept.refl [] w7).alloc (.cells #[.int .i64 3] 3)
  have hC := fCrash _ e3 F3 1 (.slice (some ⟨w7.heap.size, 0, none⟩) 1 1) [3] (w7.alloc (.cells #[.int .i64 3] 3)) (p7.kept k78 (by simp)) (is_lit w7 3 3 (by decide))
  go_wp2_with fail
  refine hC.mono ?_
  clear hC
  rintro r w9 ⟨cu, rfl, FC, pC, fC, k9, -⟩
  obtain ⟨gc, rfl⟩ := pC.ptr
  have hR := fReadPage _ e4 FC 0 w9 pC
  rw [show e4.np = 2 from rfl, ex_8, ex_9] at hR
  go_wp2_with fail
  refine hR.mono ?_
  clear hR
  rintro r w10 ⟨c10, F4, rfl, o10, a10, p10, x10⟩
  have hL := fReadLog _ e4.act F4 0 9 w10 p10
  rw [ex_10, ex_11] at hL
  obtain ⟨pc10, cc10, rfl⟩ := own_shape2 o10
  go_wp2_with fail
  refine hL.mono ?_
  clear hL
  rintro r w11 ⟨c11, F5, rfl, o11, -, p11, x11⟩
  obtain ⟨pc11, cc11, rfl⟩ := own_shape2 o11
  have hrow := row_any 2 1 w11 (by decide)
  rw [show ((2 : Nat) : Int) = 2 from rfl, show (((1 : UInt8).toNat : Nat) : Int) = 1 from rfl] at hrow
  go_wp2_with fail
  refine hrow.mono ?_
  clear hrow
  rintro r w12 ⟨v12, rfl, o12, k12⟩
  obtain ⟨pc12, cc12, rfl⟩ := own_shape2 o12
  have hrow := row_any 38 0 w12 (by decide)
  rw [show ((38 : Nat) : Int) = 38 from rfl, show (((0 : UInt8).toNat : Nat) : Int) = 0 from rfl] at hrow
  go_wp2_with fail
  refine hrow.mono ?_
  clear hrow
  rintro r w13 ⟨v13, rfl, o13, k13⟩
  obtain ⟨pc13, cc13, rfl⟩ := own_shape2 o13
  have O12 := own_of_kept o12 k13 (by simp)
  have B13 := Bs.ofOwn o13
  go_wp2_with (at_builtin; refine wpList_append_bs_g (by rfl) (.tmp 76) (.tmp 77) 33 rfl w11.heap.size 5 Try.underlying33 (by kernel_rfl) _ _ _ (by rfl) O12 _ (List.replicate 38 0) (by rfl) B13 (by simp) (by simp) (Nat.le_trans k12.size k13.size) ?_; intro v14 w14 o14 g14 at14; obtain ⟨pc14, cc14, rfl⟩ := own_shape2 o14)
  have k1214 : Kept [] w11 w14 := (k12.then k13).grown g14 (fun z hz => .inr (own_ge o12 z hz))
  have hs1 : Bs w14 (.slice pc10 40 cc10) (List.replicate 2 1 ++ List.replicate 38 0) := (Bs.keptOwn (Bs.ofOwn o10) x11.1 (fun x hx hm => a10 x hx (Foot.inOwn hm))).kept k1214
  have hs2 : Bs w14 (.slice pc14 40 cc14) (List.replicate 2 1 ++ List.replicate 38 0) := Bs.ofOwn (by rw [u8s_append]; exact o14)
  have hS := same_eq _ _ _ w14 hs1 hs2
  have hs3 : Bs (w14.alloc (.cells #[.int .u8 4] 5)) (.slice pc11 1 cc11) [4] := (Bs.ofOwn o11).kept (k1214.alloc _)
  have hs4 : Bs (w14.alloc (.cells #[.int .u8 4] 5)) (.slice (some ⟨w14.heap.size, 0, none⟩) 1 1) [4] := Bs.ofOwn (own_of_lit w14 5 0 [4] (Nat.zero_le _) (by simp [maxLen]))
  have hS2 := same_eq _ _ _ _ hs3 hs4
  have n1 : ∀ x ∈ F1.own, w.heap.size ≤ x := fun x hx => by have := k1.size; rcases x1.2.1 x hx with c | c; exact f0 x c; omega
  have s2 : w.heap.size ≤ w2.heap.size := Nat.le_trans k1.size x1.1.size
  have s3 := Nat.le_trans s2 k3.size
  have n2 : ∀ x ∈ F2.own, w.heap.size ≤ x := fun x hx => by rcases x2.2.1 x hx with c | c; exact n1 x c; omega
  have s4 := Nat.le_trans s3 x2.1.size
  have q4 : Kept [] w w4 := ((k1.trans x1.1 (fun x hx => .inr (f0 x hx))).then k3).trans x2.1 (fun x hx => .inr (n1 x hx))
  have q5 : Kept [] w w5 := (q4.then k45).trans x3.1 (fun x hx => .inr (n2 x hx))
  have q9 : Kept [] w w9 := (((q5.then k6).then k7).then k78).then k9
  have nC : ∀ x ∈ FC.own, w.heap.size ≤ x := fun x hx => Nat.le_trans (((q5.then k6).then k7).then k78).size (fC x hx)
  have q10 : Kept [] w w10 := q9.trans x10.1 (fun x hx => .inr (nC x hx))
  have nD : ∀ x ∈ F4.own, w.heap.size ≤ x := fun x hx => by have := q9.size; rcases x10.2.1 x hx with c | c; exact nC x c; omega
  have kk : Kept [] w w11 := q10.trans x11.1 (fun x hx => .inr (nD x hx))
  refine hS.mono ?_
  clear hS
  rintro r w15 ⟨rfl, rfl⟩
  go_wp2_with fail
  refine hS2.mono ?_
  clear hS2
  rintro r w16 ⟨rfl, rfl⟩
  go_wp2
  go_ret
  exact ⟨rfl, (kk.then k1214).alloc _⟩
end Go.Proofs.Ytmipmiaflompmaa

/-
  OWN WORK. A script of calls of a disk that came in.
-/
namespace Go.Proofs.Ytmipmiaflompmaa
open Go.ChangeShapes Go.WideShapes Go.ChangeAt Go.RowKit Go.Deep
set_option linter.unusedVariables false

theorem bsV_open {H : Type} {enc : TypeId × Value → H} {W : World} {t e : TypeId} {fuel : Nat} {v : Value} {x : DataW H × List MemPlace} (ht : Try.prog.underlying t = some (.slice e)) (he : Try.prog.underlying e = some (.int .u8)) (hc : Try.prog.cellsOf e = 1)
    (hf : DataW.trod enc Try.prog W 0 (fun _ => true) true fuel t [v] = some x) : ∃ l : List UInt8, Bs W v l := by
  rcases open_ints ht he hc hf with ⟨hcs, hx⟩ | ⟨a, len, cap, zs, hcs, _, hl, hm, hz, hx, hcell, hwz⟩
  · simp at hcs
    subst hcs
    exact ⟨[], Bs.nil W⟩
  · simp at hcs
    subst hcs
    have hz' : zs.length = cap := by simpa using hz
    exact ⟨bytesOfInts (zs.take len), bs_cells hl hm hz' (fun e => by cases e) (fun a' ha i hi => by cases ha; exact hcell i (by omega)) hwz⟩
theorem isV_open {H : Type} {enc : TypeId × Value → H} {W : World} {t e : TypeId} {fuel : Nat} {v : Value} {x : DataW H × List MemPlace} (ht : Try.prog.underlying t = some (.slice e)) (he : Try.prog.underlying e = some (.int .i64)) (hc : Try.prog.cellsOf e = 1)
    (hf : DataW.trod enc Try.prog W 0 (fun _ => true) true fuel t [v] = some x) : ∃ l : List Int, Is W v l := by
  rcases open_ints ht he hc hf with ⟨hcs, hx⟩ | ⟨a, len, cap, zs, hcs, _, hl, hm, hz, hx, hcell, hwz⟩
  · simp at hcs
    subst hcs
    exact ⟨[], none, 0, rfl, Nat.le_refl _, by simp [maxLen], fun _ => rfl, by simp, fun a e => (by cases e)⟩
  · simp at hcs
    subst hcs
    have hz' : zs.length = cap := by simpa using hz
    have hlen : (zs.take len).length = len := by simp; omega
    refine ⟨zs.take len, some a, cap, by rw [hlen], by rw [hlen]; exact hl, hm, fun e => (by cases e), fun y hy => ?_, fun a' ha i y hy => ?_⟩
    · have hw := hwz y (List.mem_of_mem_take hy)
      have hb : -9223372036854775808 ≤ y ∧ y ≤ 9223372036854775807 := by simpa [Lit.wf, IntKind.min, IntKind.max, IntKind.signed, IntKind.bits] using hw
      exact wrap_i64_of (by omega) (by omega)
    · cases ha
      have hi : i < len := by rw [← hlen]; exact (List.getElem?_eq_some_iff.1 hy).1
      rw [hcell i (by omega)]
      rw [List.getElem?_take, if_pos hi] at hy
      simp [List.getD, hy]
/-- a call of a script: its numbers, its bytes, a crash's choice -/
structure OpR where
  kind : Int
  which : Int
  n : Int
  m : Int
  ub : Value
  b : List UInt8
  cl : Int
  vk : Value
  keep : List Int
structure OpAt (w : World) (a : Addr) (s : OpR) : Prop where
  c0 : w.cell? a = some (.int .i64 s.kind)
  c1 : w.cell? (a.add 1) = some (.int .i64 s.which)
  c2 : w.cell? (a.add 2) = some (.int .i64 s.n)
  c3 : w.cell? (a.add 3) = some (.int .i64 s.m)
  c4 : w.cell? (a.add 4) = some s.ub
  c5 : w.cell? (a.add 5) = some (.int .i64 s.cl)
  c6 : w.cell? (a.add 6) = some s.vk
  b : Bs w s.ub s.b
  k : Is w s.vk s.keep
  n : IntKind.i64.wrap s.n = s.n
/-- THE VALUE v IS A SLICE OF THESE CALLS IN w. -/
def Ops (w : World) (v : Value) (ss : List OpR) : Prop :=
  ∃ (p : Option Addr) (c : Nat), v = .slice p ss.length c ∧ ss.length ≤ c ∧ c ≤ maxLen ∧ (p = none → c = 0) ∧ ∀ a, p = some a → ∀ (i : Nat) s, ss[i]? = some s → OpAt w (a.add (i * 7)) s
theorem OpAt.kept {w w' : World} {a : Addr} {s : OpR} (h : OpAt w a s) (k : Kept [] w w') : OpAt w' a s :=
  ⟨k.cell h.c0 (by simp), k.cell h.c1 (by simp), k.cell h.c2 (by simp), k.cell h.c3 (by simp), k.cell h.c4 (by simp), k.cell h.c5 (by simp), k.cell h.c6 (by simp), h.b.kept k, h.k.kept k, h.n⟩
theorem Ops.kept {w w' : World} {v : Value} {ss : List OpR} (h : Ops w v ss) (k : Kept [] w w') : Ops w' v ss := by
  obtain ⟨p, c, e, h1, h2, h3, h4⟩ := h
  exact ⟨p, c, e, h1, h2, h3, fun a ha i s hs => (h4 a ha i s hs).kept k⟩
theorem six_of {α : Type} {l : List α} (h : l.length = 6) : ∃ a b c d e f, l = [a, b, c, d, e, f] := by
  match l, h with
  | [a, b, c, d, e, f], _ => exact ⟨a, b, c, d, e, f, rfl⟩
theorem seven_of {α : Type} {l : List α} (h : l.length = 7) : ∃ a b c d e f g, l = [a, b, c, d, e, f, g] := by
  match l, h with
  | [a, b, c, d, e, f, g], _ => exact ⟨a, b, c, d, e, f, g, rfl⟩
theorem i64_wf {z : Int} (h : (Lit.int .i64 z).wf = true) : IntKind.i64.wrap z = z := by
  have hb : -9223372036854775808 ≤ z ∧ z ≤ 9223372036854775807 := by simpa [Lit.wf, IntKind.min, IntKind.max, IntKind.signed, IntKind.bits] using h
  exact wrap_i64_of (by omega) (by omega)
theorem ops_open {H : Type} {enc : TypeId × Value → H} {W : World} {t e eb ek : TypeId} {f0 f1 f2 f3 f4 f5 h0 h1 : Field} {ao : Option Addr} {len cap : Nat} {d : DataW H} {p : List MemPlace} (ht : Try.prog.underlying t = some (.slice e)) (he : Try.prog.underlying e = some (.struct #[f0, f1, f2, f3, f4, f5]))
    (ce : Try.prog.cellsOf e = 7) (o0 : f0.offset = 0) (o1 : f1.offset = 1) (o2 : f2.offset = 2) (o3 : f3.offset = 3) (o4 : f4.offset = 4) (o5 : f5.offset = 5)
    (c0 : Try.prog.cellsOf f0.type = 1) (c1 : Try.prog.cellsOf f1.type = 1) (c2 : Try.prog.cellsOf f2.type = 1) (c3 : Try.prog.cellsOf f3.type = 1) (c4 : Try.prog.cellsOf f4.type = 1) (c5 : Try.prog.cellsOf f5.type = 2)
    (t0 : Try.prog.underlying f0.type = some (.int .i64)) (t1 : Try.prog.underlying f1.type = some (.int .i64)) (t2 : Try.prog.underlying f2.type = some (.int .i64)) (t3 : Try.prog.underlying f3.type = some (.int .i64)) (t4 : Try.prog.underlying f4.type = some (.slice eb)) (tb8 : Try.prog.underlying eb = some (.int .u8)) (cb : Try.prog.cellsOf eb = 1)
    (t5 : Try.prog.underlying f5.type = some (.struct #[h0, h1])) (p0 : h0.offset = 0) (p1 : h1.offset = 1) (d0 : Try.prog.cellsOf h0.type = 1) (d1 : Try.prog.cellsOf h1.type = 1) (u0 : Try.prog.underlying h0.type = some (.int .i64)) (u1 : Try.prog.underlying h1.type = some (.slice ek)) (uk : Try.prog.underlying ek = some (.int .i64)) (ck : Try.prog.cellsOf ek = 1)
    (h : DataW.Trod enc Try.prog W 0 (fun _ => true) true t (.slice ao len cap) d p) : ∃ ss : List OpR, ss.length = len ∧ Ops W (.slice ao len cap) ss ∧ (d = .nil ∧ len = 0 ∨ ∃ el sp, d = .slice el sp ∧ el.length = len) := by
  obtain ⟨fuel, hf⟩ := h
  rcases open_slice ht hf with ⟨hcs, hx⟩ | ⟨a, l, c, m, n, D, Pl, hcs, hb, hl, hm, hmm, hx, hel⟩
  · simp [Value.cells] at hcs
    obtain ⟨rfl, rfl, rfl⟩ := hcs
    obtain ⟨rfl, -⟩ := Prod.mk.inj hx
    exact ⟨[], rfl, ⟨none, 0, rfl, Nat.le_refl _, by simp [maxLen], fun _ => rfl, fun a e => (by cases e)⟩, .inl ⟨rfl, rfl⟩⟩
  · simp [Value.cells] at hcs
    obtain ⟨rfl, rfl, rfl⟩ := hcs
    obtain ⟨rfl, -⟩ := Prod.mk.inj hx
    have hmm' : m = cap := by simpa using hmm
    have each : ∀ i, i < m → ∃ q : OpR, OpAt W (a.add (i * 7)) q := by
      intro i hi
      obtain ⟨cs', g1, g2⟩ := hel i hi
      rw [ce] at g1
      obtain ⟨_, hlen, hcell⟩ := World.cells?_some g1
      obtain ⟨xs, k, hk, hxy, _, hxl, hff⟩ := DataW.trod_struct he g2
      obtain ⟨y0, y1, y2, y3, y4, y5, rfl⟩ := six_of (show xs.length = 6 from hxl)
      obtain ⟨v0, v1, v2, v3, v4, v5, v6, rfl⟩ := seven_of hlen
      have q0 := hff 0 f0 rfl
      have q1 := hff 1 f1 rfl
      have q2 := hff 2 f2 rfl
      have q3 := hff 3 f3 rfl
      have q4 := hff 4 f4 rfl
      have q5 := hff 5 f5 rfl
      simp [o0, o1, o2, o3, o4, o5, c0, c1, c2, c3, c4, c5] at q0 q1 q2 q3 q4 q5
      obtain ⟨z0, e0, -, -⟩ := DataW.trod_int t0 q0
      obtain ⟨z1, e1, -, -⟩ := DataW.trod_int t1 q1
      obtain ⟨z2, e2, -, w2⟩ := DataW.trod_int t2 q2
      obtain ⟨z3, e3, -, -⟩ := DataW.trod_int t3 q3
      obtain ⟨lb, hbs⟩ := bsV_open t4 tb8 cb q4
      obtain ⟨r0, r1, n2, -, -, s0, s1⟩ := trod_struct2 t5 q5
      simp [p0, p1, d0, d1] at s0 s1
      obtain ⟨z5, e5, -, -⟩ := DataW.trod_int u0 s0
      obtain ⟨lk, hks⟩ := isV_open u1 uk ck s1
      simp at e0 e1 e2 e3 e5
      subst e0 e1 e2 e3 e5
      have x0 := hcell 0 (by omega)
      have x1 := hcell 1 (by omega)
      have x2 := hcell 2 (by omega)
      have x3 := hcell 3 (by omega)
      have x4 := hcell 4 (by omega)
      have x5 := hcell 5 (by omega)
      have x6 := hcell 6 (by omega)
      refine ⟨⟨z0, z1, z2, z3, v4, lb, z5, v6, lk⟩, ?_, ?_, ?_, ?_, ?_, ?_, ?_, hbs, hks, i64_wf w2⟩
      · have : (a.add (i * 7)).add 0 = a.add (i * 7) := by rw [Go.Proofs.Ytmipmiaflompmaa.add_add]; rfl
        rw [this] at x0
        simpa using x0
      · simpa using x1
      · simpa using x2
      · simpa using x3
      · simpa using x4
      · simpa using x5
      · simpa using x6
    haveI : Inhabited OpR := ⟨⟨0, 0, 0, 0, .bool false, [], 0, .bool false, []⟩⟩
    obtain ⟨q, hq⟩ := choose_lt each
    refine ⟨(List.range len).map q, by simp, ⟨some a, cap, by simp, by simpa using hl, hm, fun e => (by cases e), fun a' e i s hs => ?_⟩, .inr ⟨_, _, rfl, by simp⟩⟩
    cases e
    simp only [List.getElem?_map] at hs
    obtain ⟨j, hj, rfl⟩ := Option.map_eq_some_iff.1 hs
    obtain ⟨hj2, rfl⟩ := List.getElem?_eq_some_iff.1 hj
    have hi : i < len := by simpa using hj2
    simp only [List.getElem_range]
    exact hq i (by omega)
end Go.Proofs.Ytmipmiaflompmaa

/-
  OWN WORK. DiskAll: the walk.
-/
namespace Go.Proofs.Ytmipmiaflompmaa
open Go.RowKit
set_option linter.unusedVariables false

/-- a call of the script, where it lies -/
theorem Ops.at {w : World} {v : Value} {ss : List OpR} (h : Ops w v ss) {k : Nat} {s : OpR} (hk : ss[k]? = some s) :
    ∃ b o c, v = .slice (some ⟨b, o, none⟩) ss.length c ∧ w.cell? ⟨b, o + k * 7, none⟩ = some (.int .i64 s.kind) ∧ w.cell? ⟨b, o + k * 7 + 1, none⟩ = some (.int .i64 s.which) ∧ w.cell? ⟨b, o + k * 7 + 2, none⟩ = some (.int .i64 s.n) ∧ w.cell? ⟨b, o + k * 7 + 3, none⟩ = some (.int .i64 s.m) ∧ w.cell? ⟨b, o + k * 7 + 4, none⟩ = some s.ub ∧ w.cell? ⟨b, o + k * 7 + 5, none⟩ = some (.int .i64 s.cl) ∧ w.cell? ⟨b, o + k * 7 + 6, none⟩ = some s.vk ∧ Bs w s.ub s.b ∧ Is w s.vk s.keep ∧ IntKind.i64.wrap s.n = s.n := by
  obtain ⟨p, c, rfl, h1, h2, h3, h4⟩ := h
  have hkl := (List.getElem?_eq_some_iff.1 hk).1
  cases p with
  | none => have := h3 rfl; omega
  | some a =>
    have h0 := (h4 a rfl 0 ss[0] (List.getElem?_eq_getElem (by omega))).c0
    have hs := spot_of_cell h0
    have hs' : a.spot = none := by
      unfold Addr.add at hs
      split at hs <;> simp_all
    obtain ⟨g0, g1, g2, g3, g4, g5, g6, g7, g8, g9⟩ := h4 a rfl k s hk
    obtain ⟨b, o, sp⟩ := a
    simp only at hs'
    subst hs'
    have hA : (⟨b, o, none⟩ : Addr).add (k * 7) = ⟨b, o + k * 7, none⟩ := add_none (a := ⟨b, o, none⟩) rfl (k * 7)
    rw [hA] at g0 g1 g2 g3 g4 g5 g6
    rw [add_none (a := ⟨b, o + k * 7, none⟩) rfl] at g1 g2 g3 g4 g5 g6
    exact ⟨b, o, c, rfl, g0, g1, g2, g3, g4, g5, g6, g7, g8, g9⟩
theorem Bs.far {w : World} {v : Value} {l : List UInt8} (h : Bs w v l) (hl : l ≠ []) : ∀ x, v.ownBlock = some x → x < w.heap.size := by
  obtain ⟨b, o, c, rfl, -, -, hb, -⟩ := h.pos (List.length_pos_iff.2 hl)
  intro x hx
  simp [Value.ownBlock] at hx
  omega
theorem Is.far {w : World} {v : Value} {l : List Int} (h : Is w v l) (hl : l ≠ []) : ∀ x, v.ownBlock = some x → x < w.heap.size := by
  obtain ⟨b, o, c, rfl, hb, -⟩ := h.pos (List.length_pos_iff.2 hl)
  intro x hx
  simp [Value.ownBlock] at hx
  omega
/-- 'play' at a call of the script -/
theorem play_op {base g M : Nat} {vD vR : Value} {E : List Ent} {w0 w : World} {s : OpR} (h : Book base w g vD vR E) (hM : Few M E) (hcap : (M + 1) * 40 ≤ 140737488355328) (hcap2 : (E.length + 1) * 8 ≤ 140737488355328) (hb : Bs w0 s.ub s.b) (hk : Is w0 s.vk s.keep) (hn : IntKind.i64.wrap s.n = s.n) (k : Kept [] w0 w) (hbase : w0.heap.size ≤ base) :
    Calls Try.prog 30 #[.pointer (some ⟨g, 0, none⟩), .agg #[.int .i64 s.kind, .int .i64 s.which, .int .i64 s.n, .int .i64 s.m, s.ub, .int .i64 s.cl, s.vk]] w fun r w' => r = .returned (.bool true) ∧ ∃ vD' vR' E', Book base w' g vD' vR' E' ∧ Few (M + 1) E' ∧ E.length ≤ E'.length ∧ E'.length ≤ E.length + 1 ∧ (E = [] → E' = []) ∧ Past base w w' :=
  play_any base g M vD vR s.ub s.vk E s.which s.n s.m s.cl s.b s.keep w h hM hcap hcap2 (hb.kept k) (hk.kept k) (fun h0 x hx => Nat.lt_of_lt_of_le (hb.far h0 x hx) hbase) (fun h0 x hx => Nat.lt_of_lt_of_le (hk.far h0 x hx) hbase) hn s.kind
set_option maxHeartbeats 6400000 in
theorem diskAll_walk (a b c : Int) (V : IV) (m : IM) (vs : Value) (ss : List OpR) (W : World) (hV : SeeIm W V m) (hpc : (V.pv.length + 3) * 24 ≤ 140737488355328) (hS : Ops W vs ss) (hlen : (ss.length + 4) * 40 ≤ 140737488355328) :
    Calls Try.prog 8 #[.agg #[.int .i64 a, .int .i64 b, .int .i64 c], V.agg, vs] W fun r W' => r = .returned (.bool true) ∧ Kept [] W W' := by
  obtain ⟨u0, v0, e0, -⟩ := hV.vp
  obtain ⟨u1, v1, e1, -⟩ := hV.pair
  obtain ⟨u2, v2, e2, -⟩ := hV.log
  obtain ⟨u3, v3, e3, -⟩ := hV.m0
  obtain ⟨u4, v4, e4, -⟩ := hV.m1
  obtain ⟨vp, pv, pair, log, m0, m1⟩ := V
  simp only at e0 e1 e2 e3 e4 hpc
  subst e0 e1 e2 e3 e4
  have HCAP : Hid ((pv.length + 3) * 24 ≤ 140737488355328) := hpc
  clear hpc
  obtain ⟨ps, cs, rfl, -, hcs, -⟩ := id hS
  obtain ⟨w2, hw2⟩ : ∃ w2, w2 = (W.alloc (.cells #[.int .i64 a, .int .i64 b, .int .i64 c] 23)).alloc (.cells #[.slice u0 pv.length v0, .slice u1 m.pair.length v1, .slice u2 m.log.length v2, .slice u3 m.m0.length v3, .slice u4 m.m1.length v4] 43) := ⟨_, rfl⟩
  have k2 : Kept [] W w2 := by rw [hw2]; exact ((Kept.refl [] W).alloc _).alloc _
  have bS : Blk w2 W.heap.size 23 [.int .i64 a, .int .i64 b, .int .i64 c] := by
    rw [hw2]
    exact (Blk.new W _ _).kept ((Kept.refl [] _).alloc _) (by simp)
  have bI : Blk w2 (W.heap.size + 1) 43 [.slice u0 pv.length v0, .slice u1 m.pair.length v1, .slice u2 m.log.length v2, .slice u3 m.m0.length v3, .slice u4 m.m1.length v4] := by
    rw [hw2]
    have := Blk.new (W.alloc (.cells #[.int .i64 a, .int .i64 b, .int .i64 c] 23)) 43 [.slice u0 pv.length v0, .slice u1 m.pair.length v1, .slice u2 m.log.length v2, .slice u3 m.m0.length v3, .slice u4 m.m1.length v4]
    rwa [World.size_alloc] at this
  have HV0 : Hid (SeeIm W ⟨.slice u0 pv.length v0, pv, .slice u1 m.pair.length v1, .slice u2 m.log.length v2, .slice u3 m.m0.length v3, .slice u4 m.m1.length v4⟩ m) := hV
  have HS0 : Hid (Ops W (.slice ps ss.length cs) ss) := hS
  have HLEN : Hid ((ss.length + 4) * 40 ≤ 140737488355328) := hlen
  have K2 : Hid (Kept [] W w2) := k2
  have HSB : Hid (Blk w2 W.heap.size 23 [.int .i64 a, .int .i64 b, .int .i64 c] ∧ Blk w2 (W.heap.size + 1) 43 [.slice u0 pv.length v0, .slice u1 m.pair.length v1, .slice u2 m.log.length v2, .slice u3 m.m0.length v3, .slice u4 m.m1.length v4]) := ⟨bS, bI⟩
  have HW2 : Hid (w2 = (W.alloc (.cells #[.int .i64 a, .int .i64 b, .int .i64 c] 23)).alloc (.cells #[.slice u0 pv.length v0, .slice u1 m.pair.length v1, .slice u2 m.log.length v2, .slice u3 m.m0.length v3, .slice u4 m.m1.length v4] 43)) := hw2
  have h63 : ss.length ≤ 9223372036854775807 := by omega
  have H63 : Hid (ss.length ≤ 9223372036854775807) := h63
  unfold IV.agg
  dsimp only
  clear hV hS hlen k2 bS bI hw2 hcs h63
  go_enter Try.func8, Try.ntmps8
  go_wp2_with fail
  rw [← HW2.out]
  refine (head_any w2).mono ?_
  rintro r w3 ⟨rfl, k3⟩
  have i0 := (HSB.out.1.kept k3 (by simp)).cell (j := 0) rfl
  have i1 := (HSB.out.1.kept k3 (by simp)).cell (j := 1) rfl
  have i2 := (HSB.out.1.kept k3 (by simp)).cell (j := 2) rfl
  obtain ⟨⟨j0, j1, j2, j3, j4⟩, -⟩ := (HSB.out.2.kept k3 (by simp)).five
  have hbg := begins_any a b c _ m w3 ((HV0.out.kept K2.out).kept k3) HCAP.out
  unfold IV.agg at hbg
  dsimp only at hbg
  go_wp2_with fail
  refine hbg.mono ?_
  clear hbg
  rintro r w4 ⟨g, vD, vR, E, rfl, hB, hFr, hE, -, hP⟩
  have hF := hFr.few
  have ST : Hid (∃ vD vR E, Book (w3.heap.size + 2) w4 g vD vR E ∧ Few 0 E ∧ E.length ≤ 2 ∧ Kept [] W w4) := ⟨vD, vR, E, hB, hF, hE, (K2.out.then k3).then (hP.mono (b' := w3.heap.size) (by omega)).all⟩
  have HBASE : Hid (W.heap.size ≤ w3.heap.size + 2) := (show W.heap.size ≤ w3.heap.size + 2 by have := (K2.out.then k3).size; omega)
  generalize hbs : w3.heap.size + 2 = base at *
  clear hB hF hFr hE hP i0 i1 i2 j0 j1 j2 j3 j4 k3 hbs
  go_wp2_with fail
  go_loopw [9] (fun i wr => ∃ (k : Nat) (vD vR : Value) (E : List Ent), k ≤ ss.length ∧ i = .int .i64 k ∧ Book base wr g vD vR E ∧ Few k E ∧ E.length ≤ k + 2 ∧ Kept [] W wr) (fun i _ => ss.length - (intOf i).toNat)
  case atStart =>
    obtain ⟨vD, vR, E, h1, h2, h3, h4⟩ := ST.out
    exact ⟨0, vD, vR, E, Nat.zero_le _, rfl, h1, h2, h3, h4⟩
  case round =>
    clear ST
    obtain ⟨k, vD, vR, E, hk, rfl, hB, hF, hE, kr⟩ := hrel
    have g0 := hB.blk.cell (j := 0) rfl
    obtain ⟨pD, cD, rfl⟩ := own_shape2 hB.rowD
    have HB : Hid (Book base wr g (.slice pD E.length cD) vR E) := hB
    have HF : Hid (Few k E) := hF
    have KR : Hid (Kept [] W wr) := kr
    have HEL : Hid (E.length ≤ 9223372036854775806) := (show E.length ≤ 9223372036854775806 by have := HLEN.out; omega)
    have HEK : Hid (E.length ≤ k + 2) := hE
    clear hB hF
    by_cases hlt : k < ss.length
    · have hlt' : (k : Int) < (ss.length : Int) := by omega
      by_cases hE0 : 0 < E.length
      · have hE0' : (0 : Int) < (E.length : Int) := by omega
        obtain ⟨s, hs⟩ : ∃ s, ss[k]? = some s := ⟨_, List.getElem?_eq_getElem hlt⟩
        obtain ⟨sb, so, sc, es, c0, c1, c2, c3, c4, c5, c6, bb, kk, nn⟩ := HS0.out.at hs
        cases es
        obtain ⟨kind, which, n, mm, ub, bts, cl, vk, keep⟩ := s
        simp only at c0 c1 c2 c3 c4 c5 c6 bb kk nn
        have hpl := play_op (s := ⟨kind, which, n, mm, ub, bts, cl, vk, keep⟩) HB.out HF.out (by have := HLEN.out; omega) (by have := HLEN.out; omega) bb kk nn kr HBASE.out
        simp only at hpl
        obtain ⟨pb, cb, rfl, -⟩ := id bb
        obtain ⟨pk, ck, rfl, -⟩ := id kk
        have d0 := kr.cell c0 (by simp)
        have d1 := kr.cell c1 (by simp)
        have d2 := kr.cell c2 (by simp)
        have d3 := kr.cell c3 (by simp)
        have d4 := kr.cell c4 (by simp)
        have d5 := kr.cell c5 (by simp)
        have d6 := kr.cell c6 (by simp)
        have wk : IntKind.i64.wrap ((k : Int) + 1) = (k : Int) + 1 := wrap_i64_of (by omega) (by have := H63.out; omega)
        clear bb kk nn hs c0 c2 c3 c4 c5 c6
        go_wp2_with fail
        refine hpl.mono ?_
        clear hpl
        rintro r w5 ⟨rfl, vD', vR', E', hB', hF', hE1, hE2, -, hP'⟩
        have k5 : Kept [] W w5 := (((Past.kept (base := base) kr).trans hP').mono HBASE.out).all
        have kd : Kept [] W w5.drew := k5.drew
        have hn1 : 0 < E'.length := by omega
        have g5 := hB'.blk.cell (j := 0) rfl
        obtain ⟨pD', cD', rfl⟩ := own_shape2 hB'.rowD
        obtain ⟨q1, hq1⟩ : ∃ q, q = restN which E'.length := ⟨_, rfl⟩
        have hql : q1 < E'.length := by rw [hq1]; have := restN_lt which (E'.length - 1); rw [show E'.length - 1 + 1 = E'.length by omega] at this; omega
        obtain ⟨q2, hq2⟩ : ∃ q, q = E'.length - 1 := ⟨_, rfl⟩
        have hq2l : q2 < E'.length := by omega
        obtain ⟨en1, he1⟩ : ∃ e, E'[q1]? = some e := ⟨_, List.getElem?_eq_getElem hql⟩
        obtain ⟨en2, he2⟩ : ∃ e, E'[q2]? = some e := ⟨_, List.getElem?_eq_getElem hq2l⟩
        have hmd := fun w' => mod_any which E'.length w' hn1 (by have := HLEN.out; have := HEK.out; omega)
        rw [← hq1] at hmd
        have hs1 := fun (w' : World) (kx : Kept [] w5 w') => stands_any base g q1 _ _ E' en1 w' (hB'.kept kx (by simp)) he1
        have hs2 := fun (w' : World) (kx : Kept [] w5 w') => stands_any base g q2 _ _ E' en2 w' (hB'.kept kx (by simp)) he2
        have eq2 : IntKind.i64.wrap ((E'.length : Int) - 1) = (q2 : Int) := by rw [show ((E'.length : Int) - 1) = (q2 : Int) by omega]; exact wrap_i64_of (by omega) (by have := HLEN.out; have := HEK.out; omega)
        have f1 := k5.cell c1 (by simp)
        have HB5 : Hid (Book base w5 g (.slice pD' E'.length cD') vR' E' ∧ Few (k + 1) E' ∧ E'.length ≤ k + 1 + 2) := ⟨hB', hF', by have := HEK.out; omega⟩
        have K5 : Hid (Kept [] W w5) := k5
        have kx : Kept [] w5 w5.drew := (Kept.refl [] w5).drew
        have tok : True := trivial
        clear hB' hF' hE1 hE2 hP' k5 kd hq1 hql hq2 hq2l he1 he2 d0 d1 d2 d3 d4 d5 d6 g0 hn1
        go_wp2_with fail
        go_region_held3 (fun w' => w'.cell? ⟨sb, so + k * 7 + 1, none⟩ = some (.int .i64 which) ∧ w'.cell? ⟨g, 0, none⟩ = some (.slice pD' E'.length cD'))
          (first
            | (with_reducible exact ⟨kx.cell f1 (by simp), kx.cell g5 (by simp)⟩)
            | fail)
          (first
            | (go_at_call 11; refine (hmd _).mono ?_; rintro r w6 ⟨rfl, rfl⟩)
            | (go_at_call 40; clear tok; refine (hs1 _ kx).mono ?_; clear hs1; rintro r w7 ⟨rfl, kn⟩; replace kx := kx.then kn; clear kn)
            | (go_at_call 40; refine (hs2 _ kx).mono ?_; clear hs2; rintro r w8 ⟨rfl, kn⟩; replace kx := kx.then kn; clear kn)
            | fail)
        have K8 := K5.out.then kx
        have B8 := HB5.out.1.kept kx (by simp)
        have HR : Hid (∃ (vD vR : Value) (E : List Ent), Book base _ g vD vR E ∧ Few (k + 1) E ∧ E.length ≤ k + 1 + 2 ∧ Kept [] W _) := ⟨_, _, _, B8, HB5.out.2.1, HB5.out.2.2, K8⟩
        clear kx K8 B8 f1 g5
        go_wp2
        go_roundw
        case rel =>
          obtain ⟨a1, a2, a3, r1, r2, r3, r4⟩ := HR.out
          exact ⟨k + 1, a1, a2, a3, by omega, by go_num, r1, r2, r3, r4⟩
        case measure => simp [intOf]; omega
      · have hE0' : ¬ (0 : Int) < (E.length : Int) := by omega
        go_wp2_with fail
        go_loopw [11] (fun i wq => ∃ t : Nat, t ≤ E.length ∧ i = .int .i64 t ∧ Kept [] wr wq) (fun i _ => E.length - (intOf i).toNat)
        case atStart => exact ⟨0, Nat.zero_le _, rfl, Kept.refl _ _⟩
        case round =>
          obtain ⟨t, ht, rfl, kq⟩ := hrel
          have gq := kq.cell g0 (by simp)
          by_cases htl : t < E.length
          · exact absurd htl (by omega)
          · have htl' : ¬ (t : Int) < (E.length : Int) := by omega
            go_wp2
            go_ret
            exact ⟨rfl, KR.out.then kq⟩
    · have hlt' : ¬ (k : Int) < (ss.length : Int) := by omega
      go_wp2_with fail
      go_loopw [11] (fun i wq => ∃ t : Nat, t ≤ E.length ∧ i = .int .i64 t ∧ Kept [] wr wq) (fun i _ => E.length - (intOf i).toNat)
      case atStart => exact ⟨0, Nat.zero_le _, rfl, Kept.refl _ _⟩
      case round =>
        obtain ⟨t, ht, rfl, kq⟩ := hrel
        have gq := kq.cell g0 (by simp)
        by_cases htl : t < E.length
        · have htl' : (t : Int) < (E.length : Int) := by omega
          obtain ⟨e, he⟩ : ∃ e, E[t]? = some e := ⟨_, List.getElem?_eq_getElem htl⟩
          have hst := stands_any base g t _ _ E e wr (HB.out.kept kq (by simp)) he
          have wt : IntKind.i64.wrap ((t : Int) + 1) = (t : Int) + 1 := wrap_i64_of (by omega) (by have := HEL.out; omega)
          go_wp2_with fail
          refine hst.mono ?_
          clear hst
          rintro r wz ⟨rfl, kz⟩
          go_wp2
          go_roundw
          case rel => exact ⟨t + 1, by omega, by go_num, kq.then kz⟩
          case measure => simp [intOf]; omega
        · have htl' : ¬ (t : Int) < (E.length : Int) := by omega
          go_wp2
          go_ret
          exact ⟨rfl, KR.out.then kq⟩
end Go.Proofs.Ytmipmiaflompmaa

/-
  OWN WORK. Plain disks: what a crash that keeps all, one that keeps nothing, and three syncs leave.
-/
namespace Go.Proofs.Ytmipmiaflompmaa
set_option linter.unusedVariables false

theorem crash_ones (xs : List (Nat × List UInt8)) : ∀ (i : Nat) (rows : List (List UInt8)), crashRows [1] xs i rows = laid rows xs := by
  induction xs with
  | nil => intro i rows; rfl
  | cons x xs ih =>
    intro i rows
    show crashRows [1] xs (i + 1) (crashLay rows x (keepAt [1] i)) = laid (layR rows x.1 x.2 x.2.length) xs
    have h1 : keepAt [1] i = 1 := by
      unfold keepAt
      rw [show i % ([1] : List Int).length = 0 by simp; omega]
      rfl
    rw [ih, h1]
    rfl
theorem crash_zero (xs : List (Nat × List UInt8)) : ∀ (i : Nat) (rows : List (List UInt8)), crashRows [] xs i rows = rows := by
  induction xs with
  | nil => intro i rows; rfl
  | cons x xs ih =>
    intro i rows
    show crashRows [] xs (i + 1) (crashLay rows x (keepAt [] i)) = rows
    have h1 : keepAt [] i = 0 := by simp [keepAt, List.getD]
    rw [ih, h1]
    rfl
theorem restN_neg (m : Nat) : restN (-1) (m + 1) = m := by
  unfold restN
  have : (-1 : Int) % ((m + 1 : Nat) : Int) = (m : Int) := by
    rw [Int.neg_emod]
    split
    · rename_i h
      have := Int.le_of_dvd (by omega) h
      have : m = 0 := by omega
      subst this
      rfl
    · rcases Nat.eq_zero_or_pos m with e | e
      · subst e; simp at *
      · rw [Int.emod_eq_of_lt (by omega) (by omega)]
        simp; omega
  rw [this]
  rfl
theorem restN_zero (m : Nat) : restN 0 m = 0 := by simp [restN]
theorem DS.Ok.allLog {d : DS} (h : d.Ok) : crashLog d (-1) = d.log.length := by
  unfold crashLog
  rw [restN_neg]
  have := h.lasted
  omega
theorem crash_all_image {d : DS} (h : d.Ok) : (d.crash (-1) [1]).image = d.image ∧ (d.crash (-1) [1]).lasts = d.image := by
  have hl := h.allLog
  have e1 : (d.crash (-1) [1]).rows = d.seen := crash_ones _ _ _
  have e2 : (d.crash (-1) [1]).log = d.log := by
    show d.log.take (crashLog d (-1)) = d.log
    rw [hl, List.take_length]
  have e3 : (d.crash (-1) [1]).lasted = d.log.length := hl
  refine ⟨?_, ?_⟩
  · show imOf d.np (laid (d.crash (-1) [1]).rows []) (d.crash (-1) [1]).log = imOf d.np d.seen d.log
    rw [e1, e2]
    rfl
  · show imOf d.np (d.crash (-1) [1]).rows ((d.crash (-1) [1]).log.take (d.crash (-1) [1]).lasted) = imOf d.np d.seen d.log
    rw [e1, e2, e3, List.take_length]
theorem crash_none_image {d : DS} (h : d.Ok) : (d.crash 0 []).image = d.lasts ∧ (d.crash 0 []).lasts = d.lasts := by
  have hl : crashLog d 0 = d.lasted := by unfold crashLog; rw [restN_zero]; omega
  have e1 : (d.crash 0 []).rows = d.rows := crash_zero _ _ _
  have e2 : (d.crash 0 []).log = d.log.take d.lasted := by
    show d.log.take (crashLog d 0) = _
    rw [hl]
  have e3 : (d.crash 0 []).lasted = d.lasted := hl
  refine ⟨?_, ?_⟩
  · show imOf d.np (laid (d.crash 0 []).rows []) (d.crash 0 []).log = imOf d.np d.rows (d.log.take d.lasted)
    rw [e1, e2]
    rfl
  · show imOf d.np (d.crash 0 []).rows ((d.crash 0 []).log.take (d.crash 0 []).lasted) = imOf d.np d.rows (d.log.take d.lasted)
    rw [e1, e2, e3, List.take_take, Nat.min_self]
theorem layR_comm2 (rows : List (List UInt8)) {k k' : Nat} (b b' : List UInt8) (n n' : Nat) (h : k ≠ k') : layR (layR rows k b n) k' b' n' = layR (layR rows k' b' n') k b n := by
  unfold layR
  have g1 : (rows.set k (over (rows.getD k []) 0 (b.take n))).getD k' [] = rows.getD k' [] := by simp [List.getD, List.getElem?_set_ne h]
  have g2 : (rows.set k' (over (rows.getD k' []) 0 (b'.take n'))).getD k [] = rows.getD k [] := by simp [List.getD, List.getElem?_set_ne (Ne.symm h)]
  rw [g1, g2]
  exact List.set_comm _ _ h
theorem laid_layR (ys : List (Nat × List UInt8)) (k : Nat) (b : List UInt8) (n : Nat) : ∀ rows : List (List UInt8), (∀ y ∈ ys, y.1 ≠ k) → laid (layR rows k b n) ys = layR (laid rows ys) k b n := by
  induction ys with
  | nil => intro rows _; rfl
  | cons y ys ih =>
    intro rows h
    show laid (layR (layR rows k b n) y.1 y.2 y.2.length) ys = layR (laid (layR rows y.1 y.2 y.2.length) ys) k b n
    rw [layR_comm2 rows b y.2 n y.2.length (Ne.symm (h y (by simp))), ih _ (fun z hz => h z (by simp [hz]))]
theorem laid_split (f : Nat → Bool) (xs : List (Nat × List UInt8)) : ∀ rows : List (List UInt8), laid rows xs = laid (laid rows (xs.filter fun x => f x.1)) (xs.filter fun x => !f x.1) := by
  induction xs with
  | nil => intro rows; rfl
  | cons x xs ih =>
    intro rows
    show laid (layR rows x.1 x.2 x.2.length) xs = _
    rw [ih]
    cases hx : f x.1 with
    | true =>
      rw [List.filter_cons_of_pos (by simpa using hx), List.filter_cons_of_neg (by simp [hx])]
      rfl
    | false =>
      rw [List.filter_cons_of_neg (by simp [hx]), List.filter_cons_of_pos (by simp [hx])]
      show laid (laid (layR rows x.1 x.2 x.2.length) (xs.filter fun x => f x.1)) _ = laid (layR (laid rows (xs.filter fun x => f x.1)) x.1 x.2 x.2.length) _
      rw [laid_layR]
      intro y hy e
      have := (List.mem_filter.1 hy).2
      rw [e, hx] at this
      cases this
theorem act_free {d : DS} (h1 : d.dead = false) (h2 : d.stop = 0) : d.alive = true ∧ d.act = { d with acts := IntKind.i64.wrap (d.acts + 1) } := by
  refine ⟨by simp [DS.alive, h1, h2], ?_⟩
  unfold DS.act
  rw [if_neg (by simp [h1]), if_neg (by omega), if_neg (by omega)]
/-- the three syncs of a copy -/
def DS.synced (d : DS) : DS := ((d.copy.sync true).sync false).syncLog
theorem synced_eq (d : DS) : d.synced = { d with rows := d.seen, loose := [], lasted := d.log.length, acts := 3, stop := 0, dead := false } := by
  unfold DS.synced
  obtain ⟨a1, b1⟩ := act_free (d := d.copy) rfl rfl
  have e1 : d.copy.sync true = { d.copy with rows := laid d.rows (d.loose.filter fun x => isMaster d.np x.1 == true), loose := d.loose.filter (fun x => !(isMaster d.np x.1 == true)), acts := 1 } := by
    unfold DS.sync
    rw [if_pos a1, b1]
    rfl
  rw [e1]
  obtain ⟨a2, b2⟩ := act_free (d := { d.copy with rows := laid d.rows (d.loose.filter fun x => isMaster d.np x.1 == true), loose := d.loose.filter (fun x => !(isMaster d.np x.1 == true)), acts := 1 }) rfl rfl
  have e2 : DS.sync { d.copy with rows := laid d.rows (d.loose.filter fun x => isMaster d.np x.1 == true), loose := d.loose.filter (fun x => !(isMaster d.np x.1 == true)), acts := 1 } false = { d.copy with rows := d.seen, loose := [], acts := 2 } := by
    unfold DS.sync
    rw [if_pos a2, b2]
    have r1 : laid (laid d.rows (d.loose.filter fun x => isMaster d.np x.1 == true)) ((d.loose.filter fun x => !(isMaster d.np x.1 == true)).filter fun x => isMaster d.np x.1 == false) = d.seen := by
      unfold DS.seen
      rw [laid_split (fun k => isMaster d.np k == true) d.loose d.rows, List.filter_filter]
      congr 1
      apply List.filter_congr
      intro x _
      cases isMaster d.np x.1 <;> rfl
    have r2 : (d.loose.filter fun x => !(isMaster d.np x.1 == true)).filter (fun x => !(isMaster d.np x.1 == false)) = [] := by
      rw [List.filter_filter, List.filter_eq_nil_iff]
      intro x _
      cases isMaster d.np x.1 <;> simp
    show ({ d.copy with rows := laid (laid d.rows (d.loose.filter fun x => isMaster d.np x.1 == true)) ((d.loose.filter fun x => !(isMaster d.np x.1 == true)).filter fun x => isMaster d.np x.1 == false), loose := (d.loose.filter fun x => !(isMaster d.np x.1 == true)).filter (fun x => !(isMaster d.np x.1 == false)), acts := 2 } : DS) = _
    rw [r1, r2]
  rw [e2]
  obtain ⟨a3, b3⟩ := act_free (d := { d.copy with rows := d.seen, loose := [], acts := 2 }) rfl rfl
  unfold DS.syncLog
  rw [if_pos a3, b3]
  rfl
theorem synced_image (d : DS) : d.synced.image = d.image ∧ d.synced.lasts = d.image ∧ d.synced.acts = 3 := by
  rw [synced_eq]
  refine ⟨rfl, ?_, rfl⟩
  show imOf d.np d.seen (d.log.take d.log.length) = imOf d.np d.seen d.log
  rw [List.take_length]
end Go.Proofs.Ytmipmiaflompmaa

/-
  OWN WORK. DiskEnds: the walk.
-/
namespace Go.Proofs.Ytmipmiaflompmaa
open Go.RowKit
set_option linter.unusedVariables false

set_option maxRecDepth 20000 in
set_option maxHeartbeats 6400000 in
theorem diskEnds_walk (a b c : Int) (V : IV) (m : IM) (vs : Value) (ss : List OpR) (W : World) (hV : SeeIm W V m) (hpc : (V.pv.length + 3) * 24 ≤ 140737488355328) (hS : Ops W vs ss) (hlen : (ss.length + 4) * 40 ≤ 140737488355328) :
    Calls Try.prog 5 #[.agg #[.int .i64 a, .int .i64 b, .int .i64 c], V.agg, vs] W fun r W' => r = .returned (.bool true) ∧ Kept [] W W' := by
  obtain ⟨u0, v0, e0, -⟩ := hV.vp
  obtain ⟨u1, v1, e1, -⟩ := hV.pair
  obtain ⟨u2, v2, e2, -⟩ := hV.log
  obtain ⟨u3, v3, e3, -⟩ := hV.m0
  obtain ⟨u4, v4, e4, -⟩ := hV.m1
  obtain ⟨vp, pv, pair, log, m0, m1⟩ := V
  simp only at e0 e1 e2 e3 e4 hpc
  subst e0 e1 e2 e3 e4
  have HCAP : Hid ((pv.length + 3) * 24 ≤ 140737488355328) := hpc
  clear hpc
  obtain ⟨ps, cs, rfl, -, hcs, -⟩ := id hS
  obtain ⟨w2, hw2⟩ : ∃ w2, w2 = (W.alloc (.cells #[.int .i64 a, .int .i64 b, .int .i64 c] 23)).alloc (.cells #[.slice u0 pv.length v0, .slice u1 m.pair.length v1, .slice u2 m.log.length v2, .slice u3 m.m0.length v3, .slice u4 m.m1.length v4] 43) := ⟨_, rfl⟩
  have k2 : Kept [] W w2 := by rw [hw2]; exact ((Kept.refl [] W).alloc _).alloc _
  have bS : Blk w2 W.heap.size 23 [.int .i64 a, .int .i64 b, .int .i64 c] := by
    rw [hw2]
    exact (Blk.new W _ _).kept ((Kept.refl [] _).alloc _) (by simp)
  have bI : Blk w2 (W.heap.size + 1) 43 [.slice u0 pv.length v0, .slice u1 m.pair.length v1, .slice u2 m.log.length v2, .slice u3 m.m0.length v3, .slice u4 m.m1.length v4] := by
    rw [hw2]
    have := Blk.new (W.alloc (.cells #[.int .i64 a, .int .i64 b, .int .i64 c] 23)) 43 [.slice u0 pv.length v0, .slice u1 m.pair.length v1, .slice u2 m.log.length v2, .slice u3 m.m0.length v3, .slice u4 m.m1.length v4]
    rwa [World.size_alloc] at this
  have HV0 : Hid (SeeIm W ⟨.slice u0 pv.length v0, pv, .slice u1 m.pair.length v1, .slice u2 m.log.length v2, .slice u3 m.m0.length v3, .slice u4 m.m1.length v4⟩ m) := hV
  have HS0 : Hid (Ops W (.slice ps ss.length cs) ss) := hS
  have HLEN : Hid ((ss.length + 4) * 40 ≤ 140737488355328) := hlen
  have K2 : Hid (Kept [] W w2) := k2
  have HSB : Hid (Blk w2 W.heap.size 23 [.int .i64 a, .int .i64 b, .int .i64 c] ∧ Blk w2 (W.heap.size + 1) 43 [.slice u0 pv.length v0, .slice u1 m.pair.length v1, .slice u2 m.log.length v2, .slice u3 m.m0.length v3, .slice u4 m.m1.length v4]) := ⟨bS, bI⟩
  have HW2 : Hid (w2 = (W.alloc (.cells #[.int .i64 a, .int .i64 b, .int .i64 c] 23)).alloc (.cells #[.slice u0 pv.length v0, .slice u1 m.pair.length v1, .slice u2 m.log.length v2, .slice u3 m.m0.length v3, .slice u4 m.m1.length v4] 43)) := hw2
  have h63 : ss.length ≤ 9223372036854775807 := by omega
  have H63 : Hid (ss.length ≤ 9223372036854775807) := h63
  unfold IV.agg
  dsimp only
  clear hV hS hlen k2 bS bI hw2 hcs h63
  go_enter Try.func5, Try.ntmps5
  go_wp2_with fail
  rw [← HW2.out]
  refine (head_any w2).mono ?_
  rintro r w3 ⟨rfl, k3⟩
  have i0 := (HSB.out.1.kept k3 (by simp)).cell (j := 0) rfl
  have i1 := (HSB.out.1.kept k3 (by simp)).cell (j := 1) rfl
  have i2 := (HSB.out.1.kept k3 (by simp)).cell (j := 2) rfl
  obtain ⟨⟨j0, j1, j2, j3, j4⟩, -⟩ := (HSB.out.2.kept k3 (by simp)).five
  have hbg := begins_any a b c _ m w3 ((HV0.out.kept K2.out).kept k3) HCAP.out
  unfold IV.agg at hbg
  dsimp only at hbg
  go_wp2_with fail
  refine hbg.mono ?_
  clear hbg
  rintro r w4 ⟨g, vD, vR, E, rfl, hB, hFr, hE, -, hP⟩
  have hF := hFr.few
  have ST : Hid (∃ vD vR E, Book (w3.heap.size + 2) w4 g vD vR E ∧ Few 0 E ∧ E.length ≤ 2 ∧ Kept [] W w4) := ⟨vD, vR, E, hB, hF, hE, (K2.out.then k3).then (hP.mono (b' := w3.heap.size) (by omega)).all⟩
  have HBASE : Hid (W.heap.size ≤ w3.heap.size + 2) := (show W.heap.size ≤ w3.heap.size + 2 by have := (K2.out.then k3).size; omega)
  generalize hbs : w3.heap.size + 2 = base at *
  clear hB hF hFr hE hP i0 i1 i2 j0 j1 j2 j3 j4 k3 hbs
  go_wp2_with fail
  go_loopw [9] (fun i wr => ∃ (k : Nat) (vD vR : Value) (E : List Ent), k ≤ ss.length ∧ i = .int .i64 k ∧ Book base wr g vD vR E ∧ Few k E ∧ E.length ≤ k + 2 ∧ Kept [] W wr) (fun i _ => ss.length - (intOf i).toNat)
  case atStart =>
    obtain ⟨vD, vR, E, h1, h2, h3, h4⟩ := ST.out
    exact ⟨0, vD, vR, E, Nat.zero_le _, rfl, h1, h2, h3, h4⟩
  case round =>
    clear ST
    obtain ⟨k, vD, vR, E, hk, rfl, hB, hF, hE, kr⟩ := hrel
    have g0 := hB.blk.cell (j := 0) rfl
    obtain ⟨pD, cD, rfl⟩ := own_shape2 hB.rowD
    have HB : Hid (Book base wr g (.slice pD E.length cD) vR E) := hB
    have HF : Hid (Few k E) := hF
    have KR : Hid (Kept [] W wr) := kr
    have HEL : Hid (E.length ≤ 9223372036854775806) := (show E.length ≤ 9223372036854775806 by have := HLEN.out; omega)
    have HEK : Hid (E.length ≤ k + 2) := hE
    clear hB hF
    by_cases hlt : k < ss.length
    · have hlt' : (k : Int) < (ss.length : Int) := by omega
      obtain ⟨s, hs⟩ : ∃ s, ss[k]? = some s := ⟨_, List.getElem?_eq_getElem hlt⟩
      obtain ⟨sb, so, sc, es, c0, c1, c2, c3, c4, c5, c6, bb, kk, nn⟩ := HS0.out.at hs
      cases es
      obtain ⟨kind, which, n, mm, ub, bts, cl, vk, keep⟩ := s
      simp only at c0 c1 c2 c3 c4 c5 c6 bb kk nn
      have hpl := play_op (s := ⟨kind, which, n, mm, ub, bts, cl, vk, keep⟩) HB.out HF.out (by have := HLEN.out; omega) (by have := HLEN.out; omega) bb kk nn kr HBASE.out
      simp only at hpl
      obtain ⟨pb, cb, rfl, -⟩ := id bb
      obtain ⟨pk, ck, rfl, -⟩ := id kk
      have d0 := kr.cell c0 (by simp)
      have d1 := kr.cell c1 (by simp)
      have d2 := kr.cell c2 (by simp)
      have d3 := kr.cell c3 (by simp)
      have d4 := kr.cell c4 (by simp)
      have d5 := kr.cell c5 (by simp)
      have d6 := kr.cell c6 (by simp)
      have wk : IntKind.i64.wrap ((k : Int) + 1) = (k : Int) + 1 := wrap_i64_of (by omega) (by have := H63.out; omega)
      clear bb kk nn hs c0 c2 c3 c4 c5 c6
      go_wp2_with fail
      refine hpl.mono ?_
      clear hpl
      rintro r w5 ⟨rfl, vD', vR', E', hB', hF', hE1, hE2, -, hP'⟩
      have k5 : Kept [] W w5 := (((Past.kept (base := base) kr).trans hP').mono HBASE.out).all
      have HR : Hid (∃ (vD vR : Value) (E : List Ent), Book base w5 g vD vR E ∧ Few (k + 1) E ∧ E.length ≤ k + 1 + 2 ∧ Kept [] W w5) := ⟨_, _, _, hB', hF', by have := HEK.out; omega, k5⟩
      clear hB' hF' hE1 hE2 hP' k5 g0
      go_wp2
      go_roundw
      case rel =>
        obtain ⟨a1, a2, a3, r1, r2, r3, r4⟩ := HR.out
        exact ⟨k + 1, a1, a2, a3, by omega, by go_num, r1, r2, r3, r4⟩
      case measure => simp [intOf]; omega
    · have hlt' : ¬ (k : Int) < (ss.length : Int) := by omega
      go_wp2_with fail
      go_loopw [11] (fun i wq => ∃ t : Nat, t ≤ E.length ∧ i = .int .i64 t ∧ Kept [] wr wq) (fun i _ => E.length - (intOf i).toNat)
      case atStart => exact ⟨0, Nat.zero_le _, rfl, Kept.refl _ _⟩
      case round =>
        obtain ⟨t, ht, rfl, kq⟩ := hrel
        have gq := kq.cell g0 (by simp)
        by_cases htl : t < E.length
        · have htl' : (t : Int) < (E.length : Int) := by omega
          obtain ⟨e, he⟩ : ∃ e, E[t]? = some e := ⟨_, List.getElem?_eq_getElem htl⟩
          obtain ⟨bD, cD', bR, cR, eD, -, d0, -, -, -⟩ := HB.out.at he
          cases eD
          have dq := kq.cell d0 (by simp)
          obtain ⟨v, u, d, F⟩ := e
          obtain ⟨A, B, hp, -, -, -⟩ := HB.out.both _ (List.mem_of_getElem? he)
          simp only at hp dq
          have hfew := HF.out _ (List.mem_of_getElem? he)
          simp only at hfew
          obtain ⟨gv, rfl⟩ := hp.ptr
          have HP : Hid (PF wr (.pointer (some ⟨gv, 0, none⟩)) d A) := hp.kept kq (by simp)
          have HOK : Hid d.Ok := hp.ok
          have HFEW : Hid ((d.loose.length + 1) * 40 ≤ 140737488355328) := (show (d.loose.length + 1) * 40 ≤ 140737488355328 by have := HLEN.out; omega)
          have KQ : Hid (Kept [] W wr) := KR.out.then kq
          have wt : IntKind.i64.wrap ((t : Int) + 1) = (t : Int) + 1 := wrap_i64_of (by omega) (by have := HEL.out; omega)
          clear hp he d0 hfew
          go_wp2_with fail
          refine (fImage _ d A _ HP.out).mono ?_
          rintro r w1 ⟨V1, rfl, hV1, k1⟩
          go_wp2_with fail
          refine (fLasts _ d A _ (HP.out.kept k1 (by simp))).mono ?_
          rintro r w2 ⟨V2, rfl, hV2, k2⟩
          obtain ⟨vp1, pv1, pair1, log1, m01, m11⟩ := V1
          obtain ⟨x0, y0, x1, y1, x2, y2, x3, y3, x4, y4, z0, z1, z2, z3, z4⟩ := hV1.shapes
          simp only at z0 z1 z2 z3 z4
          subst z0 z1 z2 z3 z4
          obtain ⟨vp2, pv2, pair2, log2, m02, m12⟩ := V2
          obtain ⟨a0, b0, a1, b1, a2, b2, a3, b3, a4, b4, z0, z1, z2, z3, z4⟩ := hV2.shapes
          simp only at z0 z1 z2 z3 z4
          subst z0 z1 z2 z3 z4
          unfold IV.agg
          dsimp only
          go_wp2_with fail
          obtain ⟨w4, hw4⟩ : ∃ w4, w4 = (w2.alloc (.cells #[.slice x0 pv1.length y0, .slice x1 d.image.pair.length y1, .slice x2 d.image.log.length y2, .slice x3 d.image.m0.length y3, .slice x4 d.image.m1.length y4] 43)).alloc (.cells #[.slice a0 pv2.length b0, .slice a1 d.lasts.pair.length b1, .slice a2 d.lasts.log.length b2, .slice a3 d.lasts.m0.length b3, .slice a4 d.lasts.m1.length b4] 43) := ⟨_, rfl⟩
          have k4 : Kept [] w2 w4 := by rw [hw4]; exact ((Kept.refl [] w2).alloc _).alloc _
          have s4 : w4.heap.size = w2.heap.size + 1 + 1 := by rw [hw4]; simp
          have kw : Kept [] wr w4 := (k1.then k2).then k4
          have bV : Blk w4 w2.heap.size 43 [.slice x0 pv1.length y0, .slice x1 d.image.pair.length y1, .slice x2 d.image.log.length y2, .slice x3 d.image.m0.length y3, .slice x4 d.image.m1.length y4] := by
            rw [hw4]
            exact (Blk.new w2 _ _).kept ((Kept.refl [] _).alloc _) (by simp)
          have bU : Blk w4 (w2.heap.size + 1) 43 [.slice a0 pv2.length b0, .slice a1 d.lasts.pair.length b1, .slice a2 d.lasts.log.length b2, .slice a3 d.lasts.m0.length b3, .slice a4 d.lasts.m1.length b4] := by
            rw [hw4]
            have := Blk.new (w2.alloc (.cells #[.slice x0 pv1.length y0, .slice x1 d.image.pair.length y1, .slice x2 d.image.log.length y2, .slice x3 d.image.m0.length y3, .slice x4 d.image.m1.length y4] 43)) 43 [.slice a0 pv2.length b0, .slice a1 d.lasts.pair.length b1, .slice a2 d.lasts.log.length b2, .slice a3 d.lasts.m0.length b3, .slice a4 d.lasts.m1.length b4]
            rwa [World.size_alloc] at this
          have k45 := (Kept.refl [] w4).alloc (.cells #[.int .i64 1] 3)
          have hlit := is_lit w4 3 1 (by decide)
          rw [s4] at hlit
          have hC1 := fCrash _ d A (-1) (.slice (some ⟨w2.heap.size + 1 + 1, 0, none⟩) 1 1) [1] (w4.alloc (.cells #[.int .i64 1] 3)) ((HP.out.kept kw (by simp)).kept k45 (by simp)) hlit
          have HS1 : Hid (SeeIm w4 ⟨.slice x0 pv1.length y0, pv1, .slice x1 d.image.pair.length y1, .slice x2 d.image.log.length y2, .slice x3 d.image.m0.length y3, .slice x4 d.image.m1.length y4⟩ d.image) := (hV1.see.kept k2).kept k4
          have HS2 : Hid (SeeIm w4 ⟨.slice a0 pv2.length b0, pv2, .slice a1 d.lasts.pair.length b1, .slice a2 d.lasts.log.length b2, .slice a3 d.lasts.m0.length b3, .slice a4 d.lasts.m1.length b4⟩ d.lasts) := hV2.see.kept k4
          rw [← hw4]
          clear hV1 hV2 k1 k2 k4 hlit s4
          refine hC1.mono ?_
          clear hC1
          rintro r w5 ⟨ua, rfl, FA, pa, fa, k5, -⟩
          obtain ⟨ga, rfl⟩ := pa.ptr
          have hC2 := fCrash _ d A 0 (.slice none 0 0) [] w5 (((HP.out.kept kw (by simp)).kept k45 (by simp)).kept k5 (by simp)) ⟨none, 0, rfl, Nat.le_refl _, by simp [maxLen], fun _ => rfl, by simp, fun a e => (by cases e)⟩
          go_wp2_with fail
          refine hC2.mono ?_
          clear hC2
          rintro r w6 ⟨un, rfl, FN, pn, fn, k6, -⟩
          obtain ⟨gn, rfl⟩ := pn.ptr
          have k46 := (k45.then k5).then k6
          have PA : Hid (PF w6 (.pointer (some ⟨ga, 0, none⟩)) (d.crash (-1) [1]) FA) := pa.kept k6 (by simp)
          have PN : Hid (PF w6 (.pointer (some ⟨gn, 0, none⟩)) (d.crash 0 []) FN) := pn
          have PDd : Hid (PF w6 (.pointer (some ⟨gv, 0, none⟩)) d A) := (HP.out.kept kw (by simp)).kept k46 (by simp)
          have S1 : Hid (SeeIm w6 ⟨.slice x0 pv1.length y0, pv1, .slice x1 d.image.pair.length y1, .slice x2 d.image.log.length y2, .slice x3 d.image.m0.length y3, .slice x4 d.image.m1.length y4⟩ d.image) := HS1.out.kept k46
          have S2 : Hid (SeeIm w6 ⟨.slice a0 pv2.length b0, pv2, .slice a1 d.lasts.pair.length b1, .slice a2 d.lasts.log.length b2, .slice a3 d.lasts.m0.length b3, .slice a4 d.lasts.m1.length b4⟩ d.lasts) := HS2.out.kept k46
          obtain ⟨⟨i0, i1, i2, i3, i4⟩, -⟩ := (bV.kept k46 (by simp)).five
          obtain ⟨⟨j0, j1, j2, j3, j4⟩, -⟩ := (bU.kept k46 (by simp)).five
          have KW6 : Hid (Kept [] wr w6) := kw.then k46
          have GQ : Hid (w6.cell? ⟨g, 0, none⟩ = some (.slice (some ⟨bD, 0, none⟩) E.length cD)) := (kw.then k46).cell gq (by simp)
          clear kw k45 k46 k5 k6 bV bU pa pn fa fn HS1 HS2 hw4 dq gq
          have kx : Kept [] w6 w6.drew := (Kept.refl [] w6).drew
          go_wp2_with fail
          have toka0 : True := trivial
          have toka1 : True := trivial
          have toka2 : True := trivial
          have toka3 : True := trivial
          have toka4 : True := trivial
          have toka5 : True := trivial
          have toka6 : True := trivial
          have toka7 : True := trivial
          have toka8 : True := trivial
          have toka9 : True := trivial
          go_region_held3 (fun w' => w'.cell? ⟨w2.heap.size, 0, none⟩ = some (.slice x0 pv1.length y0) ∧ w'.cell? ⟨w2.heap.size, 1, none⟩ = some (.slice x1 d.image.pair.length y1) ∧ w'.cell? ⟨w2.heap.size, 2, none⟩ = some (.slice x2 d.image.log.length y2) ∧ w'.cell? ⟨w2.heap.size, 3, none⟩ = some (.slice x3 d.image.m0.length y3) ∧ w'.cell? ⟨w2.heap.size, 4, none⟩ = some (.slice x4 d.image.m1.length y4) ∧ w'.cell? ⟨w2.heap.size + 1, 0, none⟩ = some (.slice a0 pv2.length b0) ∧ w'.cell? ⟨w2.heap.size + 1, 1, none⟩ = some (.slice a1 d.lasts.pair.length b1) ∧ w'.cell? ⟨w2.heap.size + 1, 2, none⟩ = some (.slice a2 d.lasts.log.length b2) ∧ w'.cell? ⟨w2.heap.size + 1, 3, none⟩ = some (.slice a3 d.lasts.m0.length b3) ∧ w'.cell? ⟨w2.heap.size + 1, 4, none⟩ = some (.slice a4 d.lasts.m1.length b4))
            (first
              | (with_reducible exact ⟨kx.cell i0 (by simp), kx.cell i1 (by simp), kx.cell i2 (by simp), kx.cell i3 (by simp), kx.cell i4 (by simp), kx.cell j0 (by simp), kx.cell j1 (by simp), kx.cell j2 (by simp), kx.cell j3 (by simp), kx.cell j4 (by simp)⟩)
              | fail)
            (first
              | (go_at_call 19; clear toka0; refine (fImage _ (d.crash (-1) [1]) FA _ (PA.out.kept kx (by simp))).mono ?_; rintro r wa0 ⟨VA1, rfl, hVA1, kn⟩; rw [(crash_all_image HOK.out).1] at hVA1; replace kx := kx.then kn; clear kn)
              | (go_at_call 21; clear toka1; refine (sameImages_eq VA1 ⟨.slice x0 pv1.length y0, pv1, .slice x1 d.image.pair.length y1, .slice x2 d.image.log.length y2, .slice x3 d.image.m0.length y3, .slice x4 d.image.m1.length y4⟩ d.image _ (by exact hVA1.see) (by exact S1.out.kept kx)).mono ?_; rintro r wa1 ⟨rfl, kn⟩; replace kx := kx.then kn; clear kn)
              | (go_at_call 17; clear toka2; refine (fLasts _ (d.crash (-1) [1]) FA _ (PA.out.kept kx (by simp))).mono ?_; rintro r wa2 ⟨VA2, rfl, hVA2, kn⟩; rw [(crash_all_image HOK.out).2] at hVA2; replace kx := kx.then kn; clear kn)
              | (go_at_call 21; clear toka3; refine (sameImages_eq VA2 ⟨.slice x0 pv1.length y0, pv1, .slice x1 d.image.pair.length y1, .slice x2 d.image.log.length y2, .slice x3 d.image.m0.length y3, .slice x4 d.image.m1.length y4⟩ d.image _ (by exact hVA2.see) (by exact S1.out.kept kx)).mono ?_; rintro r wa3 ⟨rfl, kn⟩; replace kx := kx.then kn; clear kn)
              | (go_at_call 19; clear toka4; refine (fImage _ (d.crash 0 []) FN _ (PN.out.kept kx (by simp))).mono ?_; rintro r wa4 ⟨VN1, rfl, hVN1, kn⟩; rw [(crash_none_image HOK.out).1] at hVN1; replace kx := kx.then kn; clear kn)
              | (go_at_call 21; clear toka5; refine (sameImages_eq VN1 ⟨.slice a0 pv2.length b0, pv2, .slice a1 d.lasts.pair.length b1, .slice a2 d.lasts.log.length b2, .slice a3 d.lasts.m0.length b3, .slice a4 d.lasts.m1.length b4⟩ d.lasts _ (by exact hVN1.see) (by exact S2.out.kept kx)).mono ?_; rintro r wa5 ⟨rfl, kn⟩; replace kx := kx.then kn; clear kn)
              | (go_at_call 17; clear toka6; refine (fLasts _ (d.crash 0 []) FN _ (PN.out.kept kx (by simp))).mono ?_; rintro r wa6 ⟨VN2, rfl, hVN2, kn⟩; rw [(crash_none_image HOK.out).2] at hVN2; replace kx := kx.then kn; clear kn)
              | (go_at_call 21; clear toka7; refine (sameImages_eq VN2 ⟨.slice a0 pv2.length b0, pv2, .slice a1 d.lasts.pair.length b1, .slice a2 d.lasts.log.length b2, .slice a3 d.lasts.m0.length b3, .slice a4 d.lasts.m1.length b4⟩ d.lasts _ (by exact hVN2.see) (by exact S2.out.kept kx)).mono ?_; rintro r wa7 ⟨rfl, kn⟩; replace kx := kx.then kn; clear kn)
              | (go_at_call 25; clear toka8; refine (fDead _ (d.crash (-1) [1]) FA _ (PA.out.kept kx (by simp))).mono ?_; rintro r wa8 ⟨rfl, kn⟩; replace kx := kx.then kn; clear kn)
              | (go_at_call 26; clear toka9; refine (fActs _ (d.crash 0 []) FN _ (PN.out.kept kx (by simp))).mono ?_; rintro r wa9 ⟨rfl, kn⟩; replace kx := kx.then kn; clear kn)
              | fail)
          replace kx := kx.drew
          go_wp2_with fail
          have tokb0 : True := trivial
          have tokb1 : True := trivial
          have tokb2 : True := trivial
          have tokb3 : True := trivial
          go_region_held3 (fun w' => w'.cell? ⟨w2.heap.size, 0, none⟩ = some (.slice x0 pv1.length y0) ∧ w'.cell? ⟨w2.heap.size, 1, none⟩ = some (.slice x1 d.image.pair.length y1) ∧ w'.cell? ⟨w2.heap.size, 2, none⟩ = some (.slice x2 d.image.log.length y2) ∧ w'.cell? ⟨w2.heap.size, 3, none⟩ = some (.slice x3 d.image.m0.length y3) ∧ w'.cell? ⟨w2.heap.size, 4, none⟩ = some (.slice x4 d.image.m1.length y4) ∧ w'.cell? ⟨w2.heap.size + 1, 0, none⟩ = some (.slice a0 pv2.length b0) ∧ w'.cell? ⟨w2.heap.size + 1, 1, none⟩ = some (.slice a1 d.lasts.pair.length b1) ∧ w'.cell? ⟨w2.heap.size + 1, 2, none⟩ = some (.slice a2 d.lasts.log.length b2) ∧ w'.cell? ⟨w2.heap.size + 1, 3, none⟩ = some (.slice a3 d.lasts.m0.length b3) ∧ w'.cell? ⟨w2.heap.size + 1, 4, none⟩ = some (.slice a4 d.lasts.m1.length b4))
            (first
              | (with_reducible exact ⟨kx.cell i0 (by simp), kx.cell i1 (by simp), kx.cell i2 (by simp), kx.cell i3 (by simp), kx.cell i4 (by simp), kx.cell j0 (by simp), kx.cell j1 (by simp), kx.cell j2 (by simp), kx.cell j3 (by simp), kx.cell j4 (by simp)⟩)
              | fail)
            (first
              | (go_at_call 19; clear tokb0; refine (fImage _ (d) A _ (PDd.out.kept kx (by simp))).mono ?_; rintro r wb0 ⟨VD1, rfl, hVD1, kn⟩; replace kx := kx.then kn; clear kn)
              | (go_at_call 21; clear tokb1; refine (sameImages_eq VD1 ⟨.slice x0 pv1.length y0, pv1, .slice x1 d.image.pair.length y1, .slice x2 d.image.log.length y2, .slice x3 d.image.m0.length y3, .slice x4 d.image.m1.length y4⟩ d.image _ (by exact hVD1.see) (by exact S1.out.kept kx)).mono ?_; rintro r wb1 ⟨rfl, kn⟩; replace kx := kx.then kn; clear kn)
              | (go_at_call 17; clear tokb2; refine (fLasts _ (d) A _ (PDd.out.kept kx (by simp))).mono ?_; rintro r wb2 ⟨VD2, rfl, hVD2, kn⟩; replace kx := kx.then kn; clear kn)
              | (go_at_call 21; clear tokb3; refine (sameImages_eq VD2 ⟨.slice a0 pv2.length b0, pv2, .slice a1 d.lasts.pair.length b1, .slice a2 d.lasts.log.length b2, .slice a3 d.lasts.m0.length b3, .slice a4 d.lasts.m1.length b4⟩ d.lasts _ (by exact hVD2.see) (by exact S2.out.kept kx)).mono ?_; rintro r wb3 ⟨rfl, kn⟩; replace kx := kx.then kn; clear kn)
              | fail)
          have hcp := fCopy _ d A _ (PDd.out.kept kx (by simp)) (by have := HFEW.out; omega)
          go_wp2_with fail
          refine hcp.mono ?_
          clear hcp
          rintro r w10 ⟨uc, rfl, FC, pc, fc, k10, -⟩
          obtain ⟨gc, rfl⟩ := pc.ptr
          have kA := kx.then k10
          have PE0 : Hid (PF w10 (.pointer (some ⟨gv, 0, none⟩)) d A) := PDd.out.kept kA (by simp)
          have hlow : ∀ x ∈ FC.own, w6.heap.size ≤ x := fun x hx => Nat.le_trans kx.size (fc x hx)
          go_wp2_with fail
          refine (fDead _ d.copy FC w10 pc).mono ?_
          rintro r w11 ⟨rfl, k11⟩
          rw [show d.copy.dead = false from rfl]
          go_wp2_with fail
          refine (fActs _ d.copy FC w11 (pc.kept k11 (by simp))).mono ?_
          rintro r w12 ⟨rfl, k12⟩
          rw [show d.copy.acts = 0 from rfl]
          have p12 := (pc.kept k11 (by simp)).kept k12 (by simp)
          have hsm := fSyncMasters _ d.copy FC w12 p12 (by have := HFEW.out; show d.loose.length * 40 ≤ _; omega)
          rw [show aliveE d.copy = 0 from rfl] at hsm
          go_wp2_with fail
          refine hsm.mono ?_
          clear hsm
          rintro r w13 ⟨F13, rfl, p13, x13⟩
          have hsy := fSync _ (d.copy.sync true) F13 w13 p13 (by have := HFEW.out; have := List.length_filter_le (fun x : Nat × List UInt8 => !(isMaster d.np x.1 == true)) d.loose; have e : (d.copy.sync true).loose = d.loose.filter (fun x => !(isMaster d.np x.1 == true)) := rfl; rw [e]; omega)
          rw [show aliveE (d.copy.sync true) = 0 from rfl] at hsy
          go_wp2_with fail
          refine hsy.mono ?_
          clear hsy
          rintro r w14 ⟨F14, rfl, p14, x14⟩
          have hsl := fSyncLog _ ((d.copy.sync true).sync false) F14 w14 p14
          rw [show aliveE ((d.copy.sync true).sync false) = 0 from rfl] at hsl
          go_wp2_with fail
          refine hsl.mono ?_
          clear hsl
          rintro r w15 ⟨FS, rfl, p15, x15⟩
          have hac := fActs _ d.synced FS w15 p15
          rw [(synced_image d).2.2] at hac
          go_wp2_with fail
          refine hac.mono ?_
          clear hac
          rintro r w16 ⟨rfl, k16⟩
          have s10 := k10.size
          have n13 : ∀ x ∈ F13.own, w6.heap.size ≤ x := fun x hx => by have := kA.size; have := (k11.then k12).size; rcases x13.2.1 x hx with c | c; exact hlow x c; omega
          have n14 : ∀ x ∈ F14.own, w6.heap.size ≤ x := fun x hx => by have := kA.size; have := (k11.then k12).size; have := x13.1.size; rcases x14.2.1 x hx with c | c; exact n13 x c; omega
          have kB : Kept [] w6 w16 := (((((kA.then k11).then k12).trans x13.1 (fun x hx => .inr (hlow x hx))).trans x14.1 (fun x hx => .inr (n13 x hx))).trans x15.1 (fun x hx => .inr (n14 x hx))).then k16
          have PC : Hid (PF w16 (.pointer (some ⟨gc, 0, none⟩)) d.synced FS) := p15.kept k16 (by simp)
          have PE : Hid (PF w16 (.pointer (some ⟨gv, 0, none⟩)) d A) := PDd.out.kept kB (by simp)
          have T1 : Hid (SeeIm w16 ⟨.slice x0 pv1.length y0, pv1, .slice x1 d.image.pair.length y1, .slice x2 d.image.log.length y2, .slice x3 d.image.m0.length y3, .slice x4 d.image.m1.length y4⟩ d.image) := S1.out.kept kB
          have T2 : Hid (SeeIm w16 ⟨.slice a0 pv2.length b0, pv2, .slice a1 d.lasts.pair.length b1, .slice a2 d.lasts.log.length b2, .slice a3 d.lasts.m0.length b3, .slice a4 d.lasts.m1.length b4⟩ d.lasts) := S2.out.kept kB
          have mi0 := kB.cell i0 (by simp)
          have mi1 := kB.cell i1 (by simp)
          have mi2 := kB.cell i2 (by simp)
          have mi3 := kB.cell i3 (by simp)
          have mi4 := kB.cell i4 (by simp)
          have mj0 := kB.cell j0 (by simp)
          have mj1 := kB.cell j1 (by simp)
          have mj2 := kB.cell j2 (by simp)
          have mj3 := kB.cell j3 (by simp)
          have mj4 := kB.cell j4 (by simp)
          have kz : Kept [] w16 w16.drew := (Kept.refl [] w16).drew
          clear kA k11 k12 k16 x13 x14 x15 p12 p13 p14 p15 n13 n14 hlow pc fc k10 kx s10
          go_wp2_with fail
          have tokc0 : True := trivial
          have tokc1 : True := trivial
          have tokc2 : True := trivial
          have tokc3 : True := trivial
          have tokc4 : True := trivial
          have tokc5 : True := trivial
          go_region_held3 (fun w' => w'.cell? ⟨w2.heap.size, 0, none⟩ = some (.slice x0 pv1.length y0) ∧ w'.cell? ⟨w2.heap.size, 1, none⟩ = some (.slice x1 d.image.pair.length y1) ∧ w'.cell? ⟨w2.heap.size, 2, none⟩ = some (.slice x2 d.image.log.length y2) ∧ w'.cell? ⟨w2.heap.size, 3, none⟩ = some (.slice x3 d.image.m0.length y3) ∧ w'.cell? ⟨w2.heap.size, 4, none⟩ = some (.slice x4 d.image.m1.length y4) ∧ w'.cell? ⟨w2.heap.size + 1, 0, none⟩ = some (.slice a0 pv2.length b0) ∧ w'.cell? ⟨w2.heap.size + 1, 1, none⟩ = some (.slice a1 d.lasts.pair.length b1) ∧ w'.cell? ⟨w2.heap.size + 1, 2, none⟩ = some (.slice a2 d.lasts.log.length b2) ∧ w'.cell? ⟨w2.heap.size + 1, 3, none⟩ = some (.slice a3 d.lasts.m0.length b3) ∧ w'.cell? ⟨w2.heap.size + 1, 4, none⟩ = some (.slice a4 d.lasts.m1.length b4))
            (first
              | (with_reducible exact ⟨kz.cell mi0 (by simp), kz.cell mi1 (by simp), kz.cell mi2 (by simp), kz.cell mi3 (by simp), kz.cell mi4 (by simp), kz.cell mj0 (by simp), kz.cell mj1 (by simp), kz.cell mj2 (by simp), kz.cell mj3 (by simp), kz.cell mj4 (by simp)⟩)
              | fail)
            (first
              | (go_at_call 17; clear tokc0; refine (fLasts _ (d.synced) FS _ (PC.out.kept kz (by simp))).mono ?_; rintro r wc0 ⟨VC1, rfl, hVC1, kn⟩; rw [(synced_image d).2.1] at hVC1; replace kz := kz.then kn; clear kn)
              | (go_at_call 21; clear tokc1; refine (sameImages_eq VC1 ⟨.slice x0 pv1.length y0, pv1, .slice x1 d.image.pair.length y1, .slice x2 d.image.log.length y2, .slice x3 d.image.m0.length y3, .slice x4 d.image.m1.length y4⟩ d.image _ (by exact hVC1.see) (by exact T1.out.kept kz)).mono ?_; rintro r wc1 ⟨rfl, kn⟩; replace kz := kz.then kn; clear kn)
              | (go_at_call 19; clear tokc2; refine (fImage _ (d.synced) FS _ (PC.out.kept kz (by simp))).mono ?_; rintro r wc2 ⟨VC2, rfl, hVC2, kn⟩; rw [(synced_image d).1] at hVC2; replace kz := kz.then kn; clear kn)
              | (go_at_call 21; clear tokc3; refine (sameImages_eq VC2 ⟨.slice x0 pv1.length y0, pv1, .slice x1 d.image.pair.length y1, .slice x2 d.image.log.length y2, .slice x3 d.image.m0.length y3, .slice x4 d.image.m1.length y4⟩ d.image _ (by exact hVC2.see) (by exact T1.out.kept kz)).mono ?_; rintro r wc3 ⟨rfl, kn⟩; replace kz := kz.then kn; clear kn)
              | (go_at_call 17; clear tokc4; refine (fLasts _ (d) A _ (PE.out.kept kz (by simp))).mono ?_; rintro r wc4 ⟨VC3, rfl, hVC3, kn⟩; replace kz := kz.then kn; clear kn)
              | (go_at_call 21; clear tokc5; refine (sameImages_eq VC3 ⟨.slice a0 pv2.length b0, pv2, .slice a1 d.lasts.pair.length b1, .slice a2 d.lasts.log.length b2, .slice a3 d.lasts.m0.length b3, .slice a4 d.lasts.m1.length b4⟩ d.lasts _ (by exact hVC3.see) (by exact T2.out.kept kz)).mono ?_; rintro r wc5 ⟨rfl, kn⟩; replace kz := kz.then kn; clear kn)
              | fail)
          have KF := KW6.out.then (kB.then kz)
          clear kz kB
          go_wp2
          go_roundw
          case rel => exact ⟨t + 1, by omega, by go_num, kq.then KF⟩
          case measure => simp [intOf]; omega
        · have htl' : ¬ (t : Int) < (E.length : Int) := by omega
          go_wp2
          go_ret
          exact ⟨rfl, KR.out.then kq⟩
end Go.Proofs.Ytmipmiaflompmaa

/-
  OWN WORK. A shape and an image that came in.
-/
namespace Go.Proofs.Ytmipmiaflompmaa
open Go.ChangeShapes Go.WideShapes Go.ChangeAt Go.RowKit Go.Deep
set_option linter.unusedVariables false

theorem two_of {α : Type} {l : List α} (h : l.length = 2) : ∃ a b, l = [a, b] := by
  match l, h with
  | [a, b], _ => exact ⟨a, b, rfl⟩
theorem three_of {α : Type} {l : List α} (h : l.length = 3) : ∃ a b c, l = [a, b, c] := by
  match l, h with
  | [a, b, c], _ => exact ⟨a, b, c, rfl⟩
theorem four_of {α : Type} {l : List α} (h : l.length = 4) : ∃ a b c d, l = [a, b, c, d] := by
  match l, h with
  | [a, b, c, d], _ => exact ⟨a, b, c, d, rfl⟩
theorem five_of {α : Type} {l : List α} (h : l.length = 5) : ∃ a b c d e, l = [a, b, c, d, e] := by
  match l, h with
  | [a, b, c, d, e], _ => exact ⟨a, b, c, d, e, rfl⟩
theorem shape_open {H : Type} {enc : TypeId × Value → H} {W : World} {t : TypeId} {f0 f1 f2 : Field} {cs : Array Value} {d : DataW H} {p : List MemPlace} (ht : Try.prog.underlying t = some (.struct #[f0, f1, f2])) (hsz : cs.size = 3)
    (o0 : f0.offset = 0) (o1 : f1.offset = 1) (o2 : f2.offset = 2) (c0 : Try.prog.cellsOf f0.type = 1) (c1 : Try.prog.cellsOf f1.type = 1) (c2 : Try.prog.cellsOf f2.type = 1)
    (t0 : Try.prog.underlying f0.type = some (.int .i64)) (t1 : Try.prog.underlying f1.type = some (.int .i64)) (t2 : Try.prog.underlying f2.type = some (.int .i64))
    (h : DataW.Trod enc Try.prog W 0 (fun _ => true) true t (.agg cs) d p) : ∃ a b c : Int, cs = #[.int .i64 a, .int .i64 b, .int .i64 c] := by
  obtain ⟨fuel, hf⟩ := h
  obtain ⟨xs, k, hk, hxy, _, hxl, hff⟩ := DataW.trod_struct ht hf
  obtain ⟨y0, y1, y2, rfl⟩ := three_of (show xs.length = 3 from hxl)
  obtain ⟨v0, v1, v2, hv⟩ := three_of (show cs.toList.length = 3 by simpa using hsz)
  have q0 := hff 0 f0 rfl
  have q1 := hff 1 f1 rfl
  have q2 := hff 2 f2 rfl
  simp [Value.cells, hv, o0, o1, o2, c0, c1, c2] at q0 q1 q2
  obtain ⟨z0, e0, -, -⟩ := DataW.trod_int t0 q0
  obtain ⟨z1, e1, -, -⟩ := DataW.trod_int t1 q1
  obtain ⟨z2, e2, -, -⟩ := DataW.trod_int t2 q2
  simp at e0 e1 e2
  subst e0 e1 e2
  exact ⟨z0, z1, z2, by rw [← Array.toArray_toList (xs := cs), hv]⟩
theorem image_open {H : Type} {enc : TypeId × Value → H} {W : World} {t e q : TypeId} {f0 f1 f2 f3 : Field} {cs : Array Value} {d : DataW H} {p : List MemPlace} (ht : Try.prog.underlying t = some (.struct #[f0, f1, f2, f3])) (hsz : cs.size = 5)
    (o0 : f0.offset = 0) (o1 : f1.offset = 1) (o2 : f2.offset = 2) (o3 : f3.offset = 3) (c0 : Try.prog.cellsOf f0.type = 1) (c1 : Try.prog.cellsOf f1.type = 1) (c2 : Try.prog.cellsOf f2.type = 1) (c3 : Try.prog.cellsOf f3.type = 2)
    (t0 : Try.prog.underlying f0.type = some (.slice e)) (te : Try.prog.underlying e = some (.slice q)) (tq : Try.prog.underlying q = some (.int .u8)) (ce : Try.prog.cellsOf e = 1) (cq : Try.prog.cellsOf q = 1)
    (t1 : Try.prog.underlying f1.type = some (.slice q)) (t2 : Try.prog.underlying f2.type = some (.slice q)) (t3 : Try.prog.underlying f3.type = some (.array 2 e))
    (h : DataW.Trod enc Try.prog W 0 (fun _ => true) true t (.agg cs) d p) : ∃ (V : IV) (m : IM), Value.agg cs = V.agg ∧ SeeIm W V m ∧ ∀ r, (d.weights Try.prog t).all (· ≤ r) = true → V.pv.length * Try.prog.bytesOf e ≤ r := by
  obtain ⟨fuel, hf⟩ := h
  obtain ⟨xs, k, hk, hxy, _, hxl, hff⟩ := DataW.trod_struct ht hf
  obtain ⟨y0, y1, y2, y3, rfl⟩ := four_of (show xs.length = 4 from hxl)
  obtain ⟨v0, v1, v2, v3, v4, hv⟩ := five_of (show cs.toList.length = 5 by simpa using hsz)
  have q0 := hff 0 f0 rfl
  have q1 := hff 1 f1 rfl
  have q2 := hff 2 f2 rfl
  have q3 := hff 3 f3 rfl
  simp [Value.cells, hv, o0, o1, o2, o3, c0, c1, c2, c3] at q0 q1 q2 q3
  obtain ⟨l1, b1⟩ := bsV_open t1 tq cq q1
  obtain ⟨l2, b2⟩ := bsV_open t2 tq cq q2
  obtain ⟨zs, n, -, -, -, hzl, ha⟩ := DataW.trod_array t3 q3
  obtain ⟨z0, z1, rfl⟩ := two_of hzl
  have a0 := ha 0 (by omega)
  have a1 := ha 1 (by omega)
  rw [ce] at a0 a1
  simp at a0 a1
  obtain ⟨l3, b3⟩ := bsV_open te tq cq a0
  obtain ⟨l4, b4⟩ := bsV_open te tq cq a1
  have hcs : cs = #[v0, v1, v2, v3, v4] := by rw [← Array.toArray_toList (xs := cs), hv]
  subst hcs
  rcases open_int_rows t0 te tq ce cq q0 with ⟨hc, -⟩ | ⟨a, len, cap, A, L, C, Z, hc, -, hl, hm, hx0, hr⟩
  · simp at hc
    subst hc
    exact ⟨⟨.slice none 0 0, [], v1, v2, v3, v4⟩, ⟨[], l1, l2, l3, l4⟩, rfl, ⟨⟨none, 0, rfl, Nat.le_refl _, by simp [maxLen], fun a e => (by cases e), fun _ => rfl⟩, rfl, fun i v l hv => (by simp at hv), b1, b2, b3, b4⟩, fun r _ => by simp⟩
  · simp at hc
    subst hc
    have hlr : ∀ r, r < cap → (bytesOfInts ((Z r).take (L r))).length = L r := fun r h => by
      obtain ⟨_, g1, _, g3, _⟩ := hr r h
      rw [bytes_length, List.length_take]; omega
    refine ⟨⟨.slice (some a) len cap, (List.range len).map fun r => .slice (A r) (L r) (C r), v1, v2, v3, v4⟩, ⟨(List.range len).map fun r => bytesOfInts ((Z r).take (L r)), l1, l2, l3, l4⟩, rfl, ⟨⟨some a, cap, by simp, by simpa using hl, hm, fun a' e i v hv => ?_, fun e => (by cases e)⟩, by simp, fun i v l hv hll => ?_, b1, b2, b3, b4⟩, fun r hw => ?_⟩
    · cases e
      simp only [List.getElem?_map] at hv
      obtain ⟨r, hr1, rfl⟩ := Option.map_eq_some_iff.1 hv
      obtain ⟨hr2, rfl⟩ := List.getElem?_eq_some_iff.1 hr1
      have hr3 : i < len := by simpa using hr2
      simp only [List.getElem_range]
      exact (hr i (by omega)).1
    · simp only [List.getElem?_map] at hv hll
      obtain ⟨r, hr1, rfl⟩ := Option.map_eq_some_iff.1 hv
      rw [hr1] at hll
      obtain ⟨hr2, rfl⟩ := List.getElem?_eq_some_iff.1 hr1
      have hr3 : i < len := by simpa using hr2
      simp at hll
      subst hll
      simp only [List.getElem_range]
      obtain ⟨k1, k2, k3, k4, k5, k6, k7⟩ := hr i (by omega)
      exact bs_cells k2 k3 k4 k6 (fun a' ha j hj => (k7 a' ha).2 j hj) k5
    · have hd : d = .agg [y0.1, y1.1, y2.1, y3.1] := by simpa using congrArg Prod.fst hxy
      have hmem : (len + (cap - len)) * Try.prog.bytesOf e ∈ d.weights Try.prog t := by
        rw [hd, hx0]
        simp [DataW.weights, ht, DataW.weightsEach, t0]
      have h9 := List.all_eq_true.1 hw _ hmem
      simp only [decide_eq_true_eq] at h9
      simp only [List.length_map, List.length_range]
      exact Nat.le_trans (Nat.mul_le_mul_right _ (by omega)) h9
end Go.Proofs.Ytmipmiaflompmaa

/-
  OWN WORK. THE STATEMENT, out of the walk.
-/
namespace Go.Proofs.Ytmipmiaflompmaa.diskEnds
open Go.ChangeShapes Go.WideShapes Go.ChangeAt Go.RowKit
set_option linter.unusedVariables false
set_option maxRecDepth 100000 in
theorem contract (H : Type) (enc : TypeId × Value → H) (W : World) (base : Nat) (args : Array Value) (ds gs : List (DataW H)) (before : List MemPlace)
    (hval : ∀ (j : Nat) t v, Try.f5.params[j]? = some t → args[j]? = some v → Value.okWide Try.prog W .any base t v)
    (hW : DataW.Whole enc Try.prog Try.f5.params.toList Rows.diskEndsSpec.vars false W args.toList ds gs before) (hsz : (DataW.weightsEach Try.prog (Try.f5.params.toList ++ Rows.diskEndsSpec.plain.varTypes Try.prog) (ds ++ gs)).all (· ≤ reachBytes) = true) :
    Calls Try.prog 5 args W fun e W' => ∃ v, e = .returned v ∧ Rows.diskEndsSpec.post enc Try.prog Try.f5 false true false false W args v W' := by
  have hW' := hW
  obtain ⟨p, q, hA0, hV, rfl, hfz, hnd⟩ := hW
  have hA : DataW.TrodAll enc Try.prog W 0 (fun _ => true) true Try.f5.params.toList args.toList ds p := hA0
  rw [Try.params5] at hA hval hsz
  obtain ⟨v0, vs0, d0, ds0, p0, q0, hargs, rfl, rfl, h0, r0⟩ := trodAll_cons hA
  obtain ⟨v1, vs1, d1, ds1, p1, q1, rfl, rfl, rfl, h1, r1⟩ := trodAll_cons r0
  obtain ⟨v2, vs2, d2, ds2, p2, q2, rfl, rfl, rfl, h2, r2⟩ := trodAll_cons r1
  obtain ⟨rfl, rfl, rfl⟩ := trodAll_nil r2
  obtain rfl : args = #[v0, v1, v2] := by cases args; simp_all
  obtain ⟨rfl, rfl⟩ := trodVars_none hV
  have hv0 : Value.okWide Try.prog W .any base 23 v0 := hval 0 23 v0 (by rfl) (by rfl)
  obtain ⟨cs0, rfl, sz0⟩ := okWide_struct (P := Try.prog) (t := 23) Try.underlying23 hv0
  clear hv0
  have lt0 : ∀ x ∈ p0, x.block < W.heap.size := by obtain ⟨m, hm⟩ := h0; exact DataW.trod_lt m _ _ _ hm
  obtain ⟨sa0, sb0, sc0, rfl⟩ := shape_open Try.underlying23 (sz0.trans (by kernel_rfl)) rfl rfl rfl (by kernel_rfl) (by kernel_rfl) (by kernel_rfl) (by kernel_rfl) (by kernel_rfl) (by kernel_rfl) h0
  have hv1 : Value.okWide Try.prog W .any base 43 v1 := hval 1 43 v1 (by rfl) (by rfl)
  obtain ⟨cs1, rfl, sz1⟩ := okWide_struct (P := Try.prog) (t := 43) Try.underlying43 hv1
  clear hv1
  have lt1 : ∀ x ∈ p1, x.block < W.heap.size := by obtain ⟨m, hm⟩ := h1; exact DataW.trod_lt m _ _ _ hm
  obtain ⟨V1, im1, hag1, see1, wt1⟩ := image_open Try.underlying43 (sz1.trans (by kernel_rfl)) rfl rfl rfl rfl (by kernel_rfl) (by kernel_rfl) (by kernel_rfl) (by kernel_rfl) Try.underlying40 Try.underlying33 Try.underlying5 (by kernel_rfl) (by kernel_rfl) Try.underlying33 Try.underlying33 Try.underlying41 h1
  have hc1 : cs1 = #[V1.vp, V1.pair, V1.log, V1.m0, V1.m1] := by unfold IV.agg at hag1; exact Value.agg.inj hag1
  subst hc1
  clear hag1
  obtain ⟨ao2, len2, cap2, rfl⟩ := okWide_slice Try.underlying49 (hval 2 49 v2 rfl rfl)
  have lt2 : ∀ x ∈ p2, x.block < W.heap.size := by obtain ⟨m, hm⟩ := h2; exact DataW.trod_lt m _ _ _ hm
  obtain ⟨l2, hl2, B2, dd2⟩ := ops_open Try.underlying49 Try.underlying59 (by kernel_rfl) rfl rfl rfl rfl rfl rfl (by kernel_rfl) (by kernel_rfl) (by kernel_rfl) (by kernel_rfl) (by kernel_rfl) (by kernel_rfl) (by kernel_rfl) (by kernel_rfl) (by kernel_rfl) (by kernel_rfl) Try.underlying33 Try.underlying5 (by kernel_rfl) Try.underlying39 rfl rfl (by kernel_rfl) (by kernel_rfl) (by kernel_rfl) Try.underlying37 (by kernel_rfl) (by kernel_rfl) h2
  clear hA0
  have szop : l2.length * 88 ≤ 140737488351232 := by
    rcases dd2 with ⟨_, e⟩ | ⟨el, sp, rfl, e⟩
    · rw [hl2, e]; omega
    · have := sized_slice hsz (j := 2) (t := 49) rfl rfl Try.underlying49
      rw [show Try.prog.bytesOf 59 = 88 by kernel_rfl] at this
      simp only [reachBytes] at this
      rw [hl2, ← e]
      omega
  have hpc : (V1.pv.length + 3) * 24 ≤ 140737488355328 := by
    have := wt1 reachBytes (List.all_eq_true.2 fun n hn => List.all_eq_true.1 hsz n (DataW.weights_mem_each (j := 1) rfl rfl n hn))
    rw [show Try.prog.bytesOf 33 = 24 by kernel_rfl] at this
    simp only [reachBytes] at this
    omega
  refine (diskEnds_walk sa0 sb0 sc0 V1 im1 _ l2 W see1 hpc B2 (by omega)).mono fun e W' ⟨he, kp⟩ => ?_
  subst he
  have bel := kp.below
  exact ⟨_, rfl, _, _, _, [], _, [], hW', trodAll_mk1 (shut_bool Try.underlying4 _), (trodAll_cons_mk (Below.trod laidOut (by kernel_rfl) (of_decide_eq_true (by kernel_rfl)) h0 bel lt0) (trodAll_cons_mk (Below.trod laidOut (by kernel_rfl) (of_decide_eq_true (by kernel_rfl)) h1 bel lt1) (trodAll_cons_mk (Below.trod laidOut (by kernel_rfl) (of_decide_eq_true (by kernel_rfl)) h2 bel lt2) trodAll_mk0))), rfl, bel.frame _, fun h => by cases h⟩

set_option maxRecDepth 100000 in
theorem lifted (os : Os) (started : os.Started) (H : Type) (enc : TypeId × Value → H) :
    ReturnsInHanded {} Try.checked os 5 .any (Rows.diskEndsSpec.pre6 enc Try.prog Try.f5 Rows.diskEndsRow.domain false) (Rows.diskEndsSpec.post enc Try.prog Try.f5 false true false false) := by
  refine returnsInHanded_of_change_sized (C := Try.checked) own started (by kernel_rfl) Try.func5
    (ChangeSpec.witness6 (enc := enc) (C := Try.checked) false ⟨#[], #[.agg #[.int .i64 0, .int .i64 0, .int .i64 0], .agg #[.slice none 0 0, .slice none 0 0, .slice none 0 0, .slice none 0 0, .slice none 0 0], .slice none 0 0], []⟩ 8 (by kernel_rfl) (by kernel_rfl) (by kernel_rfl) (by kernel_rfl)) ?_
  intro W base args ds gs before hval hW _ hsz _
  exact contract H enc W base args ds gs before hval hW hsz

theorem proved : Rows.DiskEndsSaid :=
  OpenClaim.holds_of_wide 5 Try.f5 rfl rfl rfl rfl rfl rfl rfl ⟨rfl, rfl, rfl, rfl, rfl⟩ rfl rfl rfl rfl rfl (by kernel_rfl) Try.func5 (by kernel_rfl)
    (of_decide_eq_true (by kernel_rfl)) (by unfold Func.isWrapper; first | (rw [if_pos (by decide +kernel)]; kernel_rfl) | (rw [if_neg (by decide +kernel)]; exact ⟨rfl, rfl⟩))
    (fun os started H enc _ => lifted os started H enc)
#print axioms proved
end Go.Proofs.Ytmipmiaflompmaa.diskEnds

