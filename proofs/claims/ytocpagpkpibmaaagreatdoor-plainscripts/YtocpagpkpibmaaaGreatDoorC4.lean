import Derived.Test.YtocpagpkpibmaaaGreatDoorC3
/-
  OWN WORK (by mkpnl.py). The law's step (layer 18), for any State.
-/
namespace Go.Proofs.YtocpagpkpibmaaaGreatDoor
open Go.RowKit
set_option linter.unusedVariables false
set_option linter.unusedSimpArgs false

theorem sNew (c : Cf) (w : World) : Calls Tryz.prog 27 #[.agg #[.int .i64 c.pages, .int .i64 c.slots, .int .i64 c.log, .int .i64 c.frames, .int .i64 c.table, .int .i64 c.keys]] w fun e w' => (mayC c ∧ ∃ g F, e = .returned (.tuple #[.pointer (some ⟨g, 0, none⟩), .int .i64 0]) ∧ Sr w' g F c ⟨[], [], 0⟩ ∧ (∀ x ∈ F, w.heap.size ≤ x) ∧ Kept [] w w') ∨ (¬ mayC c ∧ e = .returned (.tuple #[.pointer none, .int .i64 260]) ∧ Kept [] w w') := by
  refine (rNew c w).mono ?_
  rintro e w' (⟨hm, g, hg, rfl, hp, k⟩ | ⟨hm, rfl, k⟩)
  · refine .inl ⟨hm, g, _, rfl, ⟨_, _, _, _, _, hp, rfl, OkS.new hm, rfl⟩, fun x hx => ?_, k⟩
    rcases List.mem_cons.1 hx with rfl | hx
    · exact hg
    · obtain ⟨z, hz, e⟩ := mem_blks.1 hx
      unfold things at hz
      simp at hz
      rcases hz with rfl | rfl <;> cases e
  · exact .inr ⟨hm, rfl, k⟩
theorem small_few {c : Cf} {S : St} (ok : OkS c S) (h : small S) : fewC S ∧ S.done.length ≤ 4000000000000 ∧ S.done.flatten.length ≤ 4000000000000 := by
  unfold small cnt at h
  refine ⟨fun t ht => ?_, by omega, by omega⟩
  obtain ⟨k, hk⟩ := List.getElem?_of_mem ht
  have := (ok.few hk).2.1
  unfold allC
  rw [List.length_append]; omega
/-- the program's and the document's, beside one another -/
structure Two (Ks : List Nat) (Vr : World → Prop) (Pn : World → Nat → List Nat → Cf → St → Prop) (w : World) (gP : Nat) (FP : List Nat) (gR : Nat) (FR : List Nat) (c : Cf) (S : St) : Prop where
  p : Pn w gP FP c S
  r : Sr w gR FR c S
  ap : ∀ x ∈ FP, x ∉ FR
  v : Vr w
  kr : ∀ x ∈ Ks, x ∉ FR
theorem Two.then {Ks : List Nat} {Vr : World → Prop} {Pn : World → Nat → List Nat → Cf → St → Prop} (O : PnOps Ks Vr Pn) {w w' : World} {gP : Nat} {FP : List Nat} {gR : Nat} {FR : List Nat} {c : Cf} {S : St} (h : Two Ks Vr Pn w gP FP gR FR c S) (k : Kept [] w w') : Two Ks Vr Pn w' gP FP gR FR c S := ⟨O.kept h.p k (by simp), h.r.kept k (by simp), h.ap, O.vkept h.v k (by simp), h.kr⟩
/-- the program's has gone on -/
structure TwoP (Ks : List Nat) (Vr : World → Prop) (Pn : World → Nat → List Nat → Cf → St → Prop) (w : World) (gP : Nat) (FP : List Nat) (gR : Nat) (FR : List Nat) (c : Cf) (S S' : St) : Prop where
  p : Pn w gP FP c S'
  r : Sr w gR FR c S
  ap : ∀ x ∈ FP, x ∉ FR
  v : Vr w
  kr : ∀ x ∈ Ks, x ∉ FR
theorem Two.goP {Ks : List Nat} {Vr : World → Prop} {Pn : World → Nat → List Nat → Cf → St → Prop} (O : PnOps Ks Vr Pn) {w w' : World} {gP : Nat} {FP FP' : List Nat} {gR : Nat} {FR : List Nat} {c : Cf} {S S' : St} (h : Two Ks Vr Pn w gP FP gR FR c S) (p : Pn w' gP FP' c S') (fr : Fr w FP FP') (k : Kept FP w w') : TwoP Ks Vr Pn w' gP FP' gR FR c S S' :=
  ⟨p, h.r.kept k (fun x hx hm => h.ap x hm hx), fun x hx hm => by
    rcases fr x hx with q | q
    · exact h.ap x q hm
    · have := h.r.lt x hm; omega, O.vkept h.v k (O.knot h.p), h.kr⟩
theorem TwoP.then {Ks : List Nat} {Vr : World → Prop} {Pn : World → Nat → List Nat → Cf → St → Prop} (O : PnOps Ks Vr Pn) {w w' : World} {gP : Nat} {FP : List Nat} {gR : Nat} {FR : List Nat} {c : Cf} {S S' : St} (h : TwoP Ks Vr Pn w gP FP gR FR c S S') (k : Kept [] w w') : TwoP Ks Vr Pn w' gP FP gR FR c S S' := ⟨O.kept h.p k (by simp), h.r.kept k (by simp), h.ap, O.vkept h.v k (by simp), h.kr⟩
theorem TwoP.goR {Ks : List Nat} {Vr : World → Prop} {Pn : World → Nat → List Nat → Cf → St → Prop} (O : PnOps Ks Vr Pn) {w w' : World} {gP : Nat} {FP : List Nat} {gR : Nat} {FR FR' : List Nat} {c : Cf} {S S' : St} (h : TwoP Ks Vr Pn w gP FP gR FR c S S') (r : Sr w' gR FR' c S') (fr : Fr w FR FR') (k : Kept FR w w') : Two Ks Vr Pn w' gP FP gR FR' c S' :=
  ⟨O.kept h.p k h.ap, r, fun x hx hm => by
    rcases fr x hm with q | q
    · exact h.ap x hx q
    · have := O.lt h.p x hx; omega, O.vkept h.v k h.kr, fun x hx hm => by
    rcases fr x hm with q | q
    · exact h.kr x hx q
    · have := O.vlt h.v x hx; omega⟩
variable {Ks : List Nat} {Vr : World → Prop} {Pn : World → Nat → List Nat → Cf → St → Prop} (O : PnOps Ks Vr Pn)
include O
set_option maxRecDepth 20000 in
set_option maxHeartbeats 6400000 in
theorem step_any {gP gR : Nat} {FP FR : List Nat} {c : Cf} {S : St} (o : OpR) (w : World) (h : Two Ks Vr Pn w gP FP gR FR c S) (hs : small S) (ho : o.ok) : Calls Tryz.prog 28 #[.pointer (some ⟨gP, 0, none⟩), .pointer (some ⟨gR, 0, none⟩), o.v5] w fun e w' => e = .returned (.bool true) ∧ ∃ FP' FR', Two Ks Vr Pn w' gP FP' gR FR' c (stS c S o) ∧ Fr w FP FP' ∧ Fr w FR FR' ∧ Kept (FP ++ FR) w w' := by
  show Calls Tryz.prog 28 #[.pointer (some ⟨gP, 0, none⟩), .pointer (some ⟨gR, 0, none⟩), .agg #[.int .i64 o.kind, .int .i64 o.id, .int .i64 o.key, .int .u64 o.v, .int .i64 o.n]] w _
  obtain ⟨w1, hw1⟩ : ∃ wx, wx = w.alloc (.cells #[.int .i64 o.kind, .int .i64 o.id, .int .i64 o.key, .int .u64 o.v, .int .i64 o.n] 66) := ⟨_, rfl⟩
  have k1 : Kept [] w w1 := by rw [hw1]; exact (Kept.refl [] w).alloc _
  have X1 : Blk w1 w.heap.size 66 [.int .i64 o.kind, .int .i64 o.id, .int .i64 o.key, .int .u64 o.v, .int .i64 o.n] := by rw [hw1]; exact Blk.new w _ _
  have y0 := X1.cell (j := 0) rfl
  have y1 := X1.cell (j := 1) rfl
  have y2 := X1.cell (j := 2) rfl
  have y3 := X1.cell (j := 3) rfl
  have y4 := X1.cell (j := 4) rfl
  have HT := @hideH _ (h.then O k1)
  have HK1 := @hideH _ k1
  have HSM := @hideH _ (And.intro hs (small_few h.r.ok hs))
  have HO := @hideH _ ho
  have HLT := @hideH _ (And.intro (O.lt h.p) h.r.lt)
  clear h hs ho k1 X1
  go_enter Tryz.func28, Tryz.ntmps28
  go_upto_region 1 with fail
  rw [← hw1]
  clear hw1
  have HNI := @hideH _ (show w.heap.size ∉ FP ++ FR from fun hm => by rcases List.mem_append.1 hm with q | q; (have := HLT.out.1 _ q; omega); (have := HLT.out.2 _ q; omega))
  by_cases q1 : o.kind = 1
  · skip
    have q1' : (o.kind == 1) = true := by simpa using q1
    have HE := @hideH _ (show stS c S o = begS c S o.id by unfold stS;  rw [if_pos q1])
    clear q1
    go_upto_region 3 with fail
    have kx : Kept (FP ++ FR) w1 w1.drew := ((Kept.refl [] w1).drew).mono (by simp)
    have TX := HT.out.then O ((Kept.refl [] w1).drew)
    go_region_held3 (fun w' => w'.cell? ⟨w.heap.size, 1, none⟩ = some (.int .i64 o.id))
      (first
        | (exact kx.cell y1 HNI.out)
        | fail)
      (first
        | (go_at_call 19; refine (O.begin_ o.id _ TX.v TX.p HSM.out.1 HO.out.1).mono ?_; rintro e wa ⟨FP', rfl, p', f', k'⟩; have TP := TX.goP O p' f' k'; have FRP := f'.old (w := w) (Nat.le_trans HK1.out.size kx.size); replace kx := kx.trans k' (fun y hy => .inl (List.mem_append_left _ hy)); clear p' f' k')
        | (go_at_call 11; refine (num_any _ _).mono ?_; rintro e wb ⟨rfl, hwb⟩; rw [hwb]; clear hwb)
        | (go_at_call 47; refine (rBegin o.id _ TP.r).mono ?_; rintro e wc ⟨FR', rfl, r', g', j'⟩; have TW := TP.goR O r' g' j'; have FRR := g'.old (w := w) (Nat.le_trans HK1.out.size kx.size); replace kx := kx.trans j' (fun y hy => .inl (List.mem_append_right _ hy)); clear r' g' j')
        | fail)
    have HFN := @hideH _ (And.intro TW (And.intro FRP (And.intro FRR kx)))
    clear TW FRP FRR kx
    go_wp2
    go_ret
    exact ⟨by first | rfl | simp, _, _, by rw [HE.out]; exact HFN.out.1, HFN.out.2.1, HFN.out.2.2.1, (HK1.out.mono (T := FP ++ FR) (by simp)).trans HFN.out.2.2.2 (fun y hy => .inl hy)⟩
  have q1' : (o.kind == 1) = false := by simpa using q1
  by_cases q2 : o.kind = 2
  · skip
    have q2' : (o.kind == 2) = true := by simpa using q2
    have HE := @hideH _ (show stS c S o = getS c S o.id o.key by unfold stS; rw [if_neg q1]; rw [if_pos q2])
    clear q2
    clear q1
    have kx : Kept (FP ++ FR) w1 w1 := Kept.refl _ _
    have TX := HT.out
    go_wp2_with fail
    refine (O.get o.id o.key _ TX.v TX.p HSM.out.1 HO.out.1 HO.out.2.1).mono ?_
    rintro e wa ⟨FP', rfl, p', f', k'⟩
    have TP := TX.goP O p' f' k'
    have FRP := f'.old (w := w) (Nat.le_trans HK1.out.size kx.size)
    replace kx := kx.trans k' (fun y hy => .inl (List.mem_append_left _ hy))
    clear p' f' k'
    replace y1 := kx.cell y1 HNI.out
    replace y2 := kx.cell y2 HNI.out
    go_wp2_with fail
    refine (rGet o.id o.key _ TP.r).mono ?_
    rintro e wc ⟨FR', rfl, r', g', j'⟩
    have TW := TP.goR O r' g' j'
    have FRR := g'.old (w := w) (Nat.le_trans HK1.out.size kx.size)
    replace kx := kx.trans j' (fun y hy => .inl (List.mem_append_right _ hy))
    clear r' g' j'
    clear y0 y1 y2 y3 y4
    go_wp2_with fail
    refine (num_any _ _).mono ?_
    rintro e wb ⟨rfl, hwb⟩
    rw [hwb]
    clear hwb
    have HFN := @hideH _ (And.intro TW (And.intro FRP (And.intro FRR kx)))
    clear TW FRP FRR kx
    go_wp2
    go_ret
    exact ⟨by first | rfl | simp, _, _, by rw [HE.out]; exact HFN.out.1, HFN.out.2.1, HFN.out.2.2.1, (HK1.out.mono (T := FP ++ FR) (by simp)).trans HFN.out.2.2.2 (fun y hy => .inl hy)⟩
  have q2' : (o.kind == 2) = false := by simpa using q2
  by_cases q3 : o.kind = 3
  · skip
    have q3' : (o.kind == 3) = true := by simpa using q3
    have HE := @hideH _ (show stS c S o = putS c S o.id o.key o.v by unfold stS; rw [if_neg q1]; rw [if_neg q2]; rw [if_pos q3])
    clear q3
    clear q1
    clear q2
    go_upto_region 9 with fail
    have kx : Kept (FP ++ FR) w1 w1.drew := ((Kept.refl [] w1).drew).mono (by simp)
    have TX := HT.out.then O ((Kept.refl [] w1).drew)
    go_region_held3 (fun w' => w'.cell? ⟨w.heap.size, 1, none⟩ = some (.int .i64 o.id) ∧ w'.cell? ⟨w.heap.size, 2, none⟩ = some (.int .i64 o.key) ∧ w'.cell? ⟨w.heap.size, 3, none⟩ = some (.int .u64 o.v))
      (first
        | (exact ⟨kx.cell y1 HNI.out, kx.cell y2 HNI.out, kx.cell y3 HNI.out⟩)
        | fail)
      (first
        | (go_at_call 22; refine (O.put o.id o.key o.v _ TX.v TX.p HSM.out.1 HO.out.1 HO.out.2.1 HO.out.2.2.1).mono ?_; rintro e wa ⟨FP', rfl, p', f', k'⟩; have TP := TX.goP O p' f' k'; have FRP := f'.old (w := w) (Nat.le_trans HK1.out.size kx.size); replace kx := kx.trans k' (fun y hy => .inl (List.mem_append_left _ hy)); clear p' f' k')
        | (go_at_call 11; refine (num_any _ _).mono ?_; rintro e wb ⟨rfl, hwb⟩; rw [hwb]; clear hwb)
        | (go_at_call 49; refine (rPut o.id o.key o.v _ TP.r HO.out.2.2.1 HSM.out.2.1).mono ?_; rintro e wc ⟨FR', rfl, r', g', j'⟩; have TW := TP.goR O r' g' j'; have FRR := g'.old (w := w) (Nat.le_trans HK1.out.size kx.size); replace kx := kx.trans j' (fun y hy => .inl (List.mem_append_right _ hy)); clear r' g' j')
        | fail)
    have HFN := @hideH _ (And.intro TW (And.intro FRP (And.intro FRR kx)))
    clear TW FRP FRR kx
    go_wp2
    go_ret
    exact ⟨by first | rfl | simp, _, _, by rw [HE.out]; exact HFN.out.1, HFN.out.2.1, HFN.out.2.2.1, (HK1.out.mono (T := FP ++ FR) (by simp)).trans HFN.out.2.2.2 (fun y hy => .inl hy)⟩
  have q3' : (o.kind == 3) = false := by simpa using q3
  by_cases q4 : o.kind = 4
  · skip
    have q4' : (o.kind == 4) = true := by simpa using q4
    have HE := @hideH _ (show stS c S o = delS c S o.id o.key by unfold stS; rw [if_neg q1]; rw [if_neg q2]; rw [if_neg q3]; rw [if_pos q4])
    clear q4
    clear q1
    clear q2
    clear q3
    have kx : Kept (FP ++ FR) w1 w1 := Kept.refl _ _
    have TX := HT.out
    go_wp2_with fail
    refine (O.delete o.id o.key _ TX.v TX.p HSM.out.1 HO.out.1 HO.out.2.1).mono ?_
    rintro e wa ⟨FP', rfl, p', f', k'⟩
    have TP := TX.goP O p' f' k'
    have FRP := f'.old (w := w) (Nat.le_trans HK1.out.size kx.size)
    replace kx := kx.trans k' (fun y hy => .inl (List.mem_append_left _ hy))
    clear p' f' k'
    replace y1 := kx.cell y1 HNI.out
    replace y2 := kx.cell y2 HNI.out
    go_wp2_with fail
    refine (rDelete o.id o.key _ TP.r).mono ?_
    rintro e wc ⟨FR', rfl, r', g', j'⟩
    have TW := TP.goR O r' g' j'
    have FRR := g'.old (w := w) (Nat.le_trans HK1.out.size kx.size)
    replace kx := kx.trans j' (fun y hy => .inl (List.mem_append_right _ hy))
    clear r' g' j'
    clear y0 y1 y2 y3 y4
    go_wp2_with fail
    refine (num_any _ _).mono ?_
    rintro e wb ⟨rfl, hwb⟩
    rw [hwb]
    clear hwb
    have HFN := @hideH _ (And.intro TW (And.intro FRP (And.intro FRR kx)))
    clear TW FRP FRR kx
    go_wp2
    go_ret
    exact ⟨by first | rfl | simp, _, _, by rw [HE.out]; exact HFN.out.1, HFN.out.2.1, HFN.out.2.2.1, (HK1.out.mono (T := FP ++ FR) (by simp)).trans HFN.out.2.2.2 (fun y hy => .inl hy)⟩
  have q4' : (o.kind == 4) = false := by simpa using q4
  by_cases q5 : o.kind = 5
  · skip
    have q5' : (o.kind == 5) = true := by simpa using q5
    have HE := @hideH _ (show stS c S o = comS S o.id by unfold stS; rw [if_neg q1]; rw [if_neg q2]; rw [if_neg q3]; rw [if_neg q4]; rw [if_pos q5])
    clear q5
    clear q1
    clear q2
    clear q3
    clear q4
    go_upto_region 15 with fail
    have kx : Kept (FP ++ FR) w1 w1.drew := ((Kept.refl [] w1).drew).mono (by simp)
    have TX := HT.out.then O ((Kept.refl [] w1).drew)
    go_region_held3 (fun w' => w'.cell? ⟨w.heap.size, 1, none⟩ = some (.int .i64 o.id))
      (first
        | (exact kx.cell y1 HNI.out)
        | fail)
      (first
        | (go_at_call 23; refine (O.commit o.id _ TX.v TX.p HSM.out.1 HO.out.1).mono ?_; rintro e wa ⟨FP', rfl, p', f', k'⟩; have TP := TX.goP O p' f' k'; have FRP := f'.old (w := w) (Nat.le_trans HK1.out.size kx.size); replace kx := kx.trans k' (fun y hy => .inl (List.mem_append_left _ hy)); clear p' f' k')
        | (go_at_call 11; refine (num_any _ _).mono ?_; rintro e wb ⟨rfl, hwb⟩; rw [hwb]; clear hwb)
        | (go_at_call 52; refine (rCommit o.id _ TP.r HSM.out.2.2.1).mono ?_; rintro e wc ⟨FR', rfl, r', g', j'⟩; have TW := TP.goR O r' g' j'; have FRR := g'.old (w := w) (Nat.le_trans HK1.out.size kx.size); replace kx := kx.trans j' (fun y hy => .inl (List.mem_append_right _ hy)); clear r' g' j')
        | fail)
    have HFN := @hideH _ (And.intro TW (And.intro FRP (And.intro FRR kx)))
    clear TW FRP FRR kx
    go_wp2
    go_ret
    exact ⟨by first | rfl | simp, _, _, by rw [HE.out]; exact HFN.out.1, HFN.out.2.1, HFN.out.2.2.1, (HK1.out.mono (T := FP ++ FR) (by simp)).trans HFN.out.2.2.2 (fun y hy => .inl hy)⟩
  have q5' : (o.kind == 5) = false := by simpa using q5
  by_cases q6 : o.kind = 6
  · skip
    have q6' : (o.kind == 6) = true := by simpa using q6
    have HE := @hideH _ (show stS c S o = aboS S o.id by unfold stS; rw [if_neg q1]; rw [if_neg q2]; rw [if_neg q3]; rw [if_neg q4]; rw [if_neg q5]; rw [if_pos q6])
    clear q6
    clear q1
    clear q2
    clear q3
    clear q4
    clear q5
    go_upto_region 17 with fail
    have kx : Kept (FP ++ FR) w1 w1.drew := ((Kept.refl [] w1).drew).mono (by simp)
    have TX := HT.out.then O ((Kept.refl [] w1).drew)
    go_region_held3 (fun w' => w'.cell? ⟨w.heap.size, 1, none⟩ = some (.int .i64 o.id))
      (first
        | (exact kx.cell y1 HNI.out)
        | fail)
      (first
        | (go_at_call 12; refine (O.abort o.id _ TX.v TX.p HSM.out.1 HO.out.1).mono ?_; rintro e wa ⟨FP', rfl, p', f', k'⟩; have TP := TX.goP O p' f' k'; have FRP := f'.old (w := w) (Nat.le_trans HK1.out.size kx.size); replace kx := kx.trans k' (fun y hy => .inl (List.mem_append_left _ hy)); clear p' f' k')
        | (go_at_call 11; refine (num_any _ _).mono ?_; rintro e wb ⟨rfl, hwb⟩; rw [hwb]; clear hwb)
        | (go_at_call 53; refine (rAbort o.id _ TP.r).mono ?_; rintro e wc ⟨FR', rfl, r', g', j'⟩; have TW := TP.goR O r' g' j'; have FRR := g'.old (w := w) (Nat.le_trans HK1.out.size kx.size); replace kx := kx.trans j' (fun y hy => .inl (List.mem_append_right _ hy)); clear r' g' j')
        | fail)
    have HFN := @hideH _ (And.intro TW (And.intro FRP (And.intro FRR kx)))
    clear TW FRP FRR kx
    go_wp2
    go_ret
    exact ⟨by first | rfl | simp, _, _, by rw [HE.out]; exact HFN.out.1, HFN.out.2.1, HFN.out.2.2.1, (HK1.out.mono (T := FP ++ FR) (by simp)).trans HFN.out.2.2.2 (fun y hy => .inl hy)⟩
  have q6' : (o.kind == 6) = false := by simpa using q6
  by_cases q7 : o.kind = 7
  · skip
    have q7' : (o.kind == 7) = true := by simpa using q7
    have HE := @hideH _ (show stS c S o = chkS c S o.n by unfold stS; rw [if_neg q1]; rw [if_neg q2]; rw [if_neg q3]; rw [if_neg q4]; rw [if_neg q5]; rw [if_neg q6]; rw [if_pos q7])
    clear q7
    clear q1
    clear q2
    clear q3
    clear q4
    clear q5
    clear q6
    go_upto_region 19 with fail
    have kx : Kept (FP ++ FR) w1 w1.drew := ((Kept.refl [] w1).drew).mono (by simp)
    have TX := HT.out.then O ((Kept.refl [] w1).drew)
    go_region_held3 (fun w' => w'.cell? ⟨w.heap.size, 4, none⟩ = some (.int .i64 o.n))
      (first
        | (exact kx.cell y4 HNI.out)
        | fail)
      (first
        | (go_at_call 54; refine (O.check o.n _ TX.v TX.p HSM.out.1 HO.out.2.2.2).mono ?_; rintro e wa ⟨FP', rfl, p', f', k'⟩; have TP := TX.goP O p' f' k'; have FRP := f'.old (w := w) (Nat.le_trans HK1.out.size kx.size); replace kx := kx.trans k' (fun y hy => .inl (List.mem_append_left _ hy)); clear p' f' k')
        | (go_at_call 11; refine (num_any _ _).mono ?_; rintro e wb ⟨rfl, hwb⟩; rw [hwb]; clear hwb)
        | (go_at_call 55; refine (rCheck o.n _ TP.r ⟨HO.out.2.2.2.1, HO.out.2.2.2.2⟩).mono ?_; rintro e wc ⟨FR', rfl, r', g', j'⟩; have TW := TP.goR O r' g' j'; have FRR := g'.old (w := w) (Nat.le_trans HK1.out.size kx.size); replace kx := kx.trans j' (fun y hy => .inl (List.mem_append_right _ hy)); clear r' g' j')
        | fail)
    have HFN := @hideH _ (And.intro TW (And.intro FRP (And.intro FRR kx)))
    clear TW FRP FRR kx
    go_wp2
    go_ret
    exact ⟨by first | rfl | simp, _, _, by rw [HE.out]; exact HFN.out.1, HFN.out.2.1, HFN.out.2.2.1, (HK1.out.mono (T := FP ++ FR) (by simp)).trans HFN.out.2.2.2 (fun y hy => .inl hy)⟩
  have q7' : (o.kind == 7) = false := by simpa using q7
  by_cases q8 : o.kind = 8
  · skip
    have q8' : (o.kind == 8) = true := by simpa using q8
    have HE := @hideH _ (show stS c S o = renS S by unfold stS; rw [if_neg q1]; rw [if_neg q2]; rw [if_neg q3]; rw [if_neg q4]; rw [if_neg q5]; rw [if_neg q6]; rw [if_neg q7]; rw [if_pos q8])
    clear q8
    clear q1
    clear q2
    clear q3
    clear q4
    clear q5
    clear q6
    clear q7
    have kx : Kept (FP ++ FR) w1 w1 := Kept.refl _ _
    have TX := HT.out
    clear y1 y2 y3 y4
    go_wp2_with fail
    refine (O.renew _ TX.v TX.p HSM.out.1).mono ?_
    rintro e wa ⟨FP', rfl, p', f', k'⟩
    have TP := TX.goP O p' f' k'
    have FRP := f'.old (w := w) (Nat.le_trans HK1.out.size kx.size)
    replace kx := kx.trans k' (fun y hy => .inl (List.mem_append_left _ hy))
    clear p' f' k'
    clear y0
    go_wp2_with fail
    refine (num_any _ _).mono ?_
    rintro e wb ⟨rfl, hwb⟩
    rw [hwb]
    clear hwb
    go_wp2_with fail
    refine (rRenew _ TP.r).mono ?_
    rintro e wc ⟨FR', rfl, r', g', j'⟩
    have TW := TP.goR O r' g' j'
    have FRR := g'.old (w := w) (Nat.le_trans HK1.out.size kx.size)
    replace kx := kx.trans j' (fun y hy => .inl (List.mem_append_right _ hy))
    clear r' g' j'
    have HFN := @hideH _ (And.intro TW (And.intro FRP (And.intro FRR kx)))
    clear TW FRP FRR kx
    go_wp2
    go_ret
    exact ⟨by first | rfl | simp, _, _, by rw [HE.out]; exact HFN.out.1, HFN.out.2.1, HFN.out.2.2.1, (HK1.out.mono (T := FP ++ FR) (by simp)).trans HFN.out.2.2.2 (fun y hy => .inl hy)⟩
  have q8' : (o.kind == 8) = false := by simpa using q8
  have HE := @hideH _ (show stS c S o = S by unfold stS; rw [if_neg q1]; rw [if_neg q2]; rw [if_neg q3]; rw [if_neg q4]; rw [if_neg q5]; rw [if_neg q6]; rw [if_neg q7]; rw [if_neg q8])
  clear q1
  clear q2
  clear q3
  clear q4
  clear q5
  clear q6
  clear q7
  clear q8
  have TX := HT.out
  have HTX := @hideH _ TX
  clear TX
  go_wp2
  go_ret
  exact ⟨rfl, FP, FR, by rw [HE.out]; exact HTX.out, Fr.refl _ _, Fr.refl _ _, HK1.out.mono (by simp)⟩
end Go.Proofs.YtocpagpkpibmaaaGreatDoor

