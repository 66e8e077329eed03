import Derived.Deep.CutBlock
import Derived.Test.YtebcmcmboomgfaaC8
/-
  OWN WORK (by mkrec8.py). The document's records (tidemarkref09): Parse.
-/
namespace Go.Proofs.Ytebcmcmboomgfaa
open Go.RowKit
set_option linter.unusedVariables false
set_option linter.unusedSimpArgs false

theorem PS.others {w wz w' : World} {g R A n : Nat} {tv : Value} {l : List UInt8} {bad : Bool} {cs : List Value} {S : List Nat} (h : PS w wz g R A tv l n bad cs) (k : Kept S wz w') (hS : ∀ x ∈ S, x ≠ g ∧ x ≠ R ∧ x ≠ A ∧ w.heap.size ≤ x) : PS w w' g R A tv l n bad cs := by
  have k0 : Kept [] w w' := h.kept.trans k (fun x hx => .inr (hS x hx).2.2.2)
  obtain ⟨t1, t2, t3, t4⟩ := h.tape
  exact ⟨⟨t1.kept k (fun hm => (hS g hm).1 rfl), h.bs.kept k0, t3, t4⟩, h.rcd.kept k (fun hm => (hS R hm).2.1 rfl), h.res.kept k (fun hm => (hS A hm).2.2.1 rfl), k0, h.low, h.ne, h.bs⟩
/-- none of these lists lies in block A -/
def NotA (V : RV) (A : Nat) : Prop := (∀ x, V.vb.ownBlock = some x → x ≠ A) ∧ (∀ x, V.va.ownBlock = some x → x ≠ A) ∧ (∀ x, V.vr.ownBlock = some x → x ≠ A) ∧ ∀ x, V.vd.ownBlock = some x → x ≠ A
theorem NotA.nil (A : Nat) : NotA ⟨.slice none 0 0, .slice none 0 0, .slice none 0 0, .slice none 0 0⟩ A := ⟨fun x h => by simp [Value.ownBlock] at h, fun x h => by simp [Value.ownBlock] at h, fun x h => by simp [Value.ownBlock] at h, fun x h => by simp [Value.ownBlock] at h⟩
theorem Cs.over {w w' : World} {sz : Nat} {v : Value} {n : Nat} {cs : List Value} {S : List Nat} (h : Cs w sz v n cs) (k : Kept S w w') (hS : ∀ x, v.ownBlock = some x → x ∉ S) : Cs w' sz v n cs := by
  obtain ⟨h1, h2, p, c, e, h3, h4, h5, h6⟩ := h
  refine ⟨h1, h2, p, c, e, h3, h4, h5, fun a ha j u hu => k.cell (h6 a ha j u hu) ?_⟩
  rw [add_block]
  exact hS _ (by rw [e, ha]; rfl)
theorem SeeR.over {w w' : World} {V : RV} {r : Rcd} {A : Nat} (h : SeeR w V r) (k : Kept [A] w w') (hA : NotA V A) : SeeR w' V r :=
  ⟨h.before.keptOwn k (fun x hx hm => hA.1 x hx (by simpa using hm)), h.after.keptOwn k (fun x hx hm => hA.2.1 x hx (by simpa using hm)), h.rows.over k (fun x hx hm => hA.2.2.1 x hx (by simpa using hm)), h.dirty.over k (fun x hx hm => hA.2.2.2 x hx (by simpa using hm))⟩
def rcs (r : Rcd) (V : RV) : List Value := [.int .i64 r.kind, .int .i64 r.birth, .int .i64 r.prev, .int .i64 r.id, .int .i64 r.page, .int .i64 r.frm, V.vb, V.va, .int .i64 r.next, V.vr, V.vd]
theorem Cs.nil (w : World) (sz : Nat) : Cs w sz (.slice none 0 0) 0 [] := ⟨by simp, by simp, none, 0, rfl, Nat.le_refl _, by simp [maxLen], fun _ => rfl, fun a e => (by cases e)⟩
theorem Blk.set11 {w : World} {g : Nat} {t : TypeId} {a0 a1 a2 a3 a4 a5 a6 a7 a8 a9 a10 : Value} (h : Blk w g t [a0, a1, a2, a3, a4, a5, a6, a7, a8, a9, a10]) (v0 v1 v2 v3 v4 v5 v6 v7 v8 v9 v10 : Value) : Blk (((((((((((w.setCell ⟨g, 0, none⟩ v0).setCell ⟨g, 1, none⟩ v1).setCell ⟨g, 2, none⟩ v2).setCell ⟨g, 3, none⟩ v3).setCell ⟨g, 4, none⟩ v4).setCell ⟨g, 5, none⟩ v5).setCell ⟨g, 6, none⟩ v6).setCell ⟨g, 7, none⟩ v7).setCell ⟨g, 8, none⟩ v8).setCell ⟨g, 9, none⟩ v9).setCell ⟨g, 10, none⟩ v10) g t [v0, v1, v2, v3, v4, v5, v6, v7, v8, v9, v10] ∧ Kept [g] w (((((((((((w.setCell ⟨g, 0, none⟩ v0).setCell ⟨g, 1, none⟩ v1).setCell ⟨g, 2, none⟩ v2).setCell ⟨g, 3, none⟩ v3).setCell ⟨g, 4, none⟩ v4).setCell ⟨g, 5, none⟩ v5).setCell ⟨g, 6, none⟩ v6).setCell ⟨g, 7, none⟩ v7).setCell ⟨g, 8, none⟩ v8).setCell ⟨g, 9, none⟩ v9).setCell ⟨g, 10, none⟩ v10) := by
  have s0 := h.set 0 v0
  have s1 := s0.1.set 1 v1
  have s2 := s1.1.set 2 v2
  have s3 := s2.1.set 3 v3
  have s4 := s3.1.set 4 v4
  have s5 := s4.1.set 5 v5
  have s6 := s5.1.set 6 v6
  have s7 := s6.1.set 7 v7
  have s8 := s7.1.set 8 v8
  have s9 := s8.1.set 9 v9
  have s10 := s9.1.set 10 v10
  exact ⟨s10.1, ((((((((((s0.2.trans s1.2 (fun x hx => .inl hx)).trans s2.2 (fun x hx => .inl hx)).trans s3.2 (fun x hx => .inl hx)).trans s4.2 (fun x hx => .inl hx)).trans s5.2 (fun x hx => .inl hx)).trans s6.2 (fun x hx => .inl hx)).trans s7.2 (fun x hx => .inl hx)).trans s8.2 (fun x hx => .inl hx)).trans s9.2 (fun x hx => .inl hx)).trans s10.2 (fun x hx => .inl hx))⟩
set_option maxRecDepth 20000 in
set_option maxHeartbeats 12800000 in
theorem rParse (tv : Value) (l : List UInt8) (w : World) (h : Bs w tv l) : Calls Try.prog 23 #[tv] w fun e w' => ∃ (V : RV) (r : Rcd) (E : Int), e = .returned (.tuple #[r.agg V, .int .i64 E]) ∧ SeeR w' V r ∧ Kept [] w w' ∧ Hid ((parseR l = some r ∧ E = 0) ∨ (parseR l = none ∧ r = ⟨0, 0, 0, 0, 0, 0, [], [], 0, [], []⟩ ∧ E = 90)) := by
  obtain ⟨p, c, rfl, -⟩ := id h
  have HB := @hideH _ h
  obtain ⟨w1, hw1⟩ : ∃ w1, w1 = ((w.alloc (.cells zero11.toArray 26)).alloc (.cells #[.slice p l.length c, .int .i64 0, .bool false] 73)).alloc (.cells zero11.toArray 26) := ⟨_, rfl⟩
  have k1 : Kept [] w w1 := by rw [hw1]; exact (((Kept.refl [] w).alloc _).alloc _).alloc _
  have bA : Blk w1 w.heap.size 26 zero11 := by rw [hw1]; exact ((Blk.new w _ _).kept ((Kept.refl [] _).alloc _) (by simp)).kept ((Kept.refl [] _).alloc _) (by simp)
  have bg : Blk w1 (w.heap.size + 1) 73 [.slice p l.length c, .int .i64 ((0 : Nat) : Int), .bool false] := by
    rw [hw1]
    have := Blk.new (w.alloc (.cells zero11.toArray 26)) 73 [.slice p l.length c, .int .i64 0, .bool false]
    rw [World.size_alloc] at this
    exact this.kept ((Kept.refl [] _).alloc _) (by simp)
  have bR : Blk w1 (w.heap.size + 1 + 1) 26 zero11 := by
    rw [hw1]
    have := Blk.new ((w.alloc (.cells zero11.toArray 26)).alloc (.cells #[.slice p l.length c, .int .i64 0, .bool false] 73)) 26 zero11
    rwa [World.size_alloc, World.size_alloc] at this
  obtain ⟨A, hA⟩ : ∃ A, A = w.heap.size := ⟨_, rfl⟩
  obtain ⟨g, hg⟩ : ∃ g, g = w.heap.size + 1 := ⟨_, rfl⟩
  obtain ⟨R, hR⟩ : ∃ R, R = w.heap.size + 1 + 1 := ⟨_, rfl⟩
  rw [← hR] at bR
  rw [← hg] at bg
  rw [← hA] at bA
  have far : l ≠ [] → ∀ x, (Value.slice p l.length c).ownBlock = some x → x ≠ g := fun h0 x hx e => by
    obtain ⟨b, o, c', ev, -, -, hlt, -⟩ := h.pos (List.length_pos_iff.2 h0)
    rw [ev] at hx
    simp [Value.ownBlock] at hx
    omega
  have S1 := @hideH _ (show PS w w1 g R A (.slice p l.length c) l 0 false zero11 from ⟨⟨bg, h.kept k1, Nat.zero_le _, far⟩, bR, bA, k1, ⟨by omega, by omega, by omega⟩, ⟨by omega, by omega, by omega⟩, h⟩)
  have G1 := @hideH _ (Pg.start l)
  have HW1 := @hideH _ (show w1 = ((w.alloc (.cells #[(.int .i64 0), (.int .i64 0), (.int .i64 0), (.int .i64 0), (.int .i64 0), (.int .i64 0), (.slice none 0 0), (.slice none 0 0), (.int .i64 0), (.slice none 0 0), (.slice none 0 0)] 26)).alloc (.cells #[.slice p l.length c, .int .i64 0, .bool false] 73)).alloc (.cells #[(.int .i64 0), (.int .i64 0), (.int .i64 0), (.int .i64 0), (.int .i64 0), (.int .i64 0), (.slice none 0 0), (.slice none 0 0), (.int .i64 0), (.slice none 0 0), (.slice none 0 0)] 26) from hw1)
  have HAB := @hideH _ (And.intro hA (And.intro hg hR))
  clear hw1 k1 bA bg bR far h
  go_enter Try.func23, Try.ntmps23
  go_upto_region 3 with fail
  rw [← HW1.out]
  rw [← hR, ← hg, ← hA]
  clear hA hg hR
  have hq := rTake g 1 0 _ l false w1 S1.out.tape (by omega)
  go_wp2_with fail
  refine hq.mono ?_
  clear hq
  rintro e x1 ⟨v1, n1, b1, rfl, T1, K1, E1⟩
  have U1 := @hideH _ (S1.out.took T1 K1)
  have G2 := @hideH _ (G1.out.num E1.out)
  have M1 := @hideH _ (took_small E1.out)
  clear T1 K1 E1 S1 G1
  have cj := U1.out.rcd.cell (j := 0) rfl
  have fj := U1.out.rcd.free 0
  go_upto_region 4 with fail
  obtain ⟨w2, hw2⟩ : ∃ w2, w2 = x1.setCell ⟨R, 0, none⟩ (.int .i64 (v1 : Int)) := ⟨_, rfl⟩
  rw [← hw2]
  have S2 := @hideH _ (U1.out.set 0 (.int .i64 (v1 : Int)))
  rw [← hw2] at S2
  clear hw2 U1 cj fj
  replace S2 : Hid (PS w w2 g R A (.slice p l.length c) l n1 b1 [(.int .i64 (v1 : Int)), (.int .i64 0), (.int .i64 0), (.int .i64 0), (.int .i64 0), (.int .i64 0), (.slice none 0 0), (.slice none 0 0), (.int .i64 0), (.slice none 0 0), (.slice none 0 0)]) := S2
  have hq := rTake g 8 n1 _ l b1 w2 S2.out.tape (by omega)
  go_wp2_with fail
  refine hq.mono ?_
  clear hq
  rintro e x2 ⟨v2, n2, b2, rfl, T2, K2, E2⟩
  have U2 := @hideH _ (S2.out.took T2 K2)
  have G3 := @hideH _ (G2.out.num E2.out)
  have M2 := @hideH _ (took_small E2.out)
  clear T2 K2 E2 S2 G2
  have cj := U2.out.rcd.cell (j := 1) rfl
  have fj := U2.out.rcd.free 1
  go_upto_region 5 with fail
  obtain ⟨w3, hw3⟩ : ∃ w3, w3 = x2.setCell ⟨R, 1, none⟩ (.int .i64 (v2 : Int)) := ⟨_, rfl⟩
  rw [← hw3]
  have S3 := @hideH _ (U2.out.set 1 (.int .i64 (v2 : Int)))
  rw [← hw3] at S3
  clear hw3 U2 cj fj
  replace S3 : Hid (PS w w3 g R A (.slice p l.length c) l n2 b2 [(.int .i64 (v1 : Int)), (.int .i64 (v2 : Int)), (.int .i64 0), (.int .i64 0), (.int .i64 0), (.int .i64 0), (.slice none 0 0), (.slice none 0 0), (.int .i64 0), (.slice none 0 0), (.slice none 0 0)]) := S3
  have hq := rTake g 8 n2 _ l b2 w3 S3.out.tape (by omega)
  go_wp2_with fail
  refine hq.mono ?_
  clear hq
  rintro e x3 ⟨v3, n3, b3, rfl, T3, K3, E3⟩
  have U3 := @hideH _ (S3.out.took T3 K3)
  have G4 := @hideH _ (G3.out.num E3.out)
  have M3 := @hideH _ (took_small E3.out)
  clear T3 K3 E3 S3 G3
  have cj := U3.out.rcd.cell (j := 2) rfl
  have fj := U3.out.rcd.free 2
  go_upto_region 6 with fail
  obtain ⟨w4, hw4⟩ : ∃ w4, w4 = x3.setCell ⟨R, 2, none⟩ (.int .i64 (v3 : Int)) := ⟨_, rfl⟩
  rw [← hw4]
  have S4 := @hideH _ (U3.out.set 2 (.int .i64 (v3 : Int)))
  rw [← hw4] at S4
  clear hw4 U3 cj fj
  replace S4 : Hid (PS w w4 g R A (.slice p l.length c) l n3 b3 [(.int .i64 (v1 : Int)), (.int .i64 (v2 : Int)), (.int .i64 (v3 : Int)), (.int .i64 0), (.int .i64 0), (.int .i64 0), (.slice none 0 0), (.slice none 0 0), (.int .i64 0), (.slice none 0 0), (.slice none 0 0)]) := S4
  have c0 := S4.out.rcd.cell (j := 0) rfl
  go_upto_block 0 with fail
  go_cut [] (fun wx => ∃ (n : Nat) (bad : Bool) (r : Rcd) (V : RV), Hid (PS w wx g R A (.slice p l.length c) l n bad (rcs r V) ∧ Pg l (Ps.ret r) n bad ∧ SeeR wx V r ∧ NotA V A))
  case first =>
    by_cases h1 : v1 = 1
    · subst h1
      replace G4 : Hid (Pg l ((num 1).bind fun i => Ps.ret ⟨((1 : Nat) : Int), v2, v3, i, 0, 0, [], [], 0, [], []⟩) n3 b3) := G4
      have hq := rTake g 1 n3 _ l b3 w4 S4.out.tape (by omega)
      go_wp2_with fail
      refine hq.mono ?_
      clear hq
      rintro e x4 ⟨v4, n4, b4, rfl, T4, K4, E4⟩
      have U4 := @hideH _ (S4.out.took T4 K4)
      have G5 := @hideH _ (G4.out.num E4.out)
      clear T4 K4 E4 S4 G4 c0
      have cj := U4.out.rcd.cell (j := 3) rfl
      have fj := U4.out.rcd.free 3
      have SX := @hideH _ (U4.out.set 3 (.int .i64 (v4 : Int)))
      have FIN := @hideH _ (show PS w (x4.setCell ⟨R, 3, none⟩ (.int .i64 (v4 : Int))) g R A (.slice p l.length c) l n4 b4 (rcs ⟨((1 : Nat) : Int), v2, v3, v4, 0, 0, [], [], 0, [], []⟩ ⟨.slice none 0 0, .slice none 0 0, .slice none 0 0, .slice none 0 0⟩) ∧ Pg l (Ps.ret ⟨((1 : Nat) : Int), v2, v3, v4, 0, 0, [], [], 0, [], []⟩) n4 b4 ∧ SeeR (x4.setCell ⟨R, 3, none⟩ (.int .i64 (v4 : Int))) ⟨.slice none 0 0, .slice none 0 0, .slice none 0 0, .slice none 0 0⟩ ⟨((1 : Nat) : Int), v2, v3, v4, 0, 0, [], [], 0, [], []⟩ ∧ NotA ⟨.slice none 0 0, .slice none 0 0, .slice none 0 0, .slice none 0 0⟩ A from ⟨SX.out, G5.out, ⟨Bs.nil _, Bs.nil _, Cs.nil _ _, Cs.nil _ _⟩, NotA.nil A⟩)
      clear U4 SX G5
      go_wp2
      go_meet
      case rel => exact ⟨_, _, _, _, FIN⟩
    · have e1 : ((v1 : Int) == 1) = false := beq_eq_false_iff_ne.2 (fun e => h1 (by omega))
      by_cases h2 : v1 = 2
      · subst h2
        replace G4 : Hid (Pg l ((num 1).bind fun g => (num 2).bind fun f => (num 2).bind fun n => (raw n).bind fun x => (raw n).bind fun y => Ps.ret ⟨((2 : Nat) : Int), v2, v3, 0, g, f, x, y, 0, [], []⟩) n3 b3) := G4
        have hq := rTake g 1 n3 _ l b3 w4 S4.out.tape (by omega)
        go_wp2_with fail
        refine hq.mono ?_
        clear hq
        rintro e x4 ⟨v4, n4, b4, rfl, T4, K4, E4⟩
        have U4 := @hideH _ (S4.out.took T4 K4)
        have G5 := @hideH _ (G4.out.num E4.out)
        have M4 := @hideH _ (took_small E4.out)
        clear T4 K4 E4 S4 G4
        have cj := U4.out.rcd.cell (j := 4) rfl
        have fj := U4.out.rcd.free 4
        go_upto_region 12 with fail
        obtain ⟨w5, hw5⟩ : ∃ w5, w5 = x4.setCell ⟨R, 4, none⟩ (.int .i64 (v4 : Int)) := ⟨_, rfl⟩
        rw [← hw5]
        have S5 := @hideH _ (U4.out.set 4 (.int .i64 (v4 : Int)))
        rw [← hw5] at S5
        clear hw5 U4 cj fj
        replace S5 : Hid (PS w w5 g R A (.slice p l.length c) l n4 b4 [(.int .i64 ((2 : Nat) : Int)), (.int .i64 (v2 : Int)), (.int .i64 (v3 : Int)), (.int .i64 0), (.int .i64 (v4 : Int)), (.int .i64 0), (.slice none 0 0), (.slice none 0 0), (.int .i64 0), (.slice none 0 0), (.slice none 0 0)]) := S5
        have hq := rTake g 2 n4 _ l b4 w5 S5.out.tape (by omega)
        go_wp2_with fail
        refine hq.mono ?_
        clear hq
        rintro e x5 ⟨v5, n5, b5, rfl, T5, K5, E5⟩
        have U5 := @hideH _ (S5.out.took T5 K5)
        have G6 := @hideH _ (G5.out.num E5.out)
        have M5 := @hideH _ (took_small E5.out)
        clear T5 K5 E5 S5 G5
        have cj := U5.out.rcd.cell (j := 5) rfl
        have fj := U5.out.rcd.free 5
        go_upto_region 13 with fail
        obtain ⟨w6, hw6⟩ : ∃ w6, w6 = x5.setCell ⟨R, 5, none⟩ (.int .i64 (v5 : Int)) := ⟨_, rfl⟩
        rw [← hw6]
        have S6 := @hideH _ (U5.out.set 5 (.int .i64 (v5 : Int)))
        rw [← hw6] at S6
        clear hw6 U5 cj fj
        replace S6 : Hid (PS w w6 g R A (.slice p l.length c) l n5 b5 [(.int .i64 ((2 : Nat) : Int)), (.int .i64 (v2 : Int)), (.int .i64 (v3 : Int)), (.int .i64 0), (.int .i64 (v4 : Int)), (.int .i64 (v5 : Int)), (.slice none 0 0), (.slice none 0 0), (.int .i64 0), (.slice none 0 0), (.slice none 0 0)]) := S6
        have hq := rTake g 2 n5 _ l b5 w6 S6.out.tape (by omega)
        go_wp2_with fail
        refine hq.mono ?_
        clear hq
        rintro e x6 ⟨v6, n6, b6, rfl, T6, K6, E6⟩
        have U6 := @hideH _ (S6.out.took T6 K6)
        have G7 := @hideH _ (G6.out.num E6.out)
        have M6 := @hideH _ (took_small E6.out)
        clear T6 K6 E6 S6 G6
        have S7 := U6
        clear U6
        have c0 := S7.out.rcd.cell (j := 0) rfl
        have hq := rTRow g v6 n6 _ l b6 x6 S7.out.tape (by have := M6.out.2; omega)
        go_wp2_with fail
        refine hq.mono ?_
        clear hq
        rintro e x7 ⟨u7, X7, n7, b7, rfl, T7, o7, K7, E7⟩
        obtain ⟨pu7, cu7, rfl⟩ := own_shape2 o7
        have HLT7 := @hideH _ (show R < x6.heap.size ∧ g < x6.heap.size ∧ A < x6.heap.size from ⟨S7.out.rcd.lt, S7.out.tape.1.lt, S7.out.res.lt⟩)
        have U7 := @hideH _ (S7.out.took T7 K7)
        have G8 := @hideH _ (G7.out.raw E7.out)
        have kR7 := (U7.out.rcd.set 6 (.slice pu7 X7.length cu7)).2
        have cj := U7.out.rcd.cell (j := 6) rfl
        have fj := U7.out.rcd.free 6
        have c0 := U7.out.rcd.cell (j := 0) rfl
        obtain ⟨w8, hw8⟩ : ∃ w8, w8 = x7.setCell ⟨R, 6, none⟩ (.slice pu7 X7.length cu7) := ⟨_, rfl⟩
        have S8 := @hideH _ (U7.out.set 6 (.slice pu7 X7.length cu7))
        rw [← hw8] at S8 kR7
        have OW7 := @hideH _ (own_of_kept o7 kR7 (fun x hx hm => by simp at hm; have e1 := own_ge o7 x hx; have e2 := HLT7.out; omega))
        replace S8 : Hid (PS w w8 g R A (.slice p l.length c) l n7 b7 [(.int .i64 ((2 : Nat) : Int)), (.int .i64 (v2 : Int)), (.int .i64 (v3 : Int)), (.int .i64 0), (.int .i64 (v4 : Int)), (.int .i64 (v5 : Int)), (.slice pu7 X7.length cu7), (.slice none 0 0), (.int .i64 0), (.slice none 0 0), (.slice none 0 0)]) := S8
        have HW8 := @hideH _ hw8
        clear T7 K7 E7 S7 G7 o7 kR7 U7 hw8
        go_upto_region 16 with fail
        rw [← HW8.out]
        clear cj fj c0
        have hq := rTRow g v6 n7 _ l b7 w8 S8.out.tape (by have := M6.out.2; omega)
        go_wp2_with fail
        refine hq.mono ?_
        clear hq
        rintro e x8 ⟨u8, X8, n8, b8, rfl, T8, o8, K8, E8⟩
        obtain ⟨pu8, cu8, rfl⟩ := own_shape2 o8
        have HLT8 := @hideH _ (show R < w8.heap.size ∧ g < w8.heap.size ∧ A < w8.heap.size from ⟨S8.out.rcd.lt, S8.out.tape.1.lt, S8.out.res.lt⟩)
        have U8 := @hideH _ (S8.out.took T8 K8)
        have G9 := @hideH _ (G8.out.raw E8.out)
        have ow7_8 := @hideH _ (own_of_kept OW7.out K8 (fun x hx hm => by simp at hm; have e1 := own_ge OW7.out x hx; have e2 := HLT7.out; omega))
        have kR8 := (U8.out.rcd.set 7 (.slice pu8 X8.length cu8)).2
        have cj := U8.out.rcd.cell (j := 7) rfl
        have fj := U8.out.rcd.free 7
        have c0 := U8.out.rcd.cell (j := 0) rfl
        obtain ⟨w9, hw9⟩ : ∃ w9, w9 = x8.setCell ⟨R, 7, none⟩ (.slice pu8 X8.length cu8) := ⟨_, rfl⟩
        have S9 := @hideH _ (U8.out.set 7 (.slice pu8 X8.length cu8))
        rw [← hw9] at S9 kR8
        have OW8 := @hideH _ (own_of_kept o8 kR8 (fun x hx hm => by simp at hm; have e1 := own_ge o8 x hx; have e2 := HLT8.out; omega))
        have ov7_8 := @hideH _ (own_of_kept ow7_8.out kR8 (fun x hx hm => by simp at hm; have e1 := own_ge ow7_8.out x hx; have e2 := HLT7.out; omega))
        replace S9 : Hid (PS w w9 g R A (.slice p l.length c) l n8 b8 [(.int .i64 ((2 : Nat) : Int)), (.int .i64 (v2 : Int)), (.int .i64 (v3 : Int)), (.int .i64 0), (.int .i64 (v4 : Int)), (.int .i64 (v5 : Int)), (.slice pu7 X7.length cu7), (.slice pu8 X8.length cu8), (.int .i64 0), (.slice none 0 0), (.slice none 0 0)]) := S9
        have HW9 := @hideH _ hw9
        clear T8 K8 E8 S8 G8 o8 kR8 U8 hw9
        go_upto_region 17 with fail
        rw [← HW9.out]
        clear cj fj c0
        have c0 := S9.out.rcd.cell (j := 0) rfl
        have FIN := @hideH _ (show PS w w9 g R A (.slice p l.length c) l n8 b8 (rcs ⟨((2 : Nat) : Int), v2, v3, 0, v4, v5, X7, X8, 0, [], []⟩ ⟨.slice pu7 X7.length cu7, .slice pu8 X8.length cu8, .slice none 0 0, .slice none 0 0⟩) ∧ Pg l (Ps.ret ⟨((2 : Nat) : Int), v2, v3, 0, v4, v5, X7, X8, 0, [], []⟩) n8 b8 ∧ SeeR w9 ⟨.slice pu7 X7.length cu7, .slice pu8 X8.length cu8, .slice none 0 0, .slice none 0 0⟩ ⟨((2 : Nat) : Int), v2, v3, 0, v4, v5, X7, X8, 0, [], []⟩ ∧ NotA ⟨.slice pu7 X7.length cu7, .slice pu8 X8.length cu8, .slice none 0 0, .slice none 0 0⟩ A from ⟨S9.out, G9.out, ⟨Bs.ofOwn ov7_8.out, Bs.ofOwn OW8.out, Cs.nil _ _, Cs.nil _ _⟩, fun x hx => by have e1 := own_ge ov7_8.out x hx; have e2 := HLT7.out; omega, fun x hx => by have e1 := own_ge OW8.out x hx; have e2 := HLT8.out; omega, (NotA.nil A).2.2⟩)
        clear S9 G9
        go_wp2
        go_meet
        case rel => exact ⟨_, _, _, _, FIN⟩
      · have e2 : ((v1 : Int) == 2) = false := beq_eq_false_iff_ne.2 (fun e => h2 (by omega))
        by_cases h3 : v1 = 3
        · subst h3
          replace G4 : Hid (Pg l ((num 1).bind fun g => (num 2).bind fun f => (num 2).bind fun n => (raw n).bind fun y => (num 8).bind fun z => Ps.ret ⟨((3 : Nat) : Int), v2, v3, 0, g, f, [], y, z, [], []⟩) n3 b3) := G4
          have hq := rTake g 1 n3 _ l b3 w4 S4.out.tape (by omega)
          go_wp2_with fail
          refine hq.mono ?_
          clear hq
          rintro e x4 ⟨v4, n4, b4, rfl, T4, K4, E4⟩
          have U4 := @hideH _ (S4.out.took T4 K4)
          have G5 := @hideH _ (G4.out.num E4.out)
          have M4 := @hideH _ (took_small E4.out)
          clear T4 K4 E4 S4 G4
          have cj := U4.out.rcd.cell (j := 4) rfl
          have fj := U4.out.rcd.free 4
          go_upto_region 12 with fail
          obtain ⟨w5, hw5⟩ : ∃ w5, w5 = x4.setCell ⟨R, 4, none⟩ (.int .i64 (v4 : Int)) := ⟨_, rfl⟩
          rw [← hw5]
          have S5 := @hideH _ (U4.out.set 4 (.int .i64 (v4 : Int)))
          rw [← hw5] at S5
          clear hw5 U4 cj fj
          replace S5 : Hid (PS w w5 g R A (.slice p l.length c) l n4 b4 [(.int .i64 ((3 : Nat) : Int)), (.int .i64 (v2 : Int)), (.int .i64 (v3 : Int)), (.int .i64 0), (.int .i64 (v4 : Int)), (.int .i64 0), (.slice none 0 0), (.slice none 0 0), (.int .i64 0), (.slice none 0 0), (.slice none 0 0)]) := S5
          have hq := rTake g 2 n4 _ l b4 w5 S5.out.tape (by omega)
          go_wp2_with fail
          refine hq.mono ?_
          clear hq
          rintro e x5 ⟨v5, n5, b5, rfl, T5, K5, E5⟩
          have U5 := @hideH _ (S5.out.took T5 K5)
          have G6 := @hideH _ (G5.out.num E5.out)
          have M5 := @hideH _ (took_small E5.out)
          clear T5 K5 E5 S5 G5
          have cj := U5.out.rcd.cell (j := 5) rfl
          have fj := U5.out.rcd.free 5
          go_upto_region 13 with fail
          obtain ⟨w6, hw6⟩ : ∃ w6, w6 = x5.setCell ⟨R, 5, none⟩ (.int .i64 (v5 : Int)) := ⟨_, rfl⟩
          rw [← hw6]
          have S6 := @hideH _ (U5.out.set 5 (.int .i64 (v5 : Int)))
          rw [← hw6] at S6
          clear hw6 U5 cj fj
          replace S6 : Hid (PS w w6 g R A (.slice p l.length c) l n5 b5 [(.int .i64 ((3 : Nat) : Int)), (.int .i64 (v2 : Int)), (.int .i64 (v3 : Int)), (.int .i64 0), (.int .i64 (v4 : Int)), (.int .i64 (v5 : Int)), (.slice none 0 0), (.slice none 0 0), (.int .i64 0), (.slice none 0 0), (.slice none 0 0)]) := S6
          have hq := rTake g 2 n5 _ l b5 w6 S6.out.tape (by omega)
          go_wp2_with fail
          refine hq.mono ?_
          clear hq
          rintro e x6 ⟨v6, n6, b6, rfl, T6, K6, E6⟩
          have U6 := @hideH _ (S6.out.took T6 K6)
          have G7 := @hideH _ (G6.out.num E6.out)
          have M6 := @hideH _ (took_small E6.out)
          clear T6 K6 E6 S6 G6
          have S7 := U6
          clear U6
          have c0 := S7.out.rcd.cell (j := 0) rfl
          have hq := rTRow g v6 n6 _ l b6 x6 S7.out.tape (by have := M6.out.2; omega)
          go_wp2_with fail
          refine hq.mono ?_
          clear hq
          rintro e x7 ⟨u7, X7, n7, b7, rfl, T7, o7, K7, E7⟩
          obtain ⟨pu7, cu7, rfl⟩ := own_shape2 o7
          have HLT7 := @hideH _ (show R < x6.heap.size ∧ g < x6.heap.size ∧ A < x6.heap.size from ⟨S7.out.rcd.lt, S7.out.tape.1.lt, S7.out.res.lt⟩)
          have U7 := @hideH _ (S7.out.took T7 K7)
          have G8 := @hideH _ (G7.out.raw E7.out)
          have kR7 := (U7.out.rcd.set 7 (.slice pu7 X7.length cu7)).2
          have cj := U7.out.rcd.cell (j := 7) rfl
          have fj := U7.out.rcd.free 7
          have c0 := U7.out.rcd.cell (j := 0) rfl
          obtain ⟨w8, hw8⟩ : ∃ w8, w8 = x7.setCell ⟨R, 7, none⟩ (.slice pu7 X7.length cu7) := ⟨_, rfl⟩
          have S8 := @hideH _ (U7.out.set 7 (.slice pu7 X7.length cu7))
          rw [← hw8] at S8 kR7
          have OW7 := @hideH _ (own_of_kept o7 kR7 (fun x hx hm => by simp at hm; have e1 := own_ge o7 x hx; have e2 := HLT7.out; omega))
          replace S8 : Hid (PS w w8 g R A (.slice p l.length c) l n7 b7 [(.int .i64 ((3 : Nat) : Int)), (.int .i64 (v2 : Int)), (.int .i64 (v3 : Int)), (.int .i64 0), (.int .i64 (v4 : Int)), (.int .i64 (v5 : Int)), (.slice none 0 0), (.slice pu7 X7.length cu7), (.int .i64 0), (.slice none 0 0), (.slice none 0 0)]) := S8
          have HW8 := @hideH _ hw8
          clear T7 K7 E7 S7 G7 o7 kR7 U7 hw8
          go_upto_region 17 with fail
          rw [← HW8.out]
          clear cj fj c0
          have c0 := S8.out.rcd.cell (j := 0) rfl
          have hq := rTake g 8 n7 _ l b7 w8 S8.out.tape (by omega)
          go_wp2_with fail
          refine hq.mono ?_
          clear hq
          rintro e x8 ⟨v8, n8, b8, rfl, T8, K8, E8⟩
          have U8 := @hideH _ (S8.out.took T8 K8)
          have G9 := @hideH _ (G8.out.num E8.out)
          have ow8 := own_of_kept OW7.out K8 (fun x hx hm => by simp at hm; have e1 := own_ge OW7.out x hx; have e2 := HLT7.out; omega)
          clear T8 K8 E8 S8 G8 c0
          have cj := U8.out.rcd.cell (j := 8) rfl
          have fj := U8.out.rcd.free 8
          have SX := @hideH _ (U8.out.set 8 (.int .i64 (v8 : Int)))
          have kR8 := (U8.out.rcd.set 8 (.int .i64 (v8 : Int))).2
          have OX := @hideH _ (own_of_kept ow8 kR8 (fun x hx hm => by simp at hm; have e1 := own_ge ow8 x hx; have e2 := HLT7.out; omega))
          clear kR8 ow8
          have FIN := @hideH _ (show PS w (x8.setCell ⟨R, 8, none⟩ (.int .i64 (v8 : Int))) g R A (.slice p l.length c) l n8 b8 (rcs ⟨((3 : Nat) : Int), v2, v3, 0, v4, v5, [], X7, v8, [], []⟩ ⟨.slice none 0 0, .slice pu7 X7.length cu7, .slice none 0 0, .slice none 0 0⟩) ∧ Pg l (Ps.ret ⟨((3 : Nat) : Int), v2, v3, 0, v4, v5, [], X7, v8, [], []⟩) n8 b8 ∧ SeeR (x8.setCell ⟨R, 8, none⟩ (.int .i64 (v8 : Int))) ⟨.slice none 0 0, .slice pu7 X7.length cu7, .slice none 0 0, .slice none 0 0⟩ ⟨((3 : Nat) : Int), v2, v3, 0, v4, v5, [], X7, v8, [], []⟩ ∧ NotA ⟨.slice none 0 0, .slice pu7 X7.length cu7, .slice none 0 0, .slice none 0 0⟩ A from ⟨SX.out, G9.out, ⟨Bs.nil _, Bs.ofOwn OX.out, Cs.nil _ _, Cs.nil _ _⟩, (NotA.nil A).1, fun x hx => by have e1 := own_ge OX.out x hx; have e2 := HLT7.out; omega, (NotA.nil A).2.2⟩)
          clear U8 SX G9
          go_wp2
          go_meet
          case rel => exact ⟨_, _, _, _, FIN⟩
        · have e3 : ((v1 : Int) == 3) = false := beq_eq_false_iff_ne.2 (fun e => h3 (by omega))
          by_cases h7 : v1 = 7
          · subst h7
            replace G4 : Hid (Pg l ((num 1).bind fun n => (many pRow n).bind (fun rs => (num 1).bind fun m => (many pRec m).bind fun ds => Ps.ret ⟨((7 : Nat) : Int), v2, v3, 0, 0, 0, [], [], 0, rs, ds⟩)) n3 b3) := G4
            obtain ⟨inf, hin1, hin2, hin3, hin4⟩ := info_parts3 (show (Try.prog.info? 66).map (fun i => (i.zero, i.size, i.bytes)) = some (some (.agg #[.int .i64 0, .int .i64 0, .int .i64 0, .int .i64 0, .int .i64 0]), 5, 40) by kernel_rfl)
            have HI := @hideH _ (And.intro hin1 (And.intro hin2 (And.intro hin3 hin4)))
            obtain ⟨inf2, hjn1, hjn2, hjn3, hjn4⟩ := info_parts3 (show (Try.prog.info? 68).map (fun i => (i.zero, i.size, i.bytes)) = some (some (.agg #[.int .i64 0, .int .i64 0]), 2, 16) by kernel_rfl)
            have HI2 := @hideH _ (And.intro hjn1 (And.intro hjn2 (And.intro hjn3 hjn4)))
            clear hin1 hin2 hin3 hin4 hjn1 hjn2 hjn3 hjn4
            have hq := rTake g 1 n3 _ l b3 w4 S4.out.tape (by omega)
            go_wp2_with fail
            refine hq.mono ?_
            clear hq
            rintro e x4 ⟨v4, n4, b4, rfl, T4, K4, E4⟩
            have U4 := @hideH _ (S4.out.took T4 K4)
            have G5 := @hideH _ (G4.out.num E4.out)
            have M4 := @hideH _ (took_small E4.out)
            clear T4 K4 E4 S4 G4
            have S5 := U4
            clear U4
            have HLT := @hideH _ (show R < x4.heap.size ∧ g < x4.heap.size ∧ A < x4.heap.size from ⟨S5.out.rcd.lt, S5.out.tape.1.lt, S5.out.res.lt⟩)
            have HBL := @hideH _ (show w.heap.size ≤ x4.heap.size from S5.out.kept.size)
            have HB0 := @hideH _ (show x4.heap.size ≤ x4.heap.size from Nat.le_refl _)
            go_upto_block 1 with fail
            go_cut [] (fun wx => ∃ (n : Nat) (bad : Bool) (rs : List RowR) (pr : Option Addr) (cr : Nat), Hid (PS w wx g R A (.slice p l.length c) l n bad [(.int .i64 ((7 : Nat) : Int)), (.int .i64 (v2 : Int)), (.int .i64 (v3 : Int)), (.int .i64 0), (.int .i64 0), (.int .i64 0), (.slice none 0 0), (.slice none 0 0), (.int .i64 0), (.slice pr rs.length cr), (.slice none 0 0)] ∧ Row wx x4.heap.size 5 (.slice pr rs.length cr) rs.length (rcells rs) ∧ Pg l ((fun rs => (num 1).bind fun m => (many pRec m).bind fun ds => Ps.ret ⟨((7 : Nat) : Int), v2, v3, 0, 0, 0, [], [], 0, rs, ds⟩) rs) n bad ∧ rs.length ≤ 256 ∧ x4.heap.size ≤ wx.heap.size))
            case first =>
              go_wp2
              go_loopw [8] (fun vi wr => ∃ (k n : Nat) (bad : Bool) (rs : List RowR) (pr : Option Addr) (cr : Nat), k ≤ v4 ∧ vi = .int .i64 k ∧ Hid (rs.length = k ∧ PS w wr g R A (.slice p l.length c) l n bad [(.int .i64 ((7 : Nat) : Int)), (.int .i64 (v2 : Int)), (.int .i64 (v3 : Int)), (.int .i64 0), (.int .i64 0), (.int .i64 0), (.slice none 0 0), (.slice none 0 0), (.int .i64 0), (.slice pr rs.length cr), (.slice none 0 0)] ∧ Row wr x4.heap.size 5 (.slice pr rs.length cr) rs.length (rcells rs) ∧ Pg l ((many pRow (v4 - k)).bind fun more => (fun rs => (num 1).bind fun m => (many pRec m).bind fun ds => Ps.ret ⟨((7 : Nat) : Int), v2, v3, 0, 0, 0, [], [], 0, rs, ds⟩) (rs ++ more)) n bad ∧ x4.heap.size ≤ wr.heap.size)) (fun vi _ => v4 - (intOf vi).toNat)
              case atStart => exact ⟨0, n4, b4, [], none, 0, Nat.zero_le _, rfl, rfl, S5.out, Row.nil _ _ _, G5.out, Nat.le_refl _⟩
              case round =>
                clear S5 G5
                obtain ⟨k, n, bad, rs, pr, cr, hk, rfl, hh⟩ := hrel
                have t2 := hh.out.2.1.tape.1.cell (j := 2) rfl
                have hv4 := M4.out.2
                by_cases hkl : k < v4
                rotate_left
                · have hkl' : ¬ (k : Int) < (v4 : Int) := by omega
                  have FIN := @hideH _ (show PS w wr g R A (.slice p l.length c) l n bad [(.int .i64 ((7 : Nat) : Int)), (.int .i64 (v2 : Int)), (.int .i64 (v3 : Int)), (.int .i64 0), (.int .i64 0), (.int .i64 0), (.slice none 0 0), (.slice none 0 0), (.int .i64 0), (.slice pr rs.length cr), (.slice none 0 0)] ∧ Row wr x4.heap.size 5 (.slice pr rs.length cr) rs.length (rcells rs) ∧ Pg l ((fun rs => (num 1).bind fun m => (many pRec m).bind fun ds => Ps.ret ⟨((7 : Nat) : Int), v2, v3, 0, 0, 0, [], [], 0, rs, ds⟩) rs) n bad ∧ rs.length ≤ 256 ∧ x4.heap.size ≤ wr.heap.size from ⟨hh.out.2.1, hh.out.2.2.1, by have g0 := hh.out.2.2.2.1; rw [show v4 - k = 0 by omega] at g0; rw [show many pRow 0 = Ps.ret [] from rfl, Ps.ret_bind, List.append_nil] at g0; exact g0, by rw [hh.out.1]; omega, hh.out.2.2.2.2⟩)
                  clear hh
                  go_wp2
                  go_meet
                  case rel => exact ⟨_, _, _, _, _, FIN⟩
                have hkl' : (k : Int) < (v4 : Int) := by omega
                cases bad with
                | true =>
                  have FIN := @hideH _ (show PS w wr g R A (.slice p l.length c) l n true [(.int .i64 ((7 : Nat) : Int)), (.int .i64 (v2 : Int)), (.int .i64 (v3 : Int)), (.int .i64 0), (.int .i64 0), (.int .i64 0), (.slice none 0 0), (.slice none 0 0), (.int .i64 0), (.slice pr rs.length cr), (.slice none 0 0)] ∧ Row wr x4.heap.size 5 (.slice pr rs.length cr) rs.length (rcells rs) ∧ Pg l ((fun rs => (num 1).bind fun m => (many pRec m).bind fun ds => Ps.ret ⟨((7 : Nat) : Int), v2, v3, 0, 0, 0, [], [], 0, rs, ds⟩) rs) n true ∧ rs.length ≤ 256 ∧ x4.heap.size ≤ wr.heap.size from ⟨hh.out.2.1, hh.out.2.2.1, by rcases hh.out.2.2.2.1 with g0 | g0; (cases g0.1); exact .inr g0, by rw [hh.out.1]; omega, hh.out.2.2.2.2⟩)
                  clear hh
                  go_wp2
                  go_meet
                  case rel => exact ⟨_, _, _, _, _, FIN⟩
                | false =>
                  obtain ⟨m, hm⟩ : ∃ m, v4 - k = m + 1 := ⟨v4 - k - 1, by omega⟩
                  have wk : IntKind.i64.wrap ((k : Int) + 1) = (k : Int) + 1 := wrap_i64_of (by omega) (by omega)
                  have G10 := @hideH _ hh.out.2.2.2.1
                  rw [hm, many_row] at G10
                  obtain ⟨X, hX⟩ : ∃ X, X = wr.heap.size := ⟨_, rfl⟩
                  obtain ⟨w10, hw10⟩ : ∃ w10, w10 = wr.alloc (.cells #[.int .i64 0, .int .i64 0, .int .i64 0, .int .i64 0, .int .i64 0] 66) := ⟨_, rfl⟩
                  have ka : Kept [] wr w10 := by rw [hw10]; exact (Kept.refl [] wr).alloc _
                  have B10 := @hideH _ (show Blk w10 X 66 [.int .i64 0, .int .i64 0, .int .i64 0, .int .i64 0, .int .i64 0] by rw [hw10, hX]; exact Blk.new wr _ _)
                  have S10 := @hideH _ (hh.out.2.1.then ka)
                  have R10 := @hideH _ (hh.out.2.2.1.kept ka (by simp))
                  have HOW := @hideH _ (show ∀ x, (Value.slice pr rs.length cr).ownBlock = some x → x4.heap.size ≤ x ∧ x < X from fun x hx => by have := hh.out.2.2.1.lt x hx; omega)
                  have HXX := @hideH _ (show X ≠ g ∧ X ≠ R ∧ X ≠ A ∧ w.heap.size ≤ X by have e1 := HLT.out; have e2 := hh.out.2.2.2.2; have e3 := hh.out.2.1.kept.size; have e9 := HB0.out; omega)
                  have HHL := @hideH _ hh.out.1
                  have HSZ := @hideH _ (show x4.heap.size ≤ wr.heap.size from hh.out.2.2.2.2)
                  have HW10 := @hideH _ hw10
                  have HXE := @hideH _ hX
                  have KA := @hideH _ ka
                  clear hh ka hw10 hX
                  go_upto_region 25 with fail
                  rw [← HW10.out, ← HXE.out]
                  clear HW10 t2
                  have hq := rTake g 8 n _ l false w10 S10.out.tape (by omega)
                  go_wp2_with fail
                  refine hq.mono ?_
                  clear hq
                  rintro e y10 ⟨z10, n10, b10, rfl, T10, K10, E10⟩
                  have U10 := @hideH _ (S10.out.took T10 K10)
                  have G11 := @hideH _ (G10.out.num E10.out)
                  have C10 := @hideH _ (B10.out.kept K10 (by simpa using HXX.out.1))
                  have W10 := @hideH _ (R10.out.kept K10 (fun x hx hm => by simp at hm; have e1 := HOW.out x hx; have e2 := HLT.out; have e9 := HB0.out; omega))
                  have cj := C10.out.cell (j := 0) rfl
                  have fj := C10.out.free 0
                  clear T10 K10 E10 S10 G10 B10 R10
                  go_upto_region 26 with fail
                  obtain ⟨w11, hw11⟩ : ∃ w11, w11 = y10.setCell ⟨X, 0, none⟩ (.int .i64 (z10 : Int)) := ⟨_, rfl⟩
                  rw [← hw11]
                  obtain ⟨bb, kb⟩ := C10.out.set 0 (.int .i64 (z10 : Int))
                  rw [← hw11] at bb kb
                  have S11 := @hideH _ (U10.out.others kb (fun x hx => by simp at hx; rw [hx]; exact HXX.out))
                  have R11 := @hideH _ (W10.out.kept kb (fun x hx hm => by simp at hm; have e1 := HOW.out x hx; omega))
                  have B11 : Hid (Blk w11 X 66 [.int .i64 (z10 : Int), .int .i64 0, .int .i64 0, .int .i64 0, .int .i64 0]) := bb
                  clear bb kb hw11 U10 C10 W10 cj fj
                  have hq := rTake g 1 n10 _ l b10 w11 S11.out.tape (by omega)
                  go_wp2_with fail
                  refine hq.mono ?_
                  clear hq
                  rintro e y11 ⟨z11, n11, b11, rfl, T11, K11, E11⟩
                  have U11 := @hideH _ (S11.out.took T11 K11)
                  have G12 := @hideH _ (G11.out.num E11.out)
                  have C11 := @hideH _ (B11.out.kept K11 (by simpa using HXX.out.1))
                  have W11 := @hideH _ (R11.out.kept K11 (fun x hx hm => by simp at hm; have e1 := HOW.out x hx; have e2 := HLT.out; have e9 := HB0.out; omega))
                  have cj := C11.out.cell (j := 1) rfl
                  have fj := C11.out.free 1
                  clear T11 K11 E11 S11 G11 B11 R11
                  go_upto_region 27 with fail
                  obtain ⟨w12, hw12⟩ : ∃ w12, w12 = y11.setCell ⟨X, 1, none⟩ (.int .i64 (z11 : Int)) := ⟨_, rfl⟩
                  rw [← hw12]
                  obtain ⟨bb, kb⟩ := C11.out.set 1 (.int .i64 (z11 : Int))
                  rw [← hw12] at bb kb
                  have S12 := @hideH _ (U11.out.others kb (fun x hx => by simp at hx; rw [hx]; exact HXX.out))
                  have R12 := @hideH _ (W11.out.kept kb (fun x hx hm => by simp at hm; have e1 := HOW.out x hx; omega))
                  have B12 : Hid (Blk w12 X 66 [.int .i64 (z10 : Int), .int .i64 (z11 : Int), .int .i64 0, .int .i64 0, .int .i64 0]) := bb
                  clear bb kb hw12 U11 C11 W11 cj fj
                  have hq := rTake g 1 n11 _ l b11 w12 S12.out.tape (by omega)
                  go_wp2_with fail
                  refine hq.mono ?_
                  clear hq
                  rintro e y12 ⟨z12, n12, b12, rfl, T12, K12, E12⟩
                  have U12 := @hideH _ (S12.out.took T12 K12)
                  have G13 := @hideH _ (G12.out.num E12.out)
                  have C12 := @hideH _ (B12.out.kept K12 (by simpa using HXX.out.1))
                  have W12 := @hideH _ (R12.out.kept K12 (fun x hx hm => by simp at hm; have e1 := HOW.out x hx; have e2 := HLT.out; have e9 := HB0.out; omega))
                  have cj := C12.out.cell (j := 2) rfl
                  have fj := C12.out.free 2
                  clear T12 K12 E12 S12 G12 B12 R12
                  go_upto_region 28 with fail
                  obtain ⟨w13, hw13⟩ : ∃ w13, w13 = y12.setCell ⟨X, 2, none⟩ (.int .i64 (z12 : Int)) := ⟨_, rfl⟩
                  rw [← hw13]
                  obtain ⟨bb, kb⟩ := C12.out.set 2 (.int .i64 (z12 : Int))
                  rw [← hw13] at bb kb
                  have S13 := @hideH _ (U12.out.others kb (fun x hx => by simp at hx; rw [hx]; exact HXX.out))
                  have R13 := @hideH _ (W12.out.kept kb (fun x hx hm => by simp at hm; have e1 := HOW.out x hx; omega))
                  have B13 : Hid (Blk w13 X 66 [.int .i64 (z10 : Int), .int .i64 (z11 : Int), .int .i64 (z12 : Int), .int .i64 0, .int .i64 0]) := bb
                  clear bb kb hw13 U12 C12 W12 cj fj
                  have hq := rTake g 8 n12 _ l b12 w13 S13.out.tape (by omega)
                  go_wp2_with fail
                  refine hq.mono ?_
                  clear hq
                  rintro e y13 ⟨z13, n13, b13, rfl, T13, K13, E13⟩
                  have U13 := @hideH _ (S13.out.took T13 K13)
                  have G14 := @hideH _ (G13.out.num E13.out)
                  have C13 := @hideH _ (B13.out.kept K13 (by simpa using HXX.out.1))
                  have W13 := @hideH _ (R13.out.kept K13 (fun x hx hm => by simp at hm; have e1 := HOW.out x hx; have e2 := HLT.out; have e9 := HB0.out; omega))
                  have cj := C13.out.cell (j := 3) rfl
                  have fj := C13.out.free 3
                  clear T13 K13 E13 S13 G13 B13 R13
                  go_upto_region 29 with fail
                  obtain ⟨w14, hw14⟩ : ∃ w14, w14 = y13.setCell ⟨X, 3, none⟩ (.int .i64 (z13 : Int)) := ⟨_, rfl⟩
                  rw [← hw14]
                  obtain ⟨bb, kb⟩ := C13.out.set 3 (.int .i64 (z13 : Int))
                  rw [← hw14] at bb kb
                  have S14 := @hideH _ (U13.out.others kb (fun x hx => by simp at hx; rw [hx]; exact HXX.out))
                  have R14 := @hideH _ (W13.out.kept kb (fun x hx hm => by simp at hm; have e1 := HOW.out x hx; omega))
                  have B14 : Hid (Blk w14 X 66 [.int .i64 (z10 : Int), .int .i64 (z11 : Int), .int .i64 (z12 : Int), .int .i64 (z13 : Int), .int .i64 0]) := bb
                  clear bb kb hw14 U13 C13 W13 cj fj
                  have hq := rTake g 8 n13 _ l b13 w14 S14.out.tape (by omega)
                  go_wp2_with fail
                  refine hq.mono ?_
                  clear hq
                  rintro e y14 ⟨z14, n14, b14, rfl, T14, K14, E14⟩
                  have U14 := @hideH _ (S14.out.took T14 K14)
                  have G15 := @hideH _ (G14.out.num E14.out)
                  have C14 := @hideH _ (B14.out.kept K14 (by simpa using HXX.out.1))
                  have W14 := @hideH _ (R14.out.kept K14 (fun x hx hm => by simp at hm; have e1 := HOW.out x hx; have e2 := HLT.out; have e9 := HB0.out; omega))
                  have cj := C14.out.cell (j := 4) rfl
                  have fj := C14.out.free 4
                  clear T14 K14 E14 S14 G14 B14 R14
                  go_upto_region 30 with fail
                  obtain ⟨w15, hw15⟩ : ∃ w15, w15 = y14.setCell ⟨X, 4, none⟩ (.int .i64 (z14 : Int)) := ⟨_, rfl⟩
                  rw [← hw15]
                  obtain ⟨bb, kb⟩ := C14.out.set 4 (.int .i64 (z14 : Int))
                  rw [← hw15] at bb kb
                  have S15 := @hideH _ (U14.out.others kb (fun x hx => by simp at hx; rw [hx]; exact HXX.out))
                  have R15 := @hideH _ (W14.out.kept kb (fun x hx hm => by simp at hm; have e1 := HOW.out x hx; omega))
                  have B15 : Hid (Blk w15 X 66 [.int .i64 (z10 : Int), .int .i64 (z11 : Int), .int .i64 (z12 : Int), .int .i64 (z13 : Int), .int .i64 (z14 : Int)]) := bb
                  clear bb kb hw15 U14 C14 W14 cj fj
                  have c9 := S15.out.rcd.cell (j := 9) rfl
                  have d0 := B15.out.cell (j := 0) rfl
                  have d1 := B15.out.cell (j := 1) rfl
                  have d2 := B15.out.cell (j := 2) rfl
                  have d3 := B15.out.cell (j := 3) rfl
                  have d4 := B15.out.cell (j := 4) rfl
                  obtain ⟨x, hx⟩ : ∃ x : RowR, x = ⟨(z10 : Int), (z11 : Int), (z12 : Int), (z13 : Int), (z14 : Int)⟩ := ⟨_, rfl⟩
                  have hsrc := src_row (P := Try.prog) w15 23 66 Try.underlying23 ⟨(z10 : Int), (z11 : Int), (z12 : Int), (z13 : Int), (z14 : Int)⟩
                  dsimp only at hsrc
                  have hrk := @hideH _ (show rs.length ≤ 255 by rw [HHL.out]; omega)
                  have hsz9 := @hideH _ (show x4.heap.size ≤ w15.heap.size by have e1 := B15.out.lt; have e2 := HSZ.out; have e3 := HXE.out; omega)
                  go_wp2_with (at_builtin; refine wpList_append_row rfl (.tmp 92) (.tmp 94) 23 rfl x4.heap.size 66 inf (.agg #[.int .i64 0, .int .i64 0, .int .i64 0, .int .i64 0, .int .i64 0]) 5 40 Try.underlying23 HI.out.1 HI.out.2.1 HI.out.2.2.1 HI.out.2.2.2 rfl _ _ _ (by rfl) (R15.out.kept ((Kept.refl [] w15).alloc _) (by simp)) _ 1 (rcells [⟨(z10 : Int), (z11 : Int), (z12 : Int), (z13 : Int), (z14 : Int)⟩]) (by rfl) hsrc (by have := hrk.out; omega) (by have := hrk.out; unfold maxLen; omega) (by have := hrk.out; omega) (by have := hsz9.out; simp; omega) ?_; intro v20 w20 r20 k20 a20; have S20 := (S15.out.then ((Kept.refl [] w15).alloc (.cells #[.int .i64 (z10 : Int), .int .i64 (z11 : Int), .int .i64 (z12 : Int), .int .i64 (z13 : Int), .int .i64 (z14 : Int)] 66))).others k20 (fun x hx => by have e1 := HOW.out x (by simpa using hx); have e2 := HLT.out; have e3 := S15.out.kept.size; have e4 := S15.out.low; have e5 := HXX.out; have e6 := HBL.out; have e9 := HB0.out; omega); obtain ⟨p20, c20, e20, -, -⟩ := r20.shape; subst e20; have c20' := S20.rcd.cell (j := 9) rfl; have f20 := S20.rcd.free 9)
                  skip
                  have kR := (S20.rcd.set 9 (.slice p20 (rs.length + 1) c20)).2
                  have S21 := S20.set 9 (.slice p20 (rs.length + 1) c20)
                  have r21 := r20.kept kR (fun x hx hm => by simp at hm; have e1 := r20.lt x hx; have e2 := HLT.out; have e3 := HB0.out; omega)
                  have hl9 : (rs ++ [(⟨(z10 : Int), (z11 : Int), (z12 : Int), (z13 : Int), (z14 : Int)⟩ : RowR)]).length = rs.length + 1 := by simp
                  have REL := @hideH _ (show (rs ++ [(⟨(z10 : Int), (z11 : Int), (z12 : Int), (z13 : Int), (z14 : Int)⟩ : RowR)]).length = k + 1 ∧ PS w (w20.setCell ⟨R, 9, none⟩ (.slice p20 (rs.length + 1) c20)) g R A (.slice p l.length c) l n14 b14 [(.int .i64 ((7 : Nat) : Int)), (.int .i64 (v2 : Int)), (.int .i64 (v3 : Int)), (.int .i64 0), (.int .i64 0), (.int .i64 0), (.slice none 0 0), (.slice none 0 0), (.int .i64 0), (.slice p20 (rs ++ [(⟨(z10 : Int), (z11 : Int), (z12 : Int), (z13 : Int), (z14 : Int)⟩ : RowR)]).length c20), (.slice none 0 0)] ∧ Row (w20.setCell ⟨R, 9, none⟩ (.slice p20 (rs.length + 1) c20)) x4.heap.size 5 (.slice p20 (rs ++ [(⟨(z10 : Int), (z11 : Int), (z12 : Int), (z13 : Int), (z14 : Int)⟩ : RowR)]).length c20) (rs ++ [(⟨(z10 : Int), (z11 : Int), (z12 : Int), (z13 : Int), (z14 : Int)⟩ : RowR)]).length (rcells (rs ++ [(⟨(z10 : Int), (z11 : Int), (z12 : Int), (z13 : Int), (z14 : Int)⟩ : RowR)])) ∧ Pg l ((many pRow (v4 - (k + 1))).bind fun more => (fun rs => (num 1).bind fun m => (many pRec m).bind fun ds => Ps.ret ⟨((7 : Nat) : Int), v2, v3, 0, 0, 0, [], [], 0, rs, ds⟩) ((rs ++ [(⟨(z10 : Int), (z11 : Int), (z12 : Int), (z13 : Int), (z14 : Int)⟩ : RowR)]) ++ more)) n14 b14 ∧ x4.heap.size ≤ (w20.setCell ⟨R, 9, none⟩ (.slice p20 (rs.length + 1) c20)).heap.size from ⟨by rw [hl9, HHL.out], by rw [hl9]; exact S21, by rw [hl9, rcells_append]; exact r21, by rw [show v4 - (k + 1) = m by omega]; simp only [List.append_assoc, List.singleton_append]; exact G15.out, Nat.le_trans hsz9.out (by have e1 := kR.size; have e2 := k20.size; rw [World.size_alloc] at e2; omega)⟩)
                  clear S20 S21 r20 r21 k20 a20 kR c20' f20 hl9 c9 hsrc hx d0 d1 d2 d3 d4 S15 R15 B15 G15
                  go_roundw
                  case rel => exact ⟨k + 1, n14, b14, rs ++ [(⟨(z10 : Int), (z11 : Int), (z12 : Int), (z13 : Int), (z14 : Int)⟩ : RowR)], p20, c20, by omega, by go_num, REL⟩
                  case measure => simp [intOf]; omega
            case rest =>
              clear S5 G5 HB0
              obtain ⟨n, bad, rr, pq, cq, hJ⟩ := hcut
              obtain ⟨wj, rfl⟩ : ∃ wj, wj = wc := ⟨_, rfl⟩
              have S30 := @hideH _ hJ.out.1
              have Q30 := @hideH _ hJ.out.2.1
              have HWJ := @hideH _ hJ.out.2.2.2.2
              have G30 : Hid (Pg l ((num 1).bind fun m => (many pRec m).bind fun ds => Ps.ret ⟨((7 : Nat) : Int), v2, v3, 0, 0, 0, [], [], 0, rr, ds⟩) n bad) := hJ.out.2.2.1
              clear hJ
              have hq := rTake g 1 n _ l bad wj S30.out.tape (by omega)
              go_wp2_with fail
              refine hq.mono ?_
              clear hq
              rintro e x31 ⟨v31, n31, b31, rfl, T31, K31, E31⟩
              have S31 := @hideH _ (S30.out.took T31 K31)
              have G31 := @hideH _ (G30.out.num E31.out)
              have M31 := @hideH _ (took_small E31.out)
              have Q31 := @hideH _ (Q30.out.kept K31 (fun x hx hm => by simp at hm; have e1 := Q30.out.lt x hx; have e2 := HLT.out; omega))
              have HOWR := @hideH _ (show ∀ x, (Value.slice pq rr.length cq).ownBlock = some x → x4.heap.size ≤ x ∧ x < x31.heap.size from fun x hx => Q31.out.lt x hx)
              have HB0 := @hideH _ (show x4.heap.size ≤ x31.heap.size from Nat.le_trans HWJ.out K31.size)
              clear T31 K31 E31 S30 Q30 G30
              go_wp2
              go_loopw [10] (fun vi wr => ∃ (q n : Nat) (bad : Bool) (ds : List RecR) (pr : Option Addr) (cr : Nat), q ≤ v31 ∧ vi = .int .i64 q ∧ Hid (ds.length = q ∧ PS w wr g R A (.slice p l.length c) l n bad [(.int .i64 ((7 : Nat) : Int)), (.int .i64 (v2 : Int)), (.int .i64 (v3 : Int)), (.int .i64 0), (.int .i64 0), (.int .i64 0), (.slice none 0 0), (.slice none 0 0), (.int .i64 0), (.slice pq rr.length cq), (.slice pr ds.length cr)] ∧ Row wr x31.heap.size 2 (.slice pr ds.length cr) ds.length (dcells ds) ∧ Pg l ((many pRec (v31 - q)).bind fun more => (fun ds => Ps.ret ⟨((7 : Nat) : Int), v2, v3, 0, 0, 0, [], [], 0, rr, ds⟩) (ds ++ more)) n bad ∧ x31.heap.size ≤ wr.heap.size ∧ Row wr x4.heap.size 5 (.slice pq rr.length cq) rr.length (rcells rr))) (fun vi _ => v31 - (intOf vi).toNat)
              case atStart => exact ⟨0, n31, b31, [], none, 0, Nat.zero_le _, rfl, rfl, S31.out, Row.nil _ _ _, G31.out, Nat.le_refl _, Q31.out⟩
              case round =>
                clear S31 G31 Q31
                obtain ⟨q, n, bad, ds, pr, cr, hk, rfl, hh⟩ := hrel
                have t2 := hh.out.2.1.tape.1.cell (j := 2) rfl
                have hv31 := M31.out.2
                by_cases hkl : q < v31
                rotate_left
                · have hkl' : ¬ (q : Int) < (v31 : Int) := by omega
                  have FIN := @hideH _ (show PS w wr g R A (.slice p l.length c) l n bad (rcs ⟨((7 : Nat) : Int), v2, v3, 0, 0, 0, [], [], 0, rr, ds⟩ ⟨.slice none 0 0, .slice none 0 0, .slice pq rr.length cq, .slice pr ds.length cr⟩) ∧ Pg l (Ps.ret ⟨((7 : Nat) : Int), v2, v3, 0, 0, 0, [], [], 0, rr, ds⟩) n bad ∧ SeeR wr ⟨.slice none 0 0, .slice none 0 0, .slice pq rr.length cq, .slice pr ds.length cr⟩ ⟨((7 : Nat) : Int), v2, v3, 0, 0, 0, [], [], 0, rr, ds⟩ ∧ NotA ⟨.slice none 0 0, .slice none 0 0, .slice pq rr.length cq, .slice pr ds.length cr⟩ A from ⟨hh.out.2.1, by have g0 := hh.out.2.2.2.1; rw [show v31 - q = 0 by omega, show many pRec 0 = Ps.ret [] from rfl, Ps.ret_bind, List.append_nil] at g0; exact g0, ⟨Bs.nil _, Bs.nil _, hh.out.2.2.2.2.2.cs, hh.out.2.2.1.cs⟩, (NotA.nil A).1, (NotA.nil A).2.1, fun x hx => by have e1 := HOWR.out x hx; have e2 := HLT.out; omega, fun x hx => by have e1 := hh.out.2.2.1.lt x hx; have e2 := HLT.out; have e9 := HB0.out; omega⟩)
                  clear hh
                  go_wp2
                  go_meet
                  case rel => exact ⟨_, _, _, _, FIN⟩
                have hkl' : (q : Int) < (v31 : Int) := by omega
                cases bad with
                | true =>
                  have FIN := @hideH _ (show PS w wr g R A (.slice p l.length c) l n true (rcs ⟨((7 : Nat) : Int), v2, v3, 0, 0, 0, [], [], 0, rr, ds⟩ ⟨.slice none 0 0, .slice none 0 0, .slice pq rr.length cq, .slice pr ds.length cr⟩) ∧ Pg l (Ps.ret ⟨((7 : Nat) : Int), v2, v3, 0, 0, 0, [], [], 0, rr, ds⟩) n true ∧ SeeR wr ⟨.slice none 0 0, .slice none 0 0, .slice pq rr.length cq, .slice pr ds.length cr⟩ ⟨((7 : Nat) : Int), v2, v3, 0, 0, 0, [], [], 0, rr, ds⟩ ∧ NotA ⟨.slice none 0 0, .slice none 0 0, .slice pq rr.length cq, .slice pr ds.length cr⟩ A from ⟨hh.out.2.1, by rcases hh.out.2.2.2.1 with g0 | g0; (cases g0.1); exact .inr g0, ⟨Bs.nil _, Bs.nil _, hh.out.2.2.2.2.2.cs, hh.out.2.2.1.cs⟩, (NotA.nil A).1, (NotA.nil A).2.1, fun x hx => by have e1 := HOWR.out x hx; have e2 := HLT.out; omega, fun x hx => by have e1 := hh.out.2.2.1.lt x hx; have e2 := HLT.out; have e9 := HB0.out; omega⟩)
                  clear hh
                  go_wp2
                  go_meet
                  case rel => exact ⟨_, _, _, _, FIN⟩
                | false =>
                  obtain ⟨m, hm⟩ : ∃ m, v31 - q = m + 1 := ⟨v31 - q - 1, by omega⟩
                  have wk : IntKind.i64.wrap ((q : Int) + 1) = (q : Int) + 1 := wrap_i64_of (by omega) (by omega)
                  have G10 := @hideH _ hh.out.2.2.2.1
                  rw [hm, many_rec] at G10
                  obtain ⟨X, hX⟩ : ∃ X, X = wr.heap.size := ⟨_, rfl⟩
                  obtain ⟨w10, hw10⟩ : ∃ w10, w10 = wr.alloc (.cells #[.int .i64 0, .int .i64 0] 68) := ⟨_, rfl⟩
                  have ka : Kept [] wr w10 := by rw [hw10]; exact (Kept.refl [] wr).alloc _
                  have B10 := @hideH _ (show Blk w10 X 68 [.int .i64 0, .int .i64 0] by rw [hw10, hX]; exact Blk.new wr _ _)
                  have S10 := @hideH _ (hh.out.2.1.then ka)
                  have R10 := @hideH _ (hh.out.2.2.1.kept ka (by simp))
                  have HOW := @hideH _ (show ∀ x, (Value.slice pr ds.length cr).ownBlock = some x → x31.heap.size ≤ x ∧ x < X from fun x hx => by have := hh.out.2.2.1.lt x hx; omega)
                  have HXX := @hideH _ (show X ≠ g ∧ X ≠ R ∧ X ≠ A ∧ w.heap.size ≤ X by have e1 := HLT.out; have e2 := hh.out.2.2.2.2.1; have e3 := hh.out.2.1.kept.size; have e9 := HB0.out; omega)
                  have HHL := @hideH _ hh.out.1
                  have HSZ := @hideH _ (show x31.heap.size ≤ wr.heap.size from hh.out.2.2.2.2.1)
                  have HXR := @hideH _ (show x31.heap.size ≤ X by have := hh.out.2.2.2.2.1; omega)
                  have QX10 := @hideH _ (hh.out.2.2.2.2.2.kept ka (by simp))
                  have HW10 := @hideH _ hw10
                  have HXE := @hideH _ hX
                  have KA := @hideH _ ka
                  clear hh ka hw10 hX
                  go_upto_region 36 with fail
                  rw [← HW10.out, ← HXE.out]
                  clear HW10 t2
                  have hq := rTake g 1 n _ l false w10 S10.out.tape (by omega)
                  go_wp2_with fail
                  refine hq.mono ?_
                  clear hq
                  rintro e y10 ⟨z10, n10, b10, rfl, T10, K10, E10⟩
                  have U10 := @hideH _ (S10.out.took T10 K10)
                  have G11 := @hideH _ (G10.out.num E10.out)
                  have QY10 := @hideH _ (QX10.out.kept K10 (fun x hx hm => by simp at hm; have e1 := HOWR.out x hx; have e2 := HLT.out; omega))
                  have C10 := @hideH _ (B10.out.kept K10 (by simpa using HXX.out.1))
                  have W10 := @hideH _ (R10.out.kept K10 (fun x hx hm => by simp at hm; have e1 := HOW.out x hx; have e2 := HLT.out; have e9 := HB0.out; omega))
                  have cj := C10.out.cell (j := 0) rfl
                  have fj := C10.out.free 0
                  clear T10 K10 E10 S10 G10 B10 R10
                  go_upto_region 37 with fail
                  obtain ⟨w11, hw11⟩ : ∃ w11, w11 = y10.setCell ⟨X, 0, none⟩ (.int .i64 (z10 : Int)) := ⟨_, rfl⟩
                  rw [← hw11]
                  obtain ⟨bb, kb⟩ := C10.out.set 0 (.int .i64 (z10 : Int))
                  rw [← hw11] at bb kb
                  have S11 := @hideH _ (U10.out.others kb (fun x hx => by simp at hx; rw [hx]; exact HXX.out))
                  have R11 := @hideH _ (W10.out.kept kb (fun x hx hm => by simp at hm; have e1 := HOW.out x hx; omega))
                  have QX11 := @hideH _ (QY10.out.kept kb (fun x hx hm => by simp at hm; have e1 := HOWR.out x hx; have e2 := HXR.out; omega))
                  clear QX10 QY10
                  have B11 : Hid (Blk w11 X 68 [.int .i64 (z10 : Int), .int .i64 0]) := bb
                  clear bb kb hw11 U10 C10 W10 cj fj
                  have hq := rTake g 8 n10 _ l b10 w11 S11.out.tape (by omega)
                  go_wp2_with fail
                  refine hq.mono ?_
                  clear hq
                  rintro e y11 ⟨z11, n11, b11, rfl, T11, K11, E11⟩
                  have U11 := @hideH _ (S11.out.took T11 K11)
                  have G12 := @hideH _ (G11.out.num E11.out)
                  have QY11 := @hideH _ (QX11.out.kept K11 (fun x hx hm => by simp at hm; have e1 := HOWR.out x hx; have e2 := HLT.out; omega))
                  have C11 := @hideH _ (B11.out.kept K11 (by simpa using HXX.out.1))
                  have W11 := @hideH _ (R11.out.kept K11 (fun x hx hm => by simp at hm; have e1 := HOW.out x hx; have e2 := HLT.out; have e9 := HB0.out; omega))
                  have cj := C11.out.cell (j := 1) rfl
                  have fj := C11.out.free 1
                  clear T11 K11 E11 S11 G11 B11 R11
                  go_upto_region 38 with fail
                  obtain ⟨w12, hw12⟩ : ∃ w12, w12 = y11.setCell ⟨X, 1, none⟩ (.int .i64 (z11 : Int)) := ⟨_, rfl⟩
                  rw [← hw12]
                  obtain ⟨bb, kb⟩ := C11.out.set 1 (.int .i64 (z11 : Int))
                  rw [← hw12] at bb kb
                  have S12 := @hideH _ (U11.out.others kb (fun x hx => by simp at hx; rw [hx]; exact HXX.out))
                  have R12 := @hideH _ (W11.out.kept kb (fun x hx hm => by simp at hm; have e1 := HOW.out x hx; omega))
                  have QX12 := @hideH _ (QY11.out.kept kb (fun x hx hm => by simp at hm; have e1 := HOWR.out x hx; have e2 := HXR.out; omega))
                  clear QX11 QY11
                  have B12 : Hid (Blk w12 X 68 [.int .i64 (z10 : Int), .int .i64 (z11 : Int)]) := bb
                  clear bb kb hw12 U11 C11 W11 cj fj
                  have c9 := S12.out.rcd.cell (j := 10) rfl
                  have d0 := B12.out.cell (j := 0) rfl
                  have d1 := B12.out.cell (j := 1) rfl
                  obtain ⟨x, hx⟩ : ∃ x : RecR, x = ⟨(z10 : Int), (z11 : Int)⟩ := ⟨_, rfl⟩
                  have hsrc := src_rec (P := Try.prog) w12 24 68 Try.underlying24 ⟨(z10 : Int), (z11 : Int)⟩
                  dsimp only at hsrc
                  have hrk := @hideH _ (show ds.length ≤ 255 by rw [HHL.out]; omega)
                  have hsz9 := @hideH _ (show x31.heap.size ≤ w12.heap.size by have e1 := B12.out.lt; have e2 := HSZ.out; have e3 := HXE.out; omega)
                  go_wp2_with (at_builtin; refine wpList_append_row rfl (.tmp 119) (.tmp 121) 24 rfl x31.heap.size 68 inf2 (.agg #[.int .i64 0, .int .i64 0]) 2 16 Try.underlying24 HI2.out.1 HI2.out.2.1 HI2.out.2.2.1 HI2.out.2.2.2 rfl _ _ _ (by rfl) (R12.out.kept ((Kept.refl [] w12).alloc _) (by simp)) _ 1 (dcells [⟨(z10 : Int), (z11 : Int)⟩]) (by rfl) hsrc (by have := hrk.out; omega) (by have := hrk.out; unfold maxLen; omega) (by have := hrk.out; omega) (by have := hsz9.out; simp; omega) ?_; intro v20 w20 r20 k20 a20; have S20 := (S12.out.then ((Kept.refl [] w12).alloc (.cells #[.int .i64 (z10 : Int), .int .i64 (z11 : Int)] 68))).others k20 (fun x hx => by have e1 := HOW.out x (by simpa using hx); have e2 := HLT.out; have e3 := S12.out.kept.size; have e4 := S12.out.low; have e5 := HXX.out; have e6 := HBL.out; have e9 := HB0.out; omega); obtain ⟨p20, c20, e20, -, -⟩ := r20.shape; subst e20; have c20' := S20.rcd.cell (j := 10) rfl; have f20 := S20.rcd.free 10)
                  skip
                  have kR := (S20.rcd.set 10 (.slice p20 (ds.length + 1) c20)).2
                  have S21 := S20.set 10 (.slice p20 (ds.length + 1) c20)
                  have r21 := r20.kept kR (fun x hx hm => by simp at hm; have e1 := r20.lt x hx; have e2 := HLT.out; have e3 := HB0.out; omega)
                  have hl9 : (ds ++ [(⟨(z10 : Int), (z11 : Int)⟩ : RecR)]).length = ds.length + 1 := by simp
                  have q21 := (QX12.out.kept ((Kept.refl [] w12).alloc (.cells #[.int .i64 (z10 : Int), .int .i64 (z11 : Int)] 68)) (by simp)).kept k20 (fun x hx hm => by have e1 := HOWR.out x hx; have e2 := HOW.out x (by simpa using hm); omega)
                  have q22 := q21.kept kR (fun x hx hm => by simp at hm; have e1 := HOWR.out x hx; have e2 := HLT.out; omega)
                  have REL := @hideH _ (show (ds ++ [(⟨(z10 : Int), (z11 : Int)⟩ : RecR)]).length = q + 1 ∧ PS w (w20.setCell ⟨R, 10, none⟩ (.slice p20 (ds.length + 1) c20)) g R A (.slice p l.length c) l n11 b11 [(.int .i64 ((7 : Nat) : Int)), (.int .i64 (v2 : Int)), (.int .i64 (v3 : Int)), (.int .i64 0), (.int .i64 0), (.int .i64 0), (.slice none 0 0), (.slice none 0 0), (.int .i64 0), (.slice pq rr.length cq), (.slice p20 (ds ++ [(⟨(z10 : Int), (z11 : Int)⟩ : RecR)]).length c20)] ∧ Row (w20.setCell ⟨R, 10, none⟩ (.slice p20 (ds.length + 1) c20)) x31.heap.size 2 (.slice p20 (ds ++ [(⟨(z10 : Int), (z11 : Int)⟩ : RecR)]).length c20) (ds ++ [(⟨(z10 : Int), (z11 : Int)⟩ : RecR)]).length (dcells (ds ++ [(⟨(z10 : Int), (z11 : Int)⟩ : RecR)])) ∧ Pg l ((many pRec (v31 - (q + 1))).bind fun more => (fun ds => Ps.ret ⟨((7 : Nat) : Int), v2, v3, 0, 0, 0, [], [], 0, rr, ds⟩) ((ds ++ [(⟨(z10 : Int), (z11 : Int)⟩ : RecR)]) ++ more)) n11 b11 ∧ x31.heap.size ≤ (w20.setCell ⟨R, 10, none⟩ (.slice p20 (ds.length + 1) c20)).heap.size ∧ Row (w20.setCell ⟨R, 10, none⟩ (.slice p20 (ds.length + 1) c20)) x4.heap.size 5 (.slice pq rr.length cq) rr.length (rcells rr) from ⟨by rw [hl9, HHL.out], by rw [hl9]; exact S21, by rw [hl9, dcells_append]; exact r21, by rw [show v31 - (q + 1) = m by omega]; simp only [List.append_assoc, List.singleton_append]; exact G12.out, Nat.le_trans hsz9.out (by have e1 := kR.size; have e2 := k20.size; rw [World.size_alloc] at e2; omega), q22⟩)
                  clear S20 S21 r20 r21 k20 a20 kR c20' f20 hl9 c9 hsrc hx d0 d1 q21 q22 S12 R12 B12 G12
                  go_roundw
                  case rel => exact ⟨q + 1, n11, b11, ds ++ [(⟨(z10 : Int), (z11 : Int)⟩ : RecR)], p20, c20, by omega, by go_num, REL⟩
                  case measure => simp [intOf]; omega
          · have e7 : ((v1 : Int) == 7) = false := beq_eq_false_iff_ne.2 (fun e => h7 (by omega))
            have G5 := @hideH _ (show Pg l (Ps.ret ⟨(v1 : Int), v2, v3, 0, 0, 0, [], [], 0, [], []⟩) n3 b3 by have g4 := G4.out; unfold pTail at g4; rw [if_neg h1, if_neg h2, if_neg h3, if_neg h7] at g4; exact g4)
            have FIN := @hideH _ (show PS w w4 g R A (.slice p l.length c) l n3 b3 (rcs ⟨(v1 : Int), v2, v3, 0, 0, 0, [], [], 0, [], []⟩ ⟨.slice none 0 0, .slice none 0 0, .slice none 0 0, .slice none 0 0⟩) ∧ Pg l (Ps.ret ⟨(v1 : Int), v2, v3, 0, 0, 0, [], [], 0, [], []⟩) n3 b3 ∧ SeeR w4 ⟨.slice none 0 0, .slice none 0 0, .slice none 0 0, .slice none 0 0⟩ ⟨(v1 : Int), v2, v3, 0, 0, 0, [], [], 0, [], []⟩ ∧ NotA ⟨.slice none 0 0, .slice none 0 0, .slice none 0 0, .slice none 0 0⟩ A from ⟨S4.out, G5.out, ⟨Bs.nil _, Bs.nil _, Cs.nil _ _, Cs.nil _ _⟩, NotA.nil A⟩)
            clear S4 G4 G5
            go_wp2
            go_meet
            case rel => exact ⟨_, _, _, _, FIN⟩
  case rest =>
    obtain ⟨n, bad, r, V, hJ⟩ := hcut
    obtain ⟨pb, cb, pa, ca, pr, cr, pd, cd, rfl⟩ := hJ.out.2.2.1.shapes
    obtain ⟨kind, birth, prev, id, page, frm, before, after, next, rows, dirty⟩ := r
    clear S4 G4 c0 M1 M2 M3
    have t1 := hJ.out.1.tape.1.cell (j := 1) rfl
    have t2 := hJ.out.1.tape.1.cell (j := 2) rfl
    have c0 := hJ.out.1.rcd.cell (j := 0) rfl
    have a0 := hJ.out.1.res.cell (j := 0) rfl
    have f0 := hJ.out.1.res.free 0
    have c1 := hJ.out.1.rcd.cell (j := 1) rfl
    have a1 := hJ.out.1.res.cell (j := 1) rfl
    have f1 := hJ.out.1.res.free 1
    have c2 := hJ.out.1.rcd.cell (j := 2) rfl
    have a2 := hJ.out.1.res.cell (j := 2) rfl
    have f2 := hJ.out.1.res.free 2
    have c3 := hJ.out.1.rcd.cell (j := 3) rfl
    have a3 := hJ.out.1.res.cell (j := 3) rfl
    have f3 := hJ.out.1.res.free 3
    have c4 := hJ.out.1.rcd.cell (j := 4) rfl
    have a4 := hJ.out.1.res.cell (j := 4) rfl
    have f4 := hJ.out.1.res.free 4
    have c5 := hJ.out.1.rcd.cell (j := 5) rfl
    have a5 := hJ.out.1.res.cell (j := 5) rfl
    have f5 := hJ.out.1.res.free 5
    have c6 := hJ.out.1.rcd.cell (j := 6) rfl
    have a6 := hJ.out.1.res.cell (j := 6) rfl
    have f6 := hJ.out.1.res.free 6
    have c7 := hJ.out.1.rcd.cell (j := 7) rfl
    have a7 := hJ.out.1.res.cell (j := 7) rfl
    have f7 := hJ.out.1.res.free 7
    have c8 := hJ.out.1.rcd.cell (j := 8) rfl
    have a8 := hJ.out.1.res.cell (j := 8) rfl
    have f8 := hJ.out.1.res.free 8
    have c9 := hJ.out.1.rcd.cell (j := 9) rfl
    have a9 := hJ.out.1.res.cell (j := 9) rfl
    have f9 := hJ.out.1.res.free 9
    have c10 := hJ.out.1.rcd.cell (j := 10) rfl
    have a10 := hJ.out.1.res.cell (j := 10) rfl
    have f10 := hJ.out.1.res.free 10
    simp only at c0 c1 c2 c3 c4 c5 c6 c7 c8 c9 c10
    cases bad with
    | true =>
      have hno := @hideH _ (Pg.bad hJ.out.2.1)
      have HK := @hideH _ hJ.out.1.kept
      have HRB := @hideH _ hJ.out.1.res
      have HLW := @hideH _ hJ.out.1.low
      clear hJ
      obtain ⟨bF, kF⟩ := HRB.out.set11 (.int .i64 0) (.int .i64 0) (.int .i64 0) (.int .i64 0) (.int .i64 0) (.int .i64 0) (.slice none 0 0) (.slice none 0 0) (.int .i64 0) (.slice none 0 0) (.slice none 0 0)
      have z0 := bF.cell (j := 0) rfl
      have z1 := bF.cell (j := 1) rfl
      have z2 := bF.cell (j := 2) rfl
      have z3 := bF.cell (j := 3) rfl
      have z4 := bF.cell (j := 4) rfl
      have z5 := bF.cell (j := 5) rfl
      have z6 := bF.cell (j := 6) rfl
      have z7 := bF.cell (j := 7) rfl
      have z8 := bF.cell (j := 8) rfl
      have z9 := bF.cell (j := 9) rfl
      have z10 := bF.cell (j := 10) rfl
      have KF := @hideH _ (HK.out.trans kF (fun x hx => .inr (by simp at hx; rw [hx]; exact HLW.out.2.2)))
      clear bF
      clear kF
      go_wp2
      refine bodyPost_ret (by simp [results, Try.results23, go_sem, z0, z1, z2, z3, z4, z5, z6, z7, z8, z9, z10]; try rfl) rfl ?_
      exact ⟨⟨.slice none 0 0, .slice none 0 0, .slice none 0 0, .slice none 0 0⟩, ⟨0, 0, 0, 0, 0, 0, [], [], 0, [], []⟩, 90, rfl, ⟨Bs.nil _, Bs.nil _, Cs.nil _ _, Cs.nil _ _⟩, KF.out, .inr ⟨hno.out, rfl, rfl⟩⟩
    | false =>
      have HLW := @hideH _ hJ.out.1.low
      have HNL := @hideH _ hJ.out.1.tape.2.2.1
      by_cases hn : n = l.length
      rotate_left
      · have hno := @hideH _ (Pg.short hJ.out.2.1 hn HNL.out)
        have HK := @hideH _ hJ.out.1.kept
        have HRB := @hideH _ hJ.out.1.res
        have e1 : ((n : Int) != (l.length : Int)) = true := bne_iff_ne.2 (fun e => hn (by omega))
        have e2 : ¬ n = l.length := hn
        clear hJ hn
        obtain ⟨bF, kF⟩ := HRB.out.set11 (.int .i64 0) (.int .i64 0) (.int .i64 0) (.int .i64 0) (.int .i64 0) (.int .i64 0) (.slice none 0 0) (.slice none 0 0) (.int .i64 0) (.slice none 0 0) (.slice none 0 0)
        have z0 := bF.cell (j := 0) rfl
        have z1 := bF.cell (j := 1) rfl
        have z2 := bF.cell (j := 2) rfl
        have z3 := bF.cell (j := 3) rfl
        have z4 := bF.cell (j := 4) rfl
        have z5 := bF.cell (j := 5) rfl
        have z6 := bF.cell (j := 6) rfl
        have z7 := bF.cell (j := 7) rfl
        have z8 := bF.cell (j := 8) rfl
        have z9 := bF.cell (j := 9) rfl
        have z10 := bF.cell (j := 10) rfl
        have KF := @hideH _ (HK.out.trans kF (fun x hx => .inr (by simp at hx; rw [hx]; exact HLW.out.2.2)))
        clear bF
        clear kF
        go_wp2
        refine bodyPost_ret (by simp [results, Try.results23, go_sem, z0, z1, z2, z3, z4, z5, z6, z7, z8, z9, z10]; try rfl) rfl ?_
        exact ⟨⟨.slice none 0 0, .slice none 0 0, .slice none 0 0, .slice none 0 0⟩, ⟨0, 0, 0, 0, 0, 0, [], [], 0, [], []⟩, 90, rfl, ⟨Bs.nil _, Bs.nil _, Cs.nil _ _, Cs.nil _ _⟩, KF.out, .inr ⟨hno.out, rfl, rfl⟩⟩
      have hrt := rRight _ _ wc hJ.out.2.2.1
      unfold Rcd.agg at hrt
      dsimp only at hrt
      have e1 : ((n : Int) != (l.length : Int)) = false := by rw [hn]; simp
      have HN := @hideH _ hn
      clear hn
      by_cases hR : Rcd.Right ⟨kind, birth, prev, id, page, frm, before, after, next, rows, dirty⟩
      rotate_left
      · have hno := @hideH _ (Pg.wrong hJ.out.2.1 hR)
        rw [bl_f hR] at hrt
        have HK0 := @hideH _ hJ.out.1.kept
        have HRB0 := @hideH _ hJ.out.1.res
        clear hR hJ
        go_wp2_with fail
        refine hrt.mono ?_
        clear hrt
        rintro e wq ⟨rfl, kq⟩
        have HK := @hideH _ (HK0.out.then kq)
        have HRB := @hideH _ (HRB0.out.kept kq (by simp))
        clear kq t1 t2 c0 a0 f0 c1 a1 f1 c2 a2 f2 c3 a3 f3 c4 a4 f4 c5 a5 f5 c6 a6 f6 c7 a7 f7 c8 a8 f8 c9 a9 f9 c10 a10 f10
        have a0 := HRB.out.cell (j := 0) rfl
        have f0 := HRB.out.free 0
        have a1 := HRB.out.cell (j := 1) rfl
        have f1 := HRB.out.free 1
        have a2 := HRB.out.cell (j := 2) rfl
        have f2 := HRB.out.free 2
        have a3 := HRB.out.cell (j := 3) rfl
        have f3 := HRB.out.free 3
        have a4 := HRB.out.cell (j := 4) rfl
        have f4 := HRB.out.free 4
        have a5 := HRB.out.cell (j := 5) rfl
        have f5 := HRB.out.free 5
        have a6 := HRB.out.cell (j := 6) rfl
        have f6 := HRB.out.free 6
        have a7 := HRB.out.cell (j := 7) rfl
        have f7 := HRB.out.free 7
        have a8 := HRB.out.cell (j := 8) rfl
        have f8 := HRB.out.free 8
        have a9 := HRB.out.cell (j := 9) rfl
        have f9 := HRB.out.free 9
        have a10 := HRB.out.cell (j := 10) rfl
        have f10 := HRB.out.free 10
        obtain ⟨bF, kF⟩ := HRB.out.set11 (.int .i64 0) (.int .i64 0) (.int .i64 0) (.int .i64 0) (.int .i64 0) (.int .i64 0) (.slice none 0 0) (.slice none 0 0) (.int .i64 0) (.slice none 0 0) (.slice none 0 0)
        have z0 := bF.cell (j := 0) rfl
        have z1 := bF.cell (j := 1) rfl
        have z2 := bF.cell (j := 2) rfl
        have z3 := bF.cell (j := 3) rfl
        have z4 := bF.cell (j := 4) rfl
        have z5 := bF.cell (j := 5) rfl
        have z6 := bF.cell (j := 6) rfl
        have z7 := bF.cell (j := 7) rfl
        have z8 := bF.cell (j := 8) rfl
        have z9 := bF.cell (j := 9) rfl
        have z10 := bF.cell (j := 10) rfl
        have KF := @hideH _ (HK.out.trans kF (fun x hx => .inr (by simp at hx; rw [hx]; exact HLW.out.2.2)))
        clear bF
        clear kF
        go_wp2
        refine bodyPost_ret (by simp [results, Try.results23, go_sem, z0, z1, z2, z3, z4, z5, z6, z7, z8, z9, z10]; try rfl) rfl ?_
        exact ⟨⟨.slice none 0 0, .slice none 0 0, .slice none 0 0, .slice none 0 0⟩, ⟨0, 0, 0, 0, 0, 0, [], [], 0, [], []⟩, 90, rfl, ⟨Bs.nil _, Bs.nil _, Cs.nil _ _, Cs.nil _ _⟩, KF.out, .inr ⟨hno.out, rfl, rfl⟩⟩
      have hyes := @hideH _ (Pg.done hJ.out.2.1 HN.out hR)
      rw [bl_t hR] at hrt
      have HJ := hJ
      clear hR hJ
      go_wp2_with fail
      refine hrt.mono ?_
      clear hrt
      rintro e wq ⟨rfl, kq⟩
      have HK := @hideH _ (HJ.out.1.kept.then kq)
      have HRB := @hideH _ (HJ.out.1.res.kept kq (by simp))
      have HRC := @hideH _ (HJ.out.1.rcd.kept kq (by simp))
      have HSE := @hideH _ (HJ.out.2.2.1.kept kq)
      skip
      clear kq t1 t2 c0 a0 f0 c1 a1 f1 c2 a2 f2 c3 a3 f3 c4 a4 f4 c5 a5 f5 c6 a6 f6 c7 a7 f7 c8 a8 f8 c9 a9 f9 c10 a10 f10
      have c0 := HRC.out.cell (j := 0) rfl
      have a0 := HRB.out.cell (j := 0) rfl
      have f0 := HRB.out.free 0
      have c1 := HRC.out.cell (j := 1) rfl
      have a1 := HRB.out.cell (j := 1) rfl
      have f1 := HRB.out.free 1
      have c2 := HRC.out.cell (j := 2) rfl
      have a2 := HRB.out.cell (j := 2) rfl
      have f2 := HRB.out.free 2
      have c3 := HRC.out.cell (j := 3) rfl
      have a3 := HRB.out.cell (j := 3) rfl
      have f3 := HRB.out.free 3
      have c4 := HRC.out.cell (j := 4) rfl
      have a4 := HRB.out.cell (j := 4) rfl
      have f4 := HRB.out.free 4
      have c5 := HRC.out.cell (j := 5) rfl
      have a5 := HRB.out.cell (j := 5) rfl
      have f5 := HRB.out.free 5
      have c6 := HRC.out.cell (j := 6) rfl
      have a6 := HRB.out.cell (j := 6) rfl
      have f6 := HRB.out.free 6
      have c7 := HRC.out.cell (j := 7) rfl
      have a7 := HRB.out.cell (j := 7) rfl
      have f7 := HRB.out.free 7
      have c8 := HRC.out.cell (j := 8) rfl
      have a8 := HRB.out.cell (j := 8) rfl
      have f8 := HRB.out.free 8
      have c9 := HRC.out.cell (j := 9) rfl
      have a9 := HRB.out.cell (j := 9) rfl
      have f9 := HRB.out.free 9
      have c10 := HRC.out.cell (j := 10) rfl
      have a10 := HRB.out.cell (j := 10) rfl
      have f10 := HRB.out.free 10
      simp only at c0 c1 c2 c3 c4 c5 c6 c7 c8 c9 c10
      obtain ⟨bF, kF⟩ := HRB.out.set11 (.int .i64 kind) (.int .i64 birth) (.int .i64 prev) (.int .i64 id) (.int .i64 page) (.int .i64 frm) (.slice pb before.length cb) (.slice pa after.length ca) (.int .i64 next) (.slice pr rows.length cr) (.slice pd dirty.length cd)
      have z0 := bF.cell (j := 0) rfl
      have z1 := bF.cell (j := 1) rfl
      have z2 := bF.cell (j := 2) rfl
      have z3 := bF.cell (j := 3) rfl
      have z4 := bF.cell (j := 4) rfl
      have z5 := bF.cell (j := 5) rfl
      have z6 := bF.cell (j := 6) rfl
      have z7 := bF.cell (j := 7) rfl
      have z8 := bF.cell (j := 8) rfl
      have z9 := bF.cell (j := 9) rfl
      have z10 := bF.cell (j := 10) rfl
      have KF := @hideH _ (HK.out.trans kF (fun x hx => .inr (by simp at hx; rw [hx]; exact HLW.out.2.2)))
      clear bF
      have HSF := @hideH _ (HSE.out.over kF HJ.out.2.2.2)
      clear kF
      go_wp2
      refine bodyPost_ret (by simp [results, Try.results23, go_sem, z0, z1, z2, z3, z4, z5, z6, z7, z8, z9, z10]; try rfl) rfl ?_
      exact ⟨_, ⟨kind, birth, prev, id, page, frm, before, after, next, rows, dirty⟩, 0, rfl, HSF.out, KF.out, .inl ⟨hyes.out, rfl⟩⟩
end Go.Proofs.Ytebcmcmboomgfaa

