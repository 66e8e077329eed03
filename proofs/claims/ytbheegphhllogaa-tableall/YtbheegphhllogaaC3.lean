import Derived.Test.YtbheegphhllogaaC2
/-
  OWN WORK (by mktb9.py). The law: TableAll.
-/
namespace Go.Proofs.Ytbheegphhllogaa
open Go.RowKit
set_option linter.unusedVariables false
set_option linter.unusedSimpArgs false

/-- both tables of a pair, in the blocks U -/
def Hv (Tb : World → Nat → List Nat → Int → List RowR → Prop) (w : World) (m : Int) (gP gR : Nat) (U : List Nat) : Prop := ∃ F G S, U = F ++ G ∧ Tb w gP F m S ∧ Rt w gR G m S ∧ ∀ x ∈ F, x ∉ G
theorem Hv.kept {Tb : World → Nat → List Nat → Int → List RowR → Prop} (O : TbOps Tb) {w w' : World} {m : Int} {gP gR : Nat} {U D : List Nat} (h : Hv Tb w m gP gR U) (k : Kept D w w') (hD : ∀ x ∈ U, x ∉ D) : Hv Tb w' m gP gR U := by
  obtain ⟨F, G, S, rfl, h1, h2, h3⟩ := h
  exact ⟨F, G, S, rfl, O.kept h1 k (fun x hx => hD x (List.mem_append_left _ hx)), h2.kept k (fun x hx => hD x (List.mem_append_right _ hx)), h3⟩
theorem Hv.lt {Tb : World → Nat → List Nat → Int → List RowR → Prop} (O : TbOps Tb) {w : World} {m : Int} {gP gR : Nat} {U : List Nat} (h : Hv Tb w m gP gR U) : ∀ x ∈ U, x < w.heap.size := by
  obtain ⟨F, G, S, rfl, h1, h2, h3⟩ := h
  intro x hx
  rcases List.mem_append.1 hx with q | q
  · exact O.lt h1 x q
  · exact h2.lt x q
theorem Hv.step {Tb : World → Nat → List Nat → Int → List RowR → Prop} (O : TbOps Tb) {w : World} {m : Int} {gP gR : Nat} {U : List Nat} (h : Hv Tb w m gP gR U) (s : StepT) (nn : s.i64) : Calls Try.prog 19 #[.agg #[.pointer (some ⟨gP, 0, none⟩), .pointer (some ⟨gR, 0, none⟩)], .agg #[.bool s.second, .int .i64 s.kind, .int .i64 s.r.birth, .int .i64 s.r.id, .int .i64 s.r.state, .int .i64 s.r.last, .int .i64 s.r.next, .int .i64 s.n]] w fun e w' => e = .returned (.bool true) ∧ ∃ U', Hv Tb w' m gP gR U' ∧ Fr w U U' ∧ Kept U w w' := by
  obtain ⟨F, G, S, rfl, h1, h2, h3⟩ := h
  refine (step_any O s w h1 h2 h3 nn).mono ?_
  rintro e w' ⟨rfl, F', G', l, r, d, f1, f2, k⟩
  refine ⟨rfl, F' ++ G', ⟨F', G', _, rfl, l, r, d⟩, fun x hx => ?_, k⟩
  rcases List.mem_append.1 hx with q | q
  · exact (f1 x q).imp (List.mem_append_left _) id
  · exact (f2 x q).imp (List.mem_append_right _) id
/-- a pair beside the world that was, and its box -/
structure T1 (Tb : World → Nat → List Nat → Int → List RowR → Prop) (w wr : World) (m : Int) (g r bx yb : Nat) (U : List Nat) : Prop where
  h : Hv Tb wr m g r U
  x : Blk wr bx 47 [.pointer (some ⟨g, 0, none⟩), .pointer (some ⟨r, 0, none⟩)]
  kept : Kept [] w wr
  yl : yb < wr.heap.size
  o : ∀ z ∈ U, w.heap.size ≤ z ∧ z ≠ bx ∧ z ≠ yb
theorem T1.then {Tb : World → Nat → List Nat → Int → List RowR → Prop} (O : TbOps Tb) {w wr w' : World} {m : Int} {g r bx yb : Nat} {U D : List Nat} (t : T1 Tb w wr m g r bx yb U) (k : Kept D wr w') (hD : ∀ z ∈ D, z ∉ U ∧ w.heap.size ≤ z ∧ z ≠ bx) : T1 Tb w w' m g r bx yb U :=
  ⟨t.h.kept O k (fun x hx hm => (hD x hm).1 hx), t.x.kept k (fun hm => (hD _ hm).2.2 rfl), t.kept.trans k (fun z hz => .inr (hD z hz).2.1), Nat.lt_of_lt_of_le t.yl k.size, t.o⟩
theorem T1.step {Tb : World → Nat → List Nat → Int → List RowR → Prop} {w wr w' : World} {m : Int} {g r bx yb : Nat} {U U' : List Nat} (t : T1 Tb w wr m g r bx yb U) (h : Hv Tb w' m g r U') (fr : Fr wr U U') (k : Kept U wr w') : T1 Tb w w' m g r bx yb U' :=
  ⟨h, t.x.kept k (fun hm => (t.o _ hm).2.1 rfl), t.kept.trans k (fun z hz => .inr (t.o z hz).1), Nat.lt_of_lt_of_le t.yl k.size, fun z hz => by
    rcases fr z hz with q | q
    · exact t.o z q
    · have e1 := t.x.lt; have e2 := t.yl; have e3 := t.kept.size; omega⟩
/-- two pairs that share nothing -/
structure T2 (Tb : World → Nat → List Nat → Int → List RowR → Prop) (w wr : World) (m1 : Int) (g1 r1 bx : Nat) (U1 : List Nat) (m2 : Int) (g2 r2 yb : Nat) (U2 : List Nat) : Prop where
  a : T1 Tb w wr m1 g1 r1 bx yb U1
  b : T1 Tb w wr m2 g2 r2 yb bx U2
  sep : ∀ z ∈ U1, z ∉ U2
theorem T2.then {Tb : World → Nat → List Nat → Int → List RowR → Prop} (O : TbOps Tb) {w wr w' : World} {m1 : Int} {g1 r1 bx : Nat} {U1 : List Nat} {m2 : Int} {g2 r2 yb : Nat} {U2 : List Nat} (t : T2 Tb w wr m1 g1 r1 bx U1 m2 g2 r2 yb U2) (k : Kept [] wr w') : T2 Tb w w' m1 g1 r1 bx U1 m2 g2 r2 yb U2 := ⟨t.a.then O k (by simp), t.b.then O k (by simp), t.sep⟩
theorem T2.step1 {Tb : World → Nat → List Nat → Int → List RowR → Prop} (O : TbOps Tb) {w wr w' : World} {m1 : Int} {g1 r1 bx : Nat} {U1 U' : List Nat} {m2 : Int} {g2 r2 yb : Nat} {U2 : List Nat} (t : T2 Tb w wr m1 g1 r1 bx U1 m2 g2 r2 yb U2) (h : Hv Tb w' m1 g1 r1 U') (fr : Fr wr U1 U') (k : Kept U1 wr w') : T2 Tb w w' m1 g1 r1 bx U' m2 g2 r2 yb U2 :=
  ⟨t.a.step h fr k, t.b.then O k (fun z hz => ⟨t.sep z hz, (t.a.o z hz).1, (t.a.o z hz).2.2⟩), dis_left t.sep fr (t.b.h.lt O)⟩
theorem T2.step2 {Tb : World → Nat → List Nat → Int → List RowR → Prop} (O : TbOps Tb) {w wr w' : World} {m1 : Int} {g1 r1 bx : Nat} {U1 U' : List Nat} {m2 : Int} {g2 r2 yb : Nat} {U2 : List Nat} (t : T2 Tb w wr m1 g1 r1 bx U1 m2 g2 r2 yb U2) (h : Hv Tb w' m2 g2 r2 U') (fr : Fr wr U2 U') (k : Kept U2 wr w') : T2 Tb w w' m1 g1 r1 bx U1 m2 g2 r2 yb U' :=
  ⟨t.a.then O k (fun z hz => ⟨fun hm => t.sep z hm hz, (t.b.o z hz).1, (t.b.o z hz).2.2⟩), t.b.step h fr k, dis_right t.sep fr (t.a.h.lt O)⟩
theorem newA {Tb : World → Nat → List Nat → Int → List RowR → Prop} (O : TbOps Tb) (most : Int) (w : World) (h : isM most) (hi : I64 most) : Calls Try.prog 16 #[.int .i64 most] w fun e w' => ∃ g F, e = .returned (.tuple #[.pointer (some ⟨g, 0, none⟩), .int .i64 0]) ∧ Tb w' g F most [] ∧ (∀ x ∈ F, w.heap.size ≤ x) ∧ Kept [] w w' := by
  refine (O.new most w hi).mono ?_
  rintro e w' (⟨-, q⟩ | ⟨q, -⟩)
  · exact q
  · exact absurd h q
theorem newN {Tb : World → Nat → List Nat → Int → List RowR → Prop} (O : TbOps Tb) (most : Int) (w : World) (h : ¬ isM most) (hi : I64 most) : Calls Try.prog 16 #[.int .i64 most] w fun e w' => e = .returned (.tuple #[.pointer none, .int .i64 161]) ∧ Kept [] w w' := by
  refine (O.new most w hi).mono ?_
  rintro e w' (⟨q, -⟩ | ⟨-, q⟩)
  · exact absurd q h
  · exact q
theorem rNewA (most : Int) (w : World) (h : isM most) : Calls Try.prog 18 #[.int .i64 most] w fun e w' => e = .returned (.tuple #[.pointer (some ⟨w.heap.size, 0, none⟩), .int .i64 0]) ∧ Rt w' w.heap.size [w.heap.size] most [] ∧ Kept [] w w' := by
  refine (rNew most w).mono ?_
  rintro e w' (⟨-, q⟩ | ⟨q, -⟩)
  · exact q
  · exact absurd h q
theorem rNewN (most : Int) (w : World) (h : ¬ isM most) : Calls Try.prog 18 #[.int .i64 most] w fun e w' => e = .returned (.tuple #[.pointer none, .int .i64 161]) ∧ Kept [] w w' := by
  refine (rNew most w).mono ?_
  rintro e w' (⟨q, -⟩ | ⟨-, q⟩)
  · exact absurd q h
  · exact q
def endS : StepT := ⟨false, 5, rowZ, 0⟩
theorem endS_i64 : endS.i64 := ⟨i64_small (by decide) (by decide), ⟨i64_small (by decide) (by decide), i64_small (by decide) (by decide), i64_small (by decide) (by decide), i64_small (by decide) (by decide), i64_small (by decide) (by decide)⟩, i64_small (by decide) (by decide)⟩
set_option maxRecDepth 20000 in
set_option maxHeartbeats 12800000 in
theorem all_11 {Tb : World → Nat → List Nat → Int → List RowR → Prop} (O : TbOps Tb) (most other : Int) (v : Value) (ss : List StepT) (w : World) (hi1 : I64 most) (hi2 : I64 other) (m1 : isM most) (m2 : isM other) (hS : Scr w v ss) : Calls Try.prog 6 #[.int .i64 most, .int .i64 other, v] w fun e w' => e = .returned (.bool true) ∧ Kept [] w w' := by
  obtain ⟨ps, cs, hv, hml⟩ := hS.shape
  subst hv
  obtain ⟨n, hn⟩ : ∃ n, n = ss.length := ⟨_, rfl⟩
  have HS := @hideH _ hS
  have HN := @hideH _ (And.intro hn hml)
  rw [← hn]
  clear hS hml hn
  have HM := @hideH _ (And.intro m1 (And.intro m2 (And.intro hi1 hi2)))
  clear m1 m2 hi1 hi2
  go_enter Try.func6, Try.ntmps6
  go_wp2_with fail
  refine (newA O most w HM.out.1 HM.out.2.2.1).mono ?_
  rintro e w1 ⟨g1, F1, rfl, l1, f1, kw1⟩
  go_wp2_with fail
  refine (rNewA most w1 HM.out.1).mono ?_
  rintro e w2 ⟨rfl, r1, kw2⟩
  have t1 := O.lt l1
  have u1 := r1.lt _ (List.mem_cons_self)
  go_wp2_with fail
  refine (newA O other w2 HM.out.2.1 HM.out.2.2.2).mono ?_
  rintro e w3 ⟨g2, F2, rfl, l2, f2, kw3⟩
  go_wp2_with fail
  refine (rNewA other w3 HM.out.2.1).mono ?_
  rintro e w4 ⟨rfl, r2, kw4⟩
  have t2 := O.lt l2
  have u2 := r2.lt _ (List.mem_cons_self)
  go_wp2_with fail
  refine (known_any O w4).mono ?_
  rintro e w5 ⟨rfl, kw5⟩
  obtain ⟨w6, hw6⟩ : ∃ wx, wx = w5.alloc (.cells #[.pointer (some ⟨g1, 0, none⟩), .pointer (some ⟨w1.heap.size, 0, none⟩)] 47) := ⟨_, rfl⟩
  have kw6 : Kept [] w5 w6 := by rw [hw6]; exact (Kept.refl [] w5).alloc _
  have b1 : Blk w6 w5.heap.size 47 [.pointer (some ⟨g1, 0, none⟩), .pointer (some ⟨w1.heap.size, 0, none⟩)] := by rw [hw6]; exact Blk.new w5 _ _
  obtain ⟨w7, hw7⟩ : ∃ wx, wx = w6.alloc (.cells #[.pointer (some ⟨g2, 0, none⟩), .pointer (some ⟨w3.heap.size, 0, none⟩)] 47) := ⟨_, rfl⟩
  have kw7 : Kept [] w6 w7 := by rw [hw7]; exact (Kept.refl [] w6).alloc _
  have b2 : Blk w7 w6.heap.size 47 [.pointer (some ⟨g2, 0, none⟩), .pointer (some ⟨w3.heap.size, 0, none⟩)] := by rw [hw7]; exact Blk.new w6 _ _
  go_upto_region 9 with fail
  rw [← hw6, ← hw7]
  have e6 : w6.heap.size = w5.heap.size + 1 := by rw [hw6, World.size_alloc]
  clear hw6 hw7
  have k47 := (kw5.then kw6).then kw7
  have s1 := kw1.size
  have s2 := kw2.size
  have s3 := kw3.size
  have s4 := kw4.size
  have s5 := kw5.size
  have s6 : w5.heap.size < w6.heap.size := b1.lt
  have s7 : w6.heap.size < w7.heap.size := b2.lt
  have kall := ((kw1.then kw2).then (kw3.then kw4)).then k47
  have A1 : T1 Tb w w7 most g1 w1.heap.size w5.heap.size w6.heap.size (F1 ++ [w1.heap.size]) := ⟨⟨F1, _, [], rfl, O.kept l1 (kw2.then ((kw3.then kw4).then k47)) (by simp), r1.kept ((kw3.then kw4).then k47) (by simp), fun x hx hm => by have := t1 x hx; simp at hm; omega⟩, b1.kept kw7 (by simp), kall, s7, fun z hz => by
    rcases List.mem_append.1 hz with q | q
    · have e1 := f1 z q; have e2 := t1 z q; omega
    · simp at q; omega⟩
  have A2 : T1 Tb w w7 other g2 w3.heap.size w6.heap.size w5.heap.size (F2 ++ [w3.heap.size]) := ⟨⟨F2, _, [], rfl, O.kept l2 (kw4.then k47) (by simp), r2.kept k47 (by simp), fun x hx hm => by have := t2 x hx; simp at hm; omega⟩, b2, kall, by omega, fun z hz => by
    rcases List.mem_append.1 hz with q | q
    · have e1 := f2 z q; have e2 := t2 z q; omega
    · simp at q; omega⟩
  have A := (⟨A1, A2, fun z hz hm => by
    have e1 : z < w2.heap.size := by rcases List.mem_append.1 hz with q | q; have := t1 z q; omega; simp at q; omega
    rcases List.mem_append.1 hm with q | q
    · have := f2 z q; omega
    · simp at q; omega⟩ : T2 Tb w w7 most g1 w1.heap.size w5.heap.size _ other g2 w3.heap.size w6.heap.size _)
  try rw [e6] at A
  obtain ⟨yb, hyb⟩ : ∃ n, n = w5.heap.size + 1 := ⟨_, rfl⟩
  try rw [← hyb] at A
  try rw [← hyb]
  obtain ⟨bx, hbx⟩ : ∃ n, n = w5.heap.size := ⟨_, rfl⟩
  try rw [← hbx] at A
  try rw [← hbx]
  obtain ⟨R1, hR1⟩ : ∃ n, n = w1.heap.size := ⟨_, rfl⟩
  try rw [← hR1] at A
  try rw [← hR1]
  obtain ⟨R2, hR2⟩ : ∃ n, n = w3.heap.size := ⟨_, rfl⟩
  try rw [← hR2] at A
  try rw [← hR2]
  have HA := @hideH _ A
  clear A kw1 kw2 kw3 kw4 kw5 kw6 kw7 k47 kall s1 s2 s3 s4 s5 s6 s7 b1 b2 hbx hyb e6 l1 r1 f1 t1 u1 A1 hR1 l2 r2 f2 t2 u2 A2 hR2
  go_wp2
  go_loopw [17] (fun vi wr => ∃ k : Nat, k ≤ n ∧ vi = .int .i64 k ∧ Hid (∃ U1 U2, T2 Tb w wr most g1 R1 bx U1 other g2 R2 yb U2)) (fun vi _ => n - (intOf vi).toNat)
  case atStart => exact ⟨0, Nat.zero_le _, rfl, _, _, HA.out⟩
  case round =>
    clear HA
    obtain ⟨k, hk, rfl, hh⟩ := hrel
    obtain ⟨U1, U2, A⟩ := hh.out
    clear hh
    have HA := @hideH _ A
    have x0 := A.a.x.cell (j := 0) rfl
    have x1 := A.a.x.cell (j := 1) rfl
    have y0 := A.b.x.cell (j := 0) rfl
    have y1 := A.b.x.cell (j := 1) rfl
    clear A
    by_cases hkl : k < n
    · have hkl' : (k : Int) < (n : Int) := by omega
      have hk0 : (0 : Int) ≤ (k : Int) := by omega
      have wk : IntKind.i64.wrap ((k : Int) + 1) = (k : Int) + 1 := wrap_i64_of (by omega) (by have e1 := HN.out.1; have e2 := HN.out.2; unfold maxLen at e2; omega)
      obtain ⟨s, hs⟩ : ∃ s, ss[k]? = some s := ⟨_, List.getElem?_eq_getElem (by have := HN.out.1; omega)⟩
      obtain ⟨sb, so, sc, es, ⟨c0, c1, c2, c3, c4, c5, c6, c7⟩, nn⟩ := HS.out.at hs
      cases es
      have d0 := HA.out.a.kept.cell c0 (by simp)
      have d1 := HA.out.a.kept.cell c1 (by simp)
      have d2 := HA.out.a.kept.cell c2 (by simp)
      have d3 := HA.out.a.kept.cell c3 (by simp)
      have d4 := HA.out.a.kept.cell c4 (by simp)
      have d5 := HA.out.a.kept.cell c5 (by simp)
      have d6 := HA.out.a.kept.cell c6 (by simp)
      have d7 := HA.out.a.kept.cell c7 (by simp)
      have hsb : sb < w.heap.size := lt_of_cell c0
      have HSB := @hideH _ (show sb < w.heap.size from hsb)
      clear hsb
      have HNN := @hideH _ nn
      clear c0 c1 c2 c3 c4 c5 c6 c7 nn hs
      by_cases hsec : s.second = true
      · have hsec' : s.second = true := by simpa using hsec
        rw [hsec'] at d0
        have AX := HA.out.then O (Kept.refl [] wr).drew
        have hst := Hv.step O (AX.b.h) s HNN.out
        rw [hsec'] at hst
        have HST := @hideH _ hst
        have ns : sb ∉ U2 := fun hx => by have e1 := (HA.out.b.o sb hx).1; have e2 := HSB.out; omega
        have nb : yb ∉ U2 := fun hx => (HA.out.b.o _ hx).2.1 rfl
        clear hsec AX hst hsec'
        have kx : Kept U2 wr wr.drew := (Kept.refl _ wr).drew
        go_upto_region 14 with fail
        go_region_held3 (fun w' => w'.cell? ⟨yb, 0, none⟩ = some (.pointer (some ⟨g2, 0, none⟩)) ∧ w'.cell? ⟨yb, 1, none⟩ = some (.pointer (some ⟨R2, 0, none⟩)) ∧ w'.cell? ⟨sb, so + k * 8, none⟩ = some (.bool true) ∧ w'.cell? ⟨sb, so + k * 8 + 1, none⟩ = some (.int .i64 s.kind) ∧ w'.cell? ⟨sb, so + k * 8 + 2, none⟩ = some (.int .i64 s.r.birth) ∧ w'.cell? ⟨sb, so + k * 8 + 3, none⟩ = some (.int .i64 s.r.id) ∧ w'.cell? ⟨sb, so + k * 8 + 4, none⟩ = some (.int .i64 s.r.state) ∧ w'.cell? ⟨sb, so + k * 8 + 5, none⟩ = some (.int .i64 s.r.last) ∧ w'.cell? ⟨sb, so + k * 8 + 6, none⟩ = some (.int .i64 s.r.next) ∧ w'.cell? ⟨sb, so + k * 8 + 7, none⟩ = some (.int .i64 s.n))
          (first
            | (exact ⟨kx.cell y0 nb, kx.cell y1 nb, kx.cell d0 ns, kx.cell d1 ns, kx.cell d2 ns, kx.cell d3 ns, kx.cell d4 ns, kx.cell d5 ns, kx.cell d6 ns, kx.cell d7 ns⟩)
            | fail)
          (first
            | (go_at_call 19; refine HST.out.mono ?_; clear HST; rintro e w8 ⟨rfl, U8, h8, fr8, k8⟩; replace kx := kx.trans k8 (fun x hx => .inl hx); have AN := HA.out.step2 O h8 fr8 kx)
            | fail)
        have HAN := @hideH _ AN
        clear AN h8 fr8 k8 kx
        go_wp2
        go_roundw
        case rel => exact ⟨k + 1, by omega, by go_num, _, _, HAN.out⟩
        case measure => simp [intOf]; omega
      · have hsec' : s.second = false := by simpa using hsec
        rw [hsec'] at d0
        have AX := HA.out.then O (Kept.refl [] wr).drew
        have hst := Hv.step O (AX.a.h) s HNN.out
        rw [hsec'] at hst
        have HST := @hideH _ hst
        have ns : sb ∉ U1 := fun hx => by have e1 := (HA.out.a.o sb hx).1; have e2 := HSB.out; omega
        have nb : bx ∉ U1 := fun hx => (HA.out.a.o _ hx).2.1 rfl
        clear hsec AX hst hsec'
        have kx : Kept U1 wr wr.drew := (Kept.refl _ wr).drew
        go_upto_region 16 with fail
        go_region_held3 (fun w' => w'.cell? ⟨bx, 0, none⟩ = some (.pointer (some ⟨g1, 0, none⟩)) ∧ w'.cell? ⟨bx, 1, none⟩ = some (.pointer (some ⟨R1, 0, none⟩)) ∧ w'.cell? ⟨sb, so + k * 8, none⟩ = some (.bool false) ∧ w'.cell? ⟨sb, so + k * 8 + 1, none⟩ = some (.int .i64 s.kind) ∧ w'.cell? ⟨sb, so + k * 8 + 2, none⟩ = some (.int .i64 s.r.birth) ∧ w'.cell? ⟨sb, so + k * 8 + 3, none⟩ = some (.int .i64 s.r.id) ∧ w'.cell? ⟨sb, so + k * 8 + 4, none⟩ = some (.int .i64 s.r.state) ∧ w'.cell? ⟨sb, so + k * 8 + 5, none⟩ = some (.int .i64 s.r.last) ∧ w'.cell? ⟨sb, so + k * 8 + 6, none⟩ = some (.int .i64 s.r.next) ∧ w'.cell? ⟨sb, so + k * 8 + 7, none⟩ = some (.int .i64 s.n))
          (first
            | (exact ⟨kx.cell x0 nb, kx.cell x1 nb, kx.cell d0 ns, kx.cell d1 ns, kx.cell d2 ns, kx.cell d3 ns, kx.cell d4 ns, kx.cell d5 ns, kx.cell d6 ns, kx.cell d7 ns⟩)
            | fail)
          (first
            | (go_at_call 19; refine HST.out.mono ?_; clear HST; rintro e w8 ⟨rfl, U8, h8, fr8, k8⟩; replace kx := kx.trans k8 (fun x hx => .inl hx); have AN := HA.out.step1 O h8 fr8 kx)
            | fail)
        have HAN := @hideH _ AN
        clear AN h8 fr8 k8 kx
        go_wp2
        go_roundw
        case rel => exact ⟨k + 1, by omega, by go_num, _, _, HAN.out⟩
        case measure => simp [intOf]; omega
    · have hkl' : ¬ (k : Int) < (n : Int) := by omega
      obtain ⟨wz, hwz⟩ : ∃ wx, wx = wr.alloc (.cells #[.bool false, .int .i64 5, .int .i64 0, .int .i64 0, .int .i64 0, .int .i64 0, .int .i64 0, .int .i64 0] 49) := ⟨_, rfl⟩
      have kz : Kept [] wr wz := by rw [hwz]; exact (Kept.refl [] wr).alloc _
      have E : Blk wz wr.heap.size 49 [.bool false, .int .i64 5, .int .i64 0, .int .i64 0, .int .i64 0, .int .i64 0, .int .i64 0, .int .i64 0] := by rw [hwz]; exact Blk.new wr _ _
      have e0 := E.cell (j := 0) rfl
      have e1 := E.cell (j := 1) rfl
      have e2 := E.cell (j := 2) rfl
      have e3 := E.cell (j := 3) rfl
      have e4 := E.cell (j := 4) rfl
      have e5 := E.cell (j := 5) rfl
      have e6 := E.cell (j := 6) rfl
      have e7 := E.cell (j := 7) rfl
      have AZ := HA.out.then O kz
      replace x0 := kz.cell x0 (by simp)
      replace x1 := kz.cell x1 (by simp)
      replace y0 := kz.cell y0 (by simp)
      replace y1 := kz.cell y1 (by simp)
      have EL := E.lt
      have nE : ∀ z, (z ∈ U1 ∨ z ∈ U2) → z ≠ wr.heap.size := fun z hz => by rcases hz with q | q; have := HA.out.a.h.lt O z q; omega; have := HA.out.b.h.lt O z q; omega
      have HAZ := @hideH _ AZ
      clear AZ kz E EL
      go_upto_region 20 with fail
      rw [← hwz]
      clear hwz
      have hst := Hv.step O HAZ.out.a.h endS endS_i64
      simp only [endS, rowZ] at hst
      have HST := @hideH _ hst
      clear hst
      go_wp2_with fail
      refine HST.out.mono ?_
      clear HST
      rintro e w8 ⟨rfl, Uw8, hw8, frw8, kw8⟩
      have A8 := HAZ.out.step1 O hw8 frw8 kw8
      replace y0 := kw8.cell y0 (fun hm => (HAZ.out.a.o _ hm).2.2 rfl)
      replace y1 := kw8.cell y1 (fun hm => (HAZ.out.a.o _ hm).2.2 rfl)
      replace e0 := kw8.cell e0 (fun hm => nE _ (.inl hm) rfl)
      replace e1 := kw8.cell e1 (fun hm => nE _ (.inl hm) rfl)
      replace e2 := kw8.cell e2 (fun hm => nE _ (.inl hm) rfl)
      replace e3 := kw8.cell e3 (fun hm => nE _ (.inl hm) rfl)
      replace e4 := kw8.cell e4 (fun hm => nE _ (.inl hm) rfl)
      replace e5 := kw8.cell e5 (fun hm => nE _ (.inl hm) rfl)
      replace e6 := kw8.cell e6 (fun hm => nE _ (.inl hm) rfl)
      replace e7 := kw8.cell e7 (fun hm => nE _ (.inl hm) rfl)
      have HA8 := @hideH _ A8
      clear A8 hw8 frw8 kw8 x0 x1 nE
      have hst := Hv.step O HA8.out.b.h endS endS_i64
      simp only [endS, rowZ] at hst
      have HST := @hideH _ hst
      clear hst
      go_wp2_with fail
      refine HST.out.mono ?_
      clear HST
      rintro e w9 ⟨rfl, Uw9, hw9, frw9, kw9⟩
      have KE := @hideH _ (HA8.out.b.step hw9 frw9 kw9).kept
      clear hw9 frw9 kw9
      go_wp2
      go_ret
      exact ⟨by first | rfl | simp, KE.out⟩
set_option maxRecDepth 20000 in
set_option maxHeartbeats 12800000 in
theorem all_10 {Tb : World → Nat → List Nat → Int → List RowR → Prop} (O : TbOps Tb) (most other : Int) (v : Value) (ss : List StepT) (w : World) (hi1 : I64 most) (hi2 : I64 other) (m1 : isM most) (m2 : ¬ isM other) (hS : Scr w v ss) : Calls Try.prog 6 #[.int .i64 most, .int .i64 other, v] w fun e w' => e = .returned (.bool true) ∧ Kept [] w w' := by
  obtain ⟨ps, cs, hv, hml⟩ := hS.shape
  subst hv
  obtain ⟨n, hn⟩ : ∃ n, n = ss.length := ⟨_, rfl⟩
  have HS := @hideH _ hS
  have HN := @hideH _ (And.intro hn hml)
  rw [← hn]
  clear hS hml hn
  have HM := @hideH _ (And.intro m1 (And.intro m2 (And.intro hi1 hi2)))
  clear m1 m2 hi1 hi2
  go_enter Try.func6, Try.ntmps6
  go_wp2_with fail
  refine (newA O most w HM.out.1 HM.out.2.2.1).mono ?_
  rintro e w1 ⟨g1, F1, rfl, l1, f1, kw1⟩
  go_wp2_with fail
  refine (rNewA most w1 HM.out.1).mono ?_
  rintro e w2 ⟨rfl, r1, kw2⟩
  have t1 := O.lt l1
  have u1 := r1.lt _ (List.mem_cons_self)
  go_wp2_with fail
  refine (newN O other w2 HM.out.2.1 HM.out.2.2.2).mono ?_
  rintro e w3 ⟨rfl, kw3⟩
  go_wp2_with fail
  refine (rNewN other w3 HM.out.2.1).mono ?_
  rintro e w4 ⟨rfl, kw4⟩
  go_wp2_with fail
  refine (known_any O w4).mono ?_
  rintro e w5 ⟨rfl, kw5⟩
  obtain ⟨w6, hw6⟩ : ∃ wx, wx = w5.alloc (.cells #[.pointer (some ⟨g1, 0, none⟩), .pointer (some ⟨w1.heap.size, 0, none⟩)] 47) := ⟨_, rfl⟩
  have kw6 : Kept [] w5 w6 := by rw [hw6]; exact (Kept.refl [] w5).alloc _
  have b1 : Blk w6 w5.heap.size 47 [.pointer (some ⟨g1, 0, none⟩), .pointer (some ⟨w1.heap.size, 0, none⟩)] := by rw [hw6]; exact Blk.new w5 _ _
  obtain ⟨w7, hw7⟩ : ∃ wx, wx = w6.alloc (.cells #[.pointer none, .pointer none] 47) := ⟨_, rfl⟩
  have kw7 : Kept [] w6 w7 := by rw [hw7]; exact (Kept.refl [] w6).alloc _
  have b2 : Blk w7 w6.heap.size 47 [.pointer none, .pointer none] := by rw [hw7]; exact Blk.new w6 _ _
  go_upto_region 9 with fail
  rw [← hw6, ← hw7]
  have e6 : w6.heap.size = w5.heap.size + 1 := by rw [hw6, World.size_alloc]
  clear hw6 hw7
  have k47 := (kw5.then kw6).then kw7
  have s1 := kw1.size
  have s2 := kw2.size
  have s3 := kw3.size
  have s4 := kw4.size
  have s5 := kw5.size
  have s6 : w5.heap.size < w6.heap.size := b1.lt
  have s7 : w6.heap.size < w7.heap.size := b2.lt
  have kall := ((kw1.then kw2).then (kw3.then kw4)).then k47
  have A1 : T1 Tb w w7 most g1 w1.heap.size w5.heap.size w6.heap.size (F1 ++ [w1.heap.size]) := ⟨⟨F1, _, [], rfl, O.kept l1 (kw2.then ((kw3.then kw4).then k47)) (by simp), r1.kept ((kw3.then kw4).then k47) (by simp), fun x hx hm => by have := t1 x hx; simp at hm; omega⟩, b1.kept kw7 (by simp), kall, s7, fun z hz => by
    rcases List.mem_append.1 hz with q | q
    · have e1 := f1 z q; have e2 := t1 z q; omega
    · simp at q; omega⟩
  have A := A1
  try rw [e6] at A
  obtain ⟨yb, hyb⟩ : ∃ n, n = w5.heap.size + 1 := ⟨_, rfl⟩
  try rw [← hyb] at A
  try rw [← hyb]
  obtain ⟨bx, hbx⟩ : ∃ n, n = w5.heap.size := ⟨_, rfl⟩
  try rw [← hbx] at A
  try rw [← hbx]
  obtain ⟨R1, hR1⟩ : ∃ n, n = w1.heap.size := ⟨_, rfl⟩
  try rw [← hR1] at A
  try rw [← hR1]
  have HA := @hideH _ A
  clear A kw1 kw2 kw3 kw4 kw5 kw6 kw7 k47 kall s1 s2 s3 s4 s5 s6 s7 b1 b2 hbx hyb e6 l1 r1 f1 t1 u1 A1 hR1
  go_wp2
  go_loopw [17] (fun vi wr => ∃ k : Nat, k ≤ n ∧ vi = .int .i64 k ∧ Hid (∃ U1, T1 Tb w wr most g1 R1 bx yb U1)) (fun vi _ => n - (intOf vi).toNat)
  case atStart => exact ⟨0, Nat.zero_le _, rfl, _, HA.out⟩
  case round =>
    clear HA
    obtain ⟨k, hk, rfl, hh⟩ := hrel
    obtain ⟨U1, A⟩ := hh.out
    clear hh
    have HA := @hideH _ A
    have x0 := A.x.cell (j := 0) rfl
    have x1 := A.x.cell (j := 1) rfl
    clear A
    by_cases hkl : k < n
    · have hkl' : (k : Int) < (n : Int) := by omega
      have hk0 : (0 : Int) ≤ (k : Int) := by omega
      have wk : IntKind.i64.wrap ((k : Int) + 1) = (k : Int) + 1 := wrap_i64_of (by omega) (by have e1 := HN.out.1; have e2 := HN.out.2; unfold maxLen at e2; omega)
      obtain ⟨s, hs⟩ : ∃ s, ss[k]? = some s := ⟨_, List.getElem?_eq_getElem (by have := HN.out.1; omega)⟩
      obtain ⟨sb, so, sc, es, ⟨c0, c1, c2, c3, c4, c5, c6, c7⟩, nn⟩ := HS.out.at hs
      cases es
      have d0 := HA.out.kept.cell c0 (by simp)
      have d1 := HA.out.kept.cell c1 (by simp)
      have d2 := HA.out.kept.cell c2 (by simp)
      have d3 := HA.out.kept.cell c3 (by simp)
      have d4 := HA.out.kept.cell c4 (by simp)
      have d5 := HA.out.kept.cell c5 (by simp)
      have d6 := HA.out.kept.cell c6 (by simp)
      have d7 := HA.out.kept.cell c7 (by simp)
      have hsb : sb < w.heap.size := lt_of_cell c0
      have HSB := @hideH _ (show sb < w.heap.size from hsb)
      clear hsb
      have HNN := @hideH _ nn
      clear c0 c1 c2 c3 c4 c5 c6 c7 nn hs
      by_cases hsec : s.second = true
      · have hsec' : s.second = true := by simpa using hsec
        rw [hsec'] at d0
        clear hsec hsec'
        go_wp2
        go_roundw
        case rel => exact ⟨k + 1, by omega, by go_num, _, HA.out⟩
        case measure => simp [intOf]; omega
      · have hsec' : s.second = false := by simpa using hsec
        rw [hsec'] at d0
        have AX := HA.out.then O (Kept.refl [] wr).drew (by simp)
        have hst := Hv.step O (AX.h) s HNN.out
        rw [hsec'] at hst
        have HST := @hideH _ hst
        have ns : sb ∉ U1 := fun hx => by have e1 := (HA.out.o sb hx).1; have e2 := HSB.out; omega
        have nb : bx ∉ U1 := fun hx => (HA.out.o _ hx).2.1 rfl
        clear hsec AX hst hsec'
        have kx : Kept U1 wr wr.drew := (Kept.refl _ wr).drew
        go_upto_region 16 with fail
        go_region_held3 (fun w' => w'.cell? ⟨bx, 0, none⟩ = some (.pointer (some ⟨g1, 0, none⟩)) ∧ w'.cell? ⟨bx, 1, none⟩ = some (.pointer (some ⟨R1, 0, none⟩)) ∧ w'.cell? ⟨sb, so + k * 8, none⟩ = some (.bool false) ∧ w'.cell? ⟨sb, so + k * 8 + 1, none⟩ = some (.int .i64 s.kind) ∧ w'.cell? ⟨sb, so + k * 8 + 2, none⟩ = some (.int .i64 s.r.birth) ∧ w'.cell? ⟨sb, so + k * 8 + 3, none⟩ = some (.int .i64 s.r.id) ∧ w'.cell? ⟨sb, so + k * 8 + 4, none⟩ = some (.int .i64 s.r.state) ∧ w'.cell? ⟨sb, so + k * 8 + 5, none⟩ = some (.int .i64 s.r.last) ∧ w'.cell? ⟨sb, so + k * 8 + 6, none⟩ = some (.int .i64 s.r.next) ∧ w'.cell? ⟨sb, so + k * 8 + 7, none⟩ = some (.int .i64 s.n))
          (first
            | (exact ⟨kx.cell x0 nb, kx.cell x1 nb, kx.cell d0 ns, kx.cell d1 ns, kx.cell d2 ns, kx.cell d3 ns, kx.cell d4 ns, kx.cell d5 ns, kx.cell d6 ns, kx.cell d7 ns⟩)
            | fail)
          (first
            | (go_at_call 19; refine HST.out.mono ?_; clear HST; rintro e w8 ⟨rfl, U8, h8, fr8, k8⟩; replace kx := kx.trans k8 (fun x hx => .inl hx); have AN := HA.out.step h8 fr8 kx)
            | fail)
        have HAN := @hideH _ AN
        clear AN h8 fr8 k8 kx
        go_wp2
        go_roundw
        case rel => exact ⟨k + 1, by omega, by go_num, _, HAN.out⟩
        case measure => simp [intOf]; omega
    · have hkl' : ¬ (k : Int) < (n : Int) := by omega
      obtain ⟨wz, hwz⟩ : ∃ wx, wx = wr.alloc (.cells #[.bool false, .int .i64 5, .int .i64 0, .int .i64 0, .int .i64 0, .int .i64 0, .int .i64 0, .int .i64 0] 49) := ⟨_, rfl⟩
      have kz : Kept [] wr wz := by rw [hwz]; exact (Kept.refl [] wr).alloc _
      have E : Blk wz wr.heap.size 49 [.bool false, .int .i64 5, .int .i64 0, .int .i64 0, .int .i64 0, .int .i64 0, .int .i64 0, .int .i64 0] := by rw [hwz]; exact Blk.new wr _ _
      have e0 := E.cell (j := 0) rfl
      have e1 := E.cell (j := 1) rfl
      have e2 := E.cell (j := 2) rfl
      have e3 := E.cell (j := 3) rfl
      have e4 := E.cell (j := 4) rfl
      have e5 := E.cell (j := 5) rfl
      have e6 := E.cell (j := 6) rfl
      have e7 := E.cell (j := 7) rfl
      have AZ := HA.out.then O kz (by simp)
      replace x0 := kz.cell x0 (by simp)
      replace x1 := kz.cell x1 (by simp)
      have EL := E.lt
      have nE : ∀ z, z ∈ U1 → z ≠ wr.heap.size := fun z hz => by have := HA.out.h.lt O z hz; omega
      have HAZ := @hideH _ AZ
      clear AZ kz E EL
      go_upto_region 20 with fail
      rw [← hwz]
      clear hwz
      have hst := Hv.step O HAZ.out.h endS endS_i64
      simp only [endS, rowZ] at hst
      have HST := @hideH _ hst
      clear hst
      go_wp2_with fail
      refine HST.out.mono ?_
      clear HST
      rintro e w8 ⟨rfl, Uw8, hw8, frw8, kw8⟩
      have KE := @hideH _ (HAZ.out.step hw8 frw8 kw8).kept
      clear hw8 frw8 kw8
      go_wp2
      go_ret
      exact ⟨by first | rfl | simp, KE.out⟩
set_option maxRecDepth 20000 in
set_option maxHeartbeats 12800000 in
theorem all_01 {Tb : World → Nat → List Nat → Int → List RowR → Prop} (O : TbOps Tb) (most other : Int) (v : Value) (ss : List StepT) (w : World) (hi1 : I64 most) (hi2 : I64 other) (m1 : ¬ isM most) (m2 : isM other) (hS : Scr w v ss) : Calls Try.prog 6 #[.int .i64 most, .int .i64 other, v] w fun e w' => e = .returned (.bool true) ∧ Kept [] w w' := by
  obtain ⟨ps, cs, hv, hml⟩ := hS.shape
  subst hv
  obtain ⟨n, hn⟩ : ∃ n, n = ss.length := ⟨_, rfl⟩
  have HS := @hideH _ hS
  have HN := @hideH _ (And.intro hn hml)
  rw [← hn]
  clear hS hml hn
  have HM := @hideH _ (And.intro m1 (And.intro m2 (And.intro hi1 hi2)))
  clear m1 m2 hi1 hi2
  go_enter Try.func6, Try.ntmps6
  go_wp2_with fail
  refine (newN O most w HM.out.1 HM.out.2.2.1).mono ?_
  rintro e w1 ⟨rfl, kw1⟩
  go_wp2_with fail
  refine (rNewN most w1 HM.out.1).mono ?_
  rintro e w2 ⟨rfl, kw2⟩
  go_wp2_with fail
  refine (newA O other w2 HM.out.2.1 HM.out.2.2.2).mono ?_
  rintro e w3 ⟨g2, F2, rfl, l2, f2, kw3⟩
  go_wp2_with fail
  refine (rNewA other w3 HM.out.2.1).mono ?_
  rintro e w4 ⟨rfl, r2, kw4⟩
  have t2 := O.lt l2
  have u2 := r2.lt _ (List.mem_cons_self)
  go_wp2_with fail
  refine (known_any O w4).mono ?_
  rintro e w5 ⟨rfl, kw5⟩
  obtain ⟨w6, hw6⟩ : ∃ wx, wx = w5.alloc (.cells #[.pointer none, .pointer none] 47) := ⟨_, rfl⟩
  have kw6 : Kept [] w5 w6 := by rw [hw6]; exact (Kept.refl [] w5).alloc _
  have b1 : Blk w6 w5.heap.size 47 [.pointer none, .pointer none] := by rw [hw6]; exact Blk.new w5 _ _
  obtain ⟨w7, hw7⟩ : ∃ wx, wx = w6.alloc (.cells #[.pointer (some ⟨g2, 0, none⟩), .pointer (some ⟨w3.heap.size, 0, none⟩)] 47) := ⟨_, rfl⟩
  have kw7 : Kept [] w6 w7 := by rw [hw7]; exact (Kept.refl [] w6).alloc _
  have b2 : Blk w7 w6.heap.size 47 [.pointer (some ⟨g2, 0, none⟩), .pointer (some ⟨w3.heap.size, 0, none⟩)] := by rw [hw7]; exact Blk.new w6 _ _
  go_upto_region 9 with fail
  rw [← hw6, ← hw7]
  have e6 : w6.heap.size = w5.heap.size + 1 := by rw [hw6, World.size_alloc]
  clear hw6 hw7
  have k47 := (kw5.then kw6).then kw7
  have s1 := kw1.size
  have s2 := kw2.size
  have s3 := kw3.size
  have s4 := kw4.size
  have s5 := kw5.size
  have s6 : w5.heap.size < w6.heap.size := b1.lt
  have s7 : w6.heap.size < w7.heap.size := b2.lt
  have kall := ((kw1.then kw2).then (kw3.then kw4)).then k47
  have A2 : T1 Tb w w7 other g2 w3.heap.size w6.heap.size w5.heap.size (F2 ++ [w3.heap.size]) := ⟨⟨F2, _, [], rfl, O.kept l2 (kw4.then k47) (by simp), r2.kept k47 (by simp), fun x hx hm => by have := t2 x hx; simp at hm; omega⟩, b2, kall, by omega, fun z hz => by
    rcases List.mem_append.1 hz with q | q
    · have e1 := f2 z q; have e2 := t2 z q; omega
    · simp at q; omega⟩
  have A := A2
  try rw [e6] at A
  obtain ⟨yb, hyb⟩ : ∃ n, n = w5.heap.size + 1 := ⟨_, rfl⟩
  try rw [← hyb] at A
  try rw [← hyb]
  obtain ⟨bx, hbx⟩ : ∃ n, n = w5.heap.size := ⟨_, rfl⟩
  try rw [← hbx] at A
  try rw [← hbx]
  obtain ⟨R2, hR2⟩ : ∃ n, n = w3.heap.size := ⟨_, rfl⟩
  try rw [← hR2] at A
  try rw [← hR2]
  have HA := @hideH _ A
  clear A kw1 kw2 kw3 kw4 kw5 kw6 kw7 k47 kall s1 s2 s3 s4 s5 s6 s7 b1 b2 hbx hyb e6 l2 r2 f2 t2 u2 A2 hR2
  go_wp2
  go_loopw [17] (fun vi wr => ∃ k : Nat, k ≤ n ∧ vi = .int .i64 k ∧ Hid (∃ U2, T1 Tb w wr other g2 R2 yb bx U2)) (fun vi _ => n - (intOf vi).toNat)
  case atStart => exact ⟨0, Nat.zero_le _, rfl, _, HA.out⟩
  case round =>
    clear HA
    obtain ⟨k, hk, rfl, hh⟩ := hrel
    obtain ⟨U2, A⟩ := hh.out
    clear hh
    have HA := @hideH _ A
    have y0 := A.x.cell (j := 0) rfl
    have y1 := A.x.cell (j := 1) rfl
    clear A
    by_cases hkl : k < n
    · have hkl' : (k : Int) < (n : Int) := by omega
      have hk0 : (0 : Int) ≤ (k : Int) := by omega
      have wk : IntKind.i64.wrap ((k : Int) + 1) = (k : Int) + 1 := wrap_i64_of (by omega) (by have e1 := HN.out.1; have e2 := HN.out.2; unfold maxLen at e2; omega)
      obtain ⟨s, hs⟩ : ∃ s, ss[k]? = some s := ⟨_, List.getElem?_eq_getElem (by have := HN.out.1; omega)⟩
      obtain ⟨sb, so, sc, es, ⟨c0, c1, c2, c3, c4, c5, c6, c7⟩, nn⟩ := HS.out.at hs
      cases es
      have d0 := HA.out.kept.cell c0 (by simp)
      have d1 := HA.out.kept.cell c1 (by simp)
      have d2 := HA.out.kept.cell c2 (by simp)
      have d3 := HA.out.kept.cell c3 (by simp)
      have d4 := HA.out.kept.cell c4 (by simp)
      have d5 := HA.out.kept.cell c5 (by simp)
      have d6 := HA.out.kept.cell c6 (by simp)
      have d7 := HA.out.kept.cell c7 (by simp)
      have hsb : sb < w.heap.size := lt_of_cell c0
      have HSB := @hideH _ (show sb < w.heap.size from hsb)
      clear hsb
      have HNN := @hideH _ nn
      clear c0 c1 c2 c3 c4 c5 c6 c7 nn hs
      by_cases hsec : s.second = true
      · have hsec' : s.second = true := by simpa using hsec
        rw [hsec'] at d0
        have AX := HA.out.then O (Kept.refl [] wr).drew (by simp)
        have hst := Hv.step O (AX.h) s HNN.out
        rw [hsec'] at hst
        have HST := @hideH _ hst
        have ns : sb ∉ U2 := fun hx => by have e1 := (HA.out.o sb hx).1; have e2 := HSB.out; omega
        have nb : yb ∉ U2 := fun hx => (HA.out.o _ hx).2.1 rfl
        clear hsec AX hst hsec'
        have kx : Kept U2 wr wr.drew := (Kept.refl _ wr).drew
        go_upto_region 14 with fail
        go_region_held3 (fun w' => w'.cell? ⟨yb, 0, none⟩ = some (.pointer (some ⟨g2, 0, none⟩)) ∧ w'.cell? ⟨yb, 1, none⟩ = some (.pointer (some ⟨R2, 0, none⟩)) ∧ w'.cell? ⟨sb, so + k * 8, none⟩ = some (.bool true) ∧ w'.cell? ⟨sb, so + k * 8 + 1, none⟩ = some (.int .i64 s.kind) ∧ w'.cell? ⟨sb, so + k * 8 + 2, none⟩ = some (.int .i64 s.r.birth) ∧ w'.cell? ⟨sb, so + k * 8 + 3, none⟩ = some (.int .i64 s.r.id) ∧ w'.cell? ⟨sb, so + k * 8 + 4, none⟩ = some (.int .i64 s.r.state) ∧ w'.cell? ⟨sb, so + k * 8 + 5, none⟩ = some (.int .i64 s.r.last) ∧ w'.cell? ⟨sb, so + k * 8 + 6, none⟩ = some (.int .i64 s.r.next) ∧ w'.cell? ⟨sb, so + k * 8 + 7, none⟩ = some (.int .i64 s.n))
          (first
            | (exact ⟨kx.cell y0 nb, kx.cell y1 nb, kx.cell d0 ns, kx.cell d1 ns, kx.cell d2 ns, kx.cell d3 ns, kx.cell d4 ns, kx.cell d5 ns, kx.cell d6 ns, kx.cell d7 ns⟩)
            | fail)
          (first
            | (go_at_call 19; refine HST.out.mono ?_; clear HST; rintro e w8 ⟨rfl, U8, h8, fr8, k8⟩; replace kx := kx.trans k8 (fun x hx => .inl hx); have AN := HA.out.step h8 fr8 kx)
            | fail)
        have HAN := @hideH _ AN
        clear AN h8 fr8 k8 kx
        go_wp2
        go_roundw
        case rel => exact ⟨k + 1, by omega, by go_num, _, HAN.out⟩
        case measure => simp [intOf]; omega
      · have hsec' : s.second = false := by simpa using hsec
        rw [hsec'] at d0
        clear hsec hsec'
        go_wp2
        go_roundw
        case rel => exact ⟨k + 1, by omega, by go_num, _, HA.out⟩
        case measure => simp [intOf]; omega
    · have hkl' : ¬ (k : Int) < (n : Int) := by omega
      obtain ⟨wz, hwz⟩ : ∃ wx, wx = wr.alloc (.cells #[.bool false, .int .i64 5, .int .i64 0, .int .i64 0, .int .i64 0, .int .i64 0, .int .i64 0, .int .i64 0] 49) := ⟨_, rfl⟩
      have kz : Kept [] wr wz := by rw [hwz]; exact (Kept.refl [] wr).alloc _
      have E : Blk wz wr.heap.size 49 [.bool false, .int .i64 5, .int .i64 0, .int .i64 0, .int .i64 0, .int .i64 0, .int .i64 0, .int .i64 0] := by rw [hwz]; exact Blk.new wr _ _
      have e0 := E.cell (j := 0) rfl
      have e1 := E.cell (j := 1) rfl
      have e2 := E.cell (j := 2) rfl
      have e3 := E.cell (j := 3) rfl
      have e4 := E.cell (j := 4) rfl
      have e5 := E.cell (j := 5) rfl
      have e6 := E.cell (j := 6) rfl
      have e7 := E.cell (j := 7) rfl
      have AZ := HA.out.then O kz (by simp)
      replace y0 := kz.cell y0 (by simp)
      replace y1 := kz.cell y1 (by simp)
      have EL := E.lt
      have nE : ∀ z, z ∈ U2 → z ≠ wr.heap.size := fun z hz => by have := HA.out.h.lt O z hz; omega
      have HAZ := @hideH _ AZ
      clear AZ kz E EL
      go_upto_region 20 with fail
      rw [← hwz]
      clear hwz
      have hst := Hv.step O HAZ.out.h endS endS_i64
      simp only [endS, rowZ] at hst
      have HST := @hideH _ hst
      clear hst
      go_wp2_with fail
      refine HST.out.mono ?_
      clear HST
      rintro e w8 ⟨rfl, Uw8, hw8, frw8, kw8⟩
      have KE := @hideH _ (HAZ.out.step hw8 frw8 kw8).kept
      clear hw8 frw8 kw8
      go_wp2
      go_ret
      exact ⟨by first | rfl | simp, KE.out⟩
set_option maxRecDepth 20000 in
set_option maxHeartbeats 12800000 in
theorem all_00 {Tb : World → Nat → List Nat → Int → List RowR → Prop} (O : TbOps Tb) (most other : Int) (v : Value) (ss : List StepT) (w : World) (hi1 : I64 most) (hi2 : I64 other) (m1 : ¬ isM most) (m2 : ¬ isM other) (hS : Scr w v ss) : Calls Try.prog 6 #[.int .i64 most, .int .i64 other, v] w fun e w' => e = .returned (.bool true) ∧ Kept [] w w' := by
  obtain ⟨ps, cs, hv, hml⟩ := hS.shape
  subst hv
  obtain ⟨n, hn⟩ : ∃ n, n = ss.length := ⟨_, rfl⟩
  have HS := @hideH _ hS
  have HN := @hideH _ (And.intro hn hml)
  rw [← hn]
  clear hS hml hn
  have HM := @hideH _ (And.intro m1 (And.intro m2 (And.intro hi1 hi2)))
  clear m1 m2 hi1 hi2
  go_enter Try.func6, Try.ntmps6
  go_wp2_with fail
  refine (newN O most w HM.out.1 HM.out.2.2.1).mono ?_
  rintro e w1 ⟨rfl, kw1⟩
  go_wp2_with fail
  refine (rNewN most w1 HM.out.1).mono ?_
  rintro e w2 ⟨rfl, kw2⟩
  go_wp2_with fail
  refine (newN O other w2 HM.out.2.1 HM.out.2.2.2).mono ?_
  rintro e w3 ⟨rfl, kw3⟩
  go_wp2_with fail
  refine (rNewN other w3 HM.out.2.1).mono ?_
  rintro e w4 ⟨rfl, kw4⟩
  go_wp2_with fail
  refine (known_any O w4).mono ?_
  rintro e w5 ⟨rfl, kw5⟩
  obtain ⟨w6, hw6⟩ : ∃ wx, wx = w5.alloc (.cells #[.pointer none, .pointer none] 47) := ⟨_, rfl⟩
  have kw6 : Kept [] w5 w6 := by rw [hw6]; exact (Kept.refl [] w5).alloc _
  have b1 : Blk w6 w5.heap.size 47 [.pointer none, .pointer none] := by rw [hw6]; exact Blk.new w5 _ _
  obtain ⟨w7, hw7⟩ : ∃ wx, wx = w6.alloc (.cells #[.pointer none, .pointer none] 47) := ⟨_, rfl⟩
  have kw7 : Kept [] w6 w7 := by rw [hw7]; exact (Kept.refl [] w6).alloc _
  have b2 : Blk w7 w6.heap.size 47 [.pointer none, .pointer none] := by rw [hw7]; exact Blk.new w6 _ _
  go_upto_region 9 with fail
  rw [← hw6, ← hw7]
  have e6 : w6.heap.size = w5.heap.size + 1 := by rw [hw6, World.size_alloc]
  clear hw6 hw7
  have k47 := (kw5.then kw6).then kw7
  have s1 := kw1.size
  have s2 := kw2.size
  have s3 := kw3.size
  have s4 := kw4.size
  have s5 := kw5.size
  have s6 : w5.heap.size < w6.heap.size := b1.lt
  have s7 : w6.heap.size < w7.heap.size := b2.lt
  have kall := ((kw1.then kw2).then (kw3.then kw4)).then k47
  have A := kall
  try rw [e6] at A
  obtain ⟨yb, hyb⟩ : ∃ n, n = w5.heap.size + 1 := ⟨_, rfl⟩
  try rw [← hyb] at A
  try rw [← hyb]
  obtain ⟨bx, hbx⟩ : ∃ n, n = w5.heap.size := ⟨_, rfl⟩
  try rw [← hbx] at A
  try rw [← hbx]
  have HA := @hideH _ A
  clear A kw1 kw2 kw3 kw4 kw5 kw6 kw7 k47 kall s1 s2 s3 s4 s5 s6 s7 b1 b2 hbx hyb e6
  go_wp2
  go_loopw [17] (fun vi wr => ∃ k : Nat, k ≤ n ∧ vi = .int .i64 k ∧ Hid (Kept [] w wr)) (fun vi _ => n - (intOf vi).toNat)
  case atStart => exact ⟨0, Nat.zero_le _, rfl, HA.out⟩
  case round =>
    clear HA
    obtain ⟨k, hk, rfl, hh⟩ := hrel
    obtain A := hh.out
    clear hh
    have HA := @hideH _ A
    clear A
    by_cases hkl : k < n
    · have hkl' : (k : Int) < (n : Int) := by omega
      have hk0 : (0 : Int) ≤ (k : Int) := by omega
      have wk : IntKind.i64.wrap ((k : Int) + 1) = (k : Int) + 1 := wrap_i64_of (by omega) (by have e1 := HN.out.1; have e2 := HN.out.2; unfold maxLen at e2; omega)
      obtain ⟨s, hs⟩ : ∃ s, ss[k]? = some s := ⟨_, List.getElem?_eq_getElem (by have := HN.out.1; omega)⟩
      obtain ⟨sb, so, sc, es, ⟨c0, c1, c2, c3, c4, c5, c6, c7⟩, nn⟩ := HS.out.at hs
      cases es
      have d0 := HA.out.cell c0 (by simp)
      have d1 := HA.out.cell c1 (by simp)
      have d2 := HA.out.cell c2 (by simp)
      have d3 := HA.out.cell c3 (by simp)
      have d4 := HA.out.cell c4 (by simp)
      have d5 := HA.out.cell c5 (by simp)
      have d6 := HA.out.cell c6 (by simp)
      have d7 := HA.out.cell c7 (by simp)
      have hsb : sb < w.heap.size := lt_of_cell c0
      have HSB := @hideH _ (show sb < w.heap.size from hsb)
      clear hsb
      have HNN := @hideH _ nn
      clear c0 c1 c2 c3 c4 c5 c6 c7 nn hs
      by_cases hsec : s.second = true
      · have hsec' : s.second = true := by simpa using hsec
        rw [hsec'] at d0
        clear hsec hsec'
        go_wp2
        go_roundw
        case rel => exact ⟨k + 1, by omega, by go_num, HA.out⟩
        case measure => simp [intOf]; omega
      · have hsec' : s.second = false := by simpa using hsec
        rw [hsec'] at d0
        clear hsec hsec'
        go_wp2
        go_roundw
        case rel => exact ⟨k + 1, by omega, by go_num, HA.out⟩
        case measure => simp [intOf]; omega
    · have hkl' : ¬ (k : Int) < (n : Int) := by omega
      have KE := @hideH _ (show ∀ o, Kept [] w (wr.alloc o) from fun o => HA.out.alloc o)
      go_wp2
      go_ret
      exact ⟨by first | rfl | simp, KE.out _⟩
theorem tableAll_walk {Tb : World → Nat → List Nat → Int → List RowR → Prop} (O : TbOps Tb) (most other : Int) (v : Value) (ss : List StepT) (w : World) (hi1 : I64 most) (hi2 : I64 other) (hS : Scr w v ss) : Calls Try.prog 6 #[.int .i64 most, .int .i64 other, v] w fun e w' => e = .returned (.bool true) ∧ Kept [] w w' := by
  by_cases m1 : isM most
  · by_cases m2 : isM other
    · exact all_11 O most other v ss w hi1 hi2 m1 m2 hS
    · exact all_10 O most other v ss w hi1 hi2 m1 m2 hS
  · by_cases m2 : isM other
    · exact all_01 O most other v ss w hi1 hi2 m1 m2 hS
    · exact all_00 O most other v ss w hi1 hi2 m1 m2 hS
end Go.Proofs.Ytbheegphhllogaa

