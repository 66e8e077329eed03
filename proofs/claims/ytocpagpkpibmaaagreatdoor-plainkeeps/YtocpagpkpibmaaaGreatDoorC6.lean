import Derived.Test.YtocpagpkpibmaaaGreatDoorC5
/-
  OWN WORK. Lists that are written over (layer 18): only that they may be is said of them.
-/
namespace Go.Proofs.YtocpagpkpibmaaaGreatDoor
open Go.RowKit
set_option linter.unusedVariables false
/-- a row that may be written over -/
def Wr (sz : Nat) (v : Value) (n : Nat) (w : World) : Prop := ∃ cs, Row w 0 sz v n cs
theorem Wr.of {w : World} {base sz n : Nat} {v : Value} {cs : List Value} (h : Row w base sz v n cs) : Wr sz v n w := ⟨cs, h.mono (Nat.zero_le _)⟩
theorem Wr.stays (sz : Nat) (v : Value) (n : Nat) : Stays v (Wr sz v n) := fun w w' S h k hS => by
  obtain ⟨cs, h⟩ := h
  exact ⟨cs, h.kept k hS⟩
theorem Wr.lt {w : World} {sz n : Nat} {v : Value} (h : Wr sz v n w) {y : Nat} (hy : v.ownBlock = some y) : y < w.heap.size := by
  obtain ⟨cs, h⟩ := h
  exact (h.lt y hy).2
theorem Wr.shape {w : World} {sz n : Nat} {v : Value} (h : Wr sz v n w) : ∃ p c, v = .slice p n c ∧ n ≤ c ∧ c ≤ maxLen := by
  obtain ⟨cs, h⟩ := h
  exact h.shape
/-- a thing is written, and still is as it is asked to be -/
theorem Own.touch {w w' : World} {g : Nat} {L : List (Value × (World → Prop))} {x : Value × (World → Prop)} (h : Own w g L) (hx : x ∈ L) (k : Kept x.1.ownBlock.toList w w') (hp : x.2 w') : Own w' g L := by
  obtain ⟨L1, L2, rfl⟩ := List.append_of_mem hx
  have q := h.perm (List.perm_middle)
  exact (q.head (v' := x.1) (p' := x.2) k hp (h.stays x hx) (fun y hy => .inl hy)).perm (List.perm_middle).symm
/-- the first thing is written, and is asked for no more -/
theorem Own.tail {w w' : World} {g : Nat} {L : List (Value × (World → Prop))} {x : Value × (World → Prop)} (h : Own w g (x :: L)) (k : Kept x.1.ownBlock.toList w w') : Own w' g L := by
  have hap := List.pairwise_cons.1 h.ap
  exact (h.sub (List.sublist_cons_self _ _)).then k (fun y hy z hz hm => hap.1 y hy z (own_mem.1 hm) hz)
theorem Wr.set {w : World} {sz g n c : Nat} (h : Wr sz (.slice (some ⟨g, 0, none⟩) n c) n w) (j : Nat) (hj : j < n * sz) (u : Value) (hu : u.oneCell' = true) : Wr sz (.slice (some ⟨g, 0, none⟩) n c) n (w.setCell ⟨g, j, none⟩ u) ∧ Kept [g] w (w.setCell ⟨g, j, none⟩ u) := by
  obtain ⟨cs, h⟩ := h
  have q := h.set j hj u hu
  exact ⟨⟨_, q.1⟩, q.2⟩
theorem Wr.place {w : World} {sz n c : Nat} {p : Option Addr} (h : Wr sz (.slice p n c) n w) (hn : 0 < n) : ∃ g, p = some ⟨g, 0, none⟩ ∧ (∀ j, j < n * sz → (∃ u, w.cell? ⟨g, j, none⟩ = some u) ∧ w.frozen? ⟨g, j, none⟩ = false) := by
  obtain ⟨cs, h⟩ := h
  have hnc : n ≤ c := by
    obtain ⟨p', c', e, q, -⟩ := h.shape
    cases e
    exact q
  obtain ⟨g, hp, -, -, -, hf⟩ := h.pos hn
  exact ⟨g, hp, fun j hj => by
    have q := hf j (Nat.lt_of_lt_of_le hj (Nat.mul_le_mul_right _ hnc))
    exact ⟨Option.isSome_iff_exists.1 q.1, q.2⟩⟩
end Go.Proofs.YtocpagpkpibmaaaGreatDoor

/-
  OWN WORK. PlainKeeps (layer 18): how what was answered lies.
-/
namespace Go.Proofs.YtocpagpkpibmaaaGreatDoor
open Go.RowKit
set_option linter.unusedVariables false
def dth (D : List (List Chg × Value)) : List (Value × (World → Prop)) := D.map fun d => (d.2, Wr 3 d.2 d.1.length)
def kth (va vx vd : Value) (na : Nat) (D : List (List Chg × Value)) : List (Value × (World → Prop)) :=
  (va, Wr 2 va na) :: (vx, Wr 2 vx na) :: (vd, fun w => Row w 0 1 vd D.length (D.map Prod.snd)) :: dth D
/-- what is not to be touched -/
structure Away (Ks : List Nat) (w : World) (F : List Nat) (vb vf : Value) (G : List (List Chg × Value)) (Z : List Nat) : Prop where
  f : ∀ x ∈ Z, x ∉ F
  k : ∀ x ∈ Z, x ∉ Ks
  lo : ∀ x ∈ Z, w.heap.size ≤ x
  b : ∀ x ∈ Z, vb.ownBlock ≠ some x
  vf : ∀ x ∈ Z, vf.ownBlock ≠ some x
  g : ∀ x ∈ Z, ∀ q ∈ G, q.2.ownBlock ≠ some x
theorem keeps_lie {Ks : List Nat} {Vr : World → Prop} {Pn : World → Nat → List Nat → Cf → St → Prop} (O : PnOps Ks Vr Pn) {w wr w10 w11 w12 w13 w14 w15 : World} {g : Nat} {c : Cf} {n : Nat} {F : List Nat} {S : St} {va vb vd vf vx : Value} {la : List (Int × Int)} {D G : List (List Chg × Value)}
    (hB : B18 Ks Vr Pn w wr g c n F S) (ha : Es w10 wr.heap.size va la) (k10 : Kept [] wr w10) (hb : Es w11 w10.heap.size vb la) (k11 : Kept [] w10 w11) (hd : LlN w12 w11.heap.size vd D) (k12 : Kept [] w11 w12) (hf : LlN w13 w12.heap.size vf G) (k13 : Kept [] w12 w13) (hx : Es w14 w13.heap.size vx la) (k14 : Kept [] w13 w14) (k15 : Kept [] w14 w15) :
    Own w15 w15.heap.size (kth va vx vd la.length D) ∧ Es w15 0 vb la ∧ Ll w15 vf G ∧ B18 Ks Vr Pn w w15 g c n F S ∧ Away Ks w F vb vf G (blks (kth va vx vd la.length D)) := by
  have s10 := k10.size
  have s11 := k11.size
  have s12 := k12.size
  have s13 := k13.size
  have s14 := k14.size
  have s15 := k15.size
  have s0 := hB.kp.size
  have ia : ∀ y, va.ownBlock = some y → wr.heap.size ≤ y ∧ y < w10.heap.size := fun y hy => Row.lt ha y hy
  have ib : ∀ y, vb.ownBlock = some y → w10.heap.size ≤ y ∧ y < w11.heap.size := fun y hy => Row.lt hb y hy
  have id1 : ∀ y, vd.ownBlock = some y → w11.heap.size ≤ y ∧ y < w12.heap.size := fun y hy => Row.lt hd.row y hy
  have id2 : ∀ q ∈ D, ∀ y, q.2.ownBlock = some y → w11.heap.size ≤ y ∧ y < w12.heap.size := fun q hq y hy => Row.lt (hd.each q hq) y hy
  have if1 : ∀ y, vf.ownBlock = some y → w12.heap.size ≤ y ∧ y < w13.heap.size := fun y hy => Row.lt hf.row y hy
  have if2 : ∀ q ∈ G, ∀ y, q.2.ownBlock = some y → w12.heap.size ≤ y ∧ y < w13.heap.size := fun q hq y hy => Row.lt (hf.each q hq) y hy
  have ix : ∀ y, vx.ownBlock = some y → w13.heap.size ≤ y ∧ y < w14.heap.size := fun y hy => Row.lt hx y hy
  have ka : Kept [] w10 w15 := (((k11.then k12).then k13).then k14).then k15
  have kd : Kept [] w12 w15 := (k13.then k14).then k15
  have kf : Kept [] w13 w15 := k14.then k15
  have kb : Kept [] w11 w15 := ((k12.then k13).then k14).then k15
  have hap := List.pairwise_cons.1 hd.ap
  have inT : ∀ t ∈ dth D, ∃ q ∈ D, t = (q.2, Wr 3 q.2 q.1.length) := fun t ht => by
    obtain ⟨q, hq, e⟩ := List.mem_map.1 ht
    exact ⟨q, hq, e.symm⟩
  have hapD : (dth D).Pairwise fun a b => Ap a.1 b.1 := by
    unfold dth
    rw [List.pairwise_map]
    have := hap.2
    rw [List.pairwise_map] at this
    exact this
  have all : ∀ t ∈ kth va vx vd la.length D, ∀ y, t.1.ownBlock = some y → wr.heap.size ≤ y ∧ y < w14.heap.size ∧ ¬ (w10.heap.size ≤ y ∧ y < w11.heap.size) ∧ ¬ (w12.heap.size ≤ y ∧ y < w13.heap.size) := by
    intro t ht y hy
    unfold kth at ht
    rcases List.mem_cons.1 ht with rfl | ht
    · have := ia y hy; omega
    rcases List.mem_cons.1 ht with rfl | ht
    · have := ix y hy; omega
    rcases List.mem_cons.1 ht with rfl | ht
    · have := id1 y hy; omega
    obtain ⟨q, hq, rfl⟩ := inT t ht
    have := id2 q hq y hy
    omega
  refine ⟨⟨fun t ht => ?_, fun t ht => ?_, fun t ht y hy => ?_, ?_⟩, Row.mono (hb.kept kb (by simp)) (Nat.zero_le _), hf.ll.then kf, hB.then O (((((k10.then k11).then k12).then k13).then k14).then k15), ?_⟩
  · unfold kth at ht
    rcases List.mem_cons.1 ht with rfl | ht
    · exact Wr.of (ha.kept ka (by simp))
    rcases List.mem_cons.1 ht with rfl | ht
    · exact Wr.of (hx.kept k15 (by simp))
    rcases List.mem_cons.1 ht with rfl | ht
    · exact (hd.row.kept kd (by simp)).mono (Nat.zero_le _)
    obtain ⟨q, hq, rfl⟩ := inT t ht
    exact Wr.of (Row.kept (hd.each q hq) kd (by simp))
  · unfold kth at ht
    rcases List.mem_cons.1 ht with rfl | ht
    · exact Wr.stays _ _ _
    rcases List.mem_cons.1 ht with rfl | ht
    · exact Wr.stays _ _ _
    rcases List.mem_cons.1 ht with rfl | ht
    · exact Row.stays _ _ _ _ _
    obtain ⟨q, hq, rfl⟩ := inT t ht
    exact Wr.stays _ _ _
  · have := all t ht y hy
    omega
  · unfold kth
    refine List.pairwise_cons.2 ⟨fun t ht y hy e => ?_, List.pairwise_cons.2 ⟨fun t ht y hy e => ?_, List.pairwise_cons.2 ⟨fun t ht y hy e => ?_, hapD⟩⟩⟩
    · have h1 := ia y hy
      rcases List.mem_cons.1 ht with rfl | ht
      · have := ix y e; omega
      rcases List.mem_cons.1 ht with rfl | ht
      · have := id1 y e; omega
      obtain ⟨q, hq, rfl⟩ := inT t ht
      have := id2 q hq y e
      omega
    · have h1 := ix y hy
      rcases List.mem_cons.1 ht with rfl | ht
      · have := id1 y e; omega
      obtain ⟨q, hq, rfl⟩ := inT t ht
      have := id2 q hq y e
      omega
    · obtain ⟨q, hq, rfl⟩ := inT t ht
      exact hap.1 q.2 (List.mem_map_of_mem hq) y hy e
  · have inZ : ∀ x ∈ blks (kth va vx vd la.length D), wr.heap.size ≤ x ∧ x < w14.heap.size ∧ ¬ (w10.heap.size ≤ x ∧ x < w11.heap.size) ∧ ¬ (w12.heap.size ≤ x ∧ x < w13.heap.size) := fun x hx => by
      obtain ⟨t, ht, e⟩ := mem_blks.1 hx
      exact all t ht x e
    exact ⟨fun x hx hF => by have := inZ x hx; have := O.lt hB.p x hF; omega, fun x hx hK => by have := inZ x hx; have := O.vlt hB.v x hK; omega, fun x hx => by have := inZ x hx; omega, fun x hx e => by have := inZ x hx; have := ib x e; omega, fun x hx e => by have := inZ x hx; have := if1 x e; omega, fun x hx q hq e => by have := inZ x hx; have := if2 q hq x e; omega⟩
/-- what was not touched is there still -/
theorem Away.back {Ks : List Nat} {Vr : World → Prop} {Pn : World → Nat → List Nat → Cf → St → Prop} (O : PnOps Ks Vr Pn) {w w15 wz : World} {g : Nat} {c : Cf} {n : Nat} {F Z : List Nat} {S : St} {vb vf : Value} {la : List (Int × Int)} {G : List (List Chg × Value)}
    (h : Away Ks w F vb vf G Z) (hB : B18 Ks Vr Pn w w15 g c n F S) (hb : Es w15 0 vb la) (hf : Ll w15 vf G) (k : Kept Z w15 wz) : B18 Ks Vr Pn w wz g c n F S ∧ Es wz 0 vb la ∧ Ll wz vf G :=
  ⟨⟨O.kept hB.p k (fun x hx hm => h.f x hm hx), O.vkept hB.v k (fun x hx hm => h.k x hm hx), hB.kp.trans k (fun x hx => .inr (h.lo x hx)), hB.lo, hB.sz⟩,
    hb.kept k (fun x hx hm => h.b x hm hx), ⟨hf.1.kept k (fun x hx hm => h.vf x hm hx), fun q hq => (hf.2 q hq).kept k (fun x hx hm => h.g x hm q hq hx)⟩⟩
end Go.Proofs.YtocpagpkpibmaaaGreatDoor

/-
  OWN WORK. PlainKeeps (layer 18): the steps that write over.
-/
namespace Go.Proofs.YtocpagpkpibmaaaGreatDoor
open Go.RowKit
set_option linter.unusedVariables false
theorem Wr.set2 {w : World} {g n c k : Nat} (h : Wr 2 (.slice (some ⟨g, 0, none⟩) n c) n w) (hk : k < n) (a b : Int) : Wr 2 (.slice (some ⟨g, 0, none⟩) n c) n ((w.setCell ⟨g, k * 2, none⟩ (.int .i64 a)).setCell ⟨g, k * 2 + 1, none⟩ (.int .u64 b)) ∧ Kept [g] w ((w.setCell ⟨g, k * 2, none⟩ (.int .i64 a)).setCell ⟨g, k * 2 + 1, none⟩ (.int .u64 b)) := by
  have q0 := h.set (k * 2) (by omega) (.int .i64 a) rfl
  have q1 := q0.1.set (k * 2 + 1) (by omega) (.int .u64 b) rfl
  exact ⟨q1.1, q0.2.trans q1.2 (fun x hx => .inl hx)⟩
theorem Wr.set3 {w : World} {g n c k : Nat} (h : Wr 3 (.slice (some ⟨g, 0, none⟩) n c) n w) (hk : k < n) (a b : Int) (d : Bool) : Wr 3 (.slice (some ⟨g, 0, none⟩) n c) n (((w.setCell ⟨g, k * 3, none⟩ (.int .i64 a)).setCell ⟨g, k * 3 + 1, none⟩ (.int .u64 b)).setCell ⟨g, k * 3 + 2, none⟩ (.bool d)) ∧ Kept [g] w (((w.setCell ⟨g, k * 3, none⟩ (.int .i64 a)).setCell ⟨g, k * 3 + 1, none⟩ (.int .u64 b)).setCell ⟨g, k * 3 + 2, none⟩ (.bool d)) := by
  have q0 := h.set (k * 3) (by omega) (.int .i64 a) rfl
  have q1 := q0.1.set (k * 3 + 1) (by omega) (.int .u64 b) rfl
  have q2 := q1.1.set (k * 3 + 2) (by omega) (.bool d) rfl
  exact ⟨q2.1, (q0.2.trans q1.2 (fun x hx => .inl hx)).trans q2.2 (fun x hx => .inl hx)⟩
theorem Wr.place2 {w : World} {n c k : Nat} {p : Option Addr} (h : Wr 2 (.slice p n c) n w) (hk : k < n) : ∃ g u0 u1, p = some ⟨g, 0, none⟩ ∧ (w.cell? ⟨g, k * 2, none⟩ = some u0 ∧ w.cell? ⟨g, k * 2 + 1, none⟩ = some u1) ∧ w.frozen? ⟨g, k * 2, none⟩ = false ∧ w.frozen? ⟨g, k * 2 + 1, none⟩ = false := by
  obtain ⟨g, hp, q⟩ := h.place (by omega)
  obtain ⟨⟨u0, h0⟩, f0⟩ := q (k * 2) (by omega)
  obtain ⟨⟨u1, h1⟩, f1⟩ := q (k * 2 + 1) (by omega)
  exact ⟨g, u0, u1, hp, ⟨h0, h1⟩, f0, f1⟩
theorem Wr.place3 {w : World} {n c k : Nat} {p : Option Addr} (h : Wr 3 (.slice p n c) n w) (hk : k < n) : ∃ g u0 u1 u2, p = some ⟨g, 0, none⟩ ∧ (w.cell? ⟨g, k * 3, none⟩ = some u0 ∧ w.cell? ⟨g, k * 3 + 1, none⟩ = some u1 ∧ w.cell? ⟨g, k * 3 + 2, none⟩ = some u2) ∧ w.frozen? ⟨g, k * 3, none⟩ = false ∧ w.frozen? ⟨g, k * 3 + 1, none⟩ = false ∧ w.frozen? ⟨g, k * 3 + 2, none⟩ = false := by
  obtain ⟨g, hp, q⟩ := h.place (by omega)
  obtain ⟨⟨u0, h0⟩, f0⟩ := q (k * 3) (by omega)
  obtain ⟨⟨u1, h1⟩, f1⟩ := q (k * 3 + 1) (by omega)
  obtain ⟨⟨u2, h2⟩, f2⟩ := q (k * 3 + 2) (by omega)
  exact ⟨g, u0, u1, u2, hp, ⟨h0, h1, h2⟩, f0, f1, f2⟩
/-- within the loops that write over -/
structure Kq (w0 : World) (Z : List Nat) (L : List (Value × (World → Prop))) (wr : World) : Prop where
  own : Own wr w0.heap.size L
  kp : Kept Z w0 wr
  inZ : ∀ x ∈ L, ∀ y, x.1.ownBlock = some y → y ∈ Z
theorem Kq.touch {w0 wr w' : World} {Z : List Nat} {L : List (Value × (World → Prop))} {x : Value × (World → Prop)} (h : Kq w0 Z L wr) (hx : x ∈ L) (k : Kept x.1.ownBlock.toList wr w') (hp : x.2 w') : Kq w0 Z L w' :=
  ⟨h.own.touch hx k hp, h.kp.trans k (fun y hy => .inl (h.inZ x hx y (own_mem.1 hy))), h.inZ⟩
theorem Kq.then {w0 wr w' : World} {Z : List Nat} {L : List (Value × (World → Prop))} (h : Kq w0 Z L wr) (k : Kept [] wr w') : Kq w0 Z L w' :=
  ⟨h.own.then k (by simp), h.kp.trans k (by simp), h.inZ⟩
theorem Kq.tail {w0 wr w' : World} {Z : List Nat} {L : List (Value × (World → Prop))} {x : Value × (World → Prop)} (h : Kq w0 Z (x :: L) wr) (k : Kept x.1.ownBlock.toList wr w') : Kq w0 Z L w' :=
  ⟨h.own.tail k, h.kp.trans k (fun y hy => .inl (h.inZ x (by simp) y (own_mem.1 hy))), fun t ht => h.inZ t (by simp [ht])⟩
theorem Kq.perm {w0 wr : World} {Z : List Nat} {L L' : List (Value × (World → Prop))} (h : Kq w0 Z L wr) (p : L.Perm L') : Kq w0 Z L' wr :=
  ⟨h.own.perm p, h.kp, fun t ht => h.inZ t (p.mem_iff.2 ht)⟩
/-- the first thing is written, and is asked for otherwise -/
theorem Kq.head {w0 wr w' : World} {Z : List Nat} {L : List (Value × (World → Prop))} {v : Value} {p p' : World → Prop} (h : Kq w0 Z ((v, p) :: L) wr) (k : Kept v.ownBlock.toList wr w') (hp : p' w') (hs : Stays v p') : Kq w0 Z ((v, p') :: L) w' :=
  ⟨h.own.head k hp hs (fun y hy => .inl hy), h.kp.trans k (fun y hy => .inl (h.inZ (v, p) (by simp) y (own_mem.1 hy))), fun t ht y hy => by
    rcases List.mem_cons.1 ht with rfl | ht
    · exact h.inZ (v, p) (by simp) y hy
    · exact h.inZ t (by simp [ht]) y hy⟩
/-- the list of lists in the last loop: those from the n-th on are as they were -/
def Rst (vd : Value) (D : List (List Chg × Value)) (n : Nat) (w : World) : Prop := ∃ cs, Row w 0 1 vd D.length cs ∧ ∀ j q, n ≤ j → D[j]? = some q → cs[j]? = some q.2
theorem Rst.stays (vd : Value) (D : List (List Chg × Value)) (n : Nat) : Stays vd (Rst vd D n) := fun w w' S h k hS => by
  obtain ⟨cs, h, q⟩ := h
  exact ⟨cs, h.kept k hS, q⟩
theorem Rst.of {w : World} {vd : Value} {D : List (List Chg × Value)} (h : Row w 0 1 vd D.length (D.map Prod.snd)) : Rst vd D 0 w := ⟨_, h, fun j q _ hj => by rw [List.getElem?_map, hj]; rfl⟩
theorem Rst.at {w : World} {p : Option Addr} {nd c : Nat} {D : List (List Chg × Value)} {n : Nat} {q : List Chg × Value} (h : Rst (.slice p nd c) D n w) (hD : D.length = nd) (hq : D[n]? = some q) : ∃ g, p = some ⟨g, 0, none⟩ ∧ w.cell? ⟨g, n, none⟩ = some q.2 ∧ w.frozen? ⟨g, n, none⟩ = false := by
  obtain ⟨cs, h, r⟩ := h
  rw [hD] at h
  have hn : n < nd := by have := (List.getElem?_eq_some_iff.1 hq).1; omega
  have hnc : nd ≤ c := by
    obtain ⟨p', c', e, q, -⟩ := h.shape
    cases e
    exact q
  obtain ⟨g, hp, -, -, hc, hf⟩ := h.pos (by omega)
  exact ⟨g, hp, hc n _ (r n q (Nat.le_refl _) hq), (hf n (by omega)).2⟩
theorem Rst.set {w : World} {g nd c : Nat} {D : List (List Chg × Value)} {n : Nat} (h : Rst (.slice (some ⟨g, 0, none⟩) nd c) D n w) (hD : D.length = nd) (hn : n < nd) (u : Value) (hu : u.oneCell' = true) : Rst (.slice (some ⟨g, 0, none⟩) nd c) D (n + 1) (w.setCell ⟨g, n, none⟩ u) ∧ Kept [g] w (w.setCell ⟨g, n, none⟩ u) := by
  obtain ⟨cs, h, r⟩ := h
  rw [hD] at h
  have q := h.set n (by omega) u hu
  refine ⟨⟨_, by rw [hD]; exact q.1, fun j t hj ht => ?_⟩, q.2⟩
  rw [List.getElem?_set_ne (by omega)]
  exact r j t (by omega) ht
end Go.Proofs.YtocpagpkpibmaaaGreatDoor

