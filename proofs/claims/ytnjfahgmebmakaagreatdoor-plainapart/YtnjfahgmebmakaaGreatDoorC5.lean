import Derived.Test.YtnjfahgmebmakaaGreatDoorC4
/-
  OWN WORK. Numbers that came in (layer 18).
-/
namespace Go.Proofs.YtnjfahgmebmakaaGreatDoor
open Go.RowKit
set_option linter.unusedVariables false
/-- numbers that came in -/
def Inn (w : World) (v : Value) (ks : List Int) : Prop :=
  ∃ (p : Option Addr) (c : Nat), v = .slice p ks.length c ∧ ks.length ≤ c ∧ c ≤ maxLen ∧ (p = none → c = 0) ∧ ∀ a, p = some a → ∀ (i : Nat) k, ks[i]? = some k → w.cell? (a.add i) = some (.int .i64 k) ∧ I64 k
theorem Inn.kept {w w' : World} {v : Value} {ks : List Int} (h : Inn w v ks) (k : Kept [] w w') : Inn w' v ks := by
  obtain ⟨p, c, e, h1, h2, h3, h4⟩ := h
  exact ⟨p, c, e, h1, h2, h3, fun a ha i x hx => ⟨k.cell (h4 a ha i x hx).1 (by simp), (h4 a ha i x hx).2⟩⟩
theorem Inn.shape {w : World} {v : Value} {ks : List Int} (h : Inn w v ks) : ∃ p c, v = .slice p ks.length c ∧ ks.length ≤ maxLen := by
  obtain ⟨p, c, e, h1, h2, -⟩ := h
  exact ⟨p, c, e, by omega⟩
theorem Inn.at {w : World} {v : Value} {ks : List Int} (h : Inn w v ks) {i : Nat} {x : Int} (hi : ks[i]? = some x) : ∃ b o c, v = .slice (some ⟨b, o, none⟩) ks.length c ∧ w.cell? ⟨b, o + i, none⟩ = some (.int .i64 x) ∧ I64 x := by
  obtain ⟨p, c, rfl, h1, h2, h3, h4⟩ := h
  have hl := (List.getElem?_eq_some_iff.1 hi).1
  cases p with
  | none => have := h3 rfl; omega
  | some a =>
    obtain ⟨g1, g2⟩ := h4 a rfl i x hi
    have h0 := (h4 a rfl 0 ks[0] (List.getElem?_eq_getElem (by omega))).1
    have hs := spot_of_cell h0
    have hs' : a.spot = none := by
      unfold Addr.add at hs
      split at hs <;> simp_all
    obtain ⟨b, o, sp⟩ := a
    simp only at hs'
    subst hs'
    rw [add_none (a := ⟨b, o, none⟩) rfl] at g1
    exact ⟨b, o, c, rfl, g1, g2⟩
end Go.Proofs.YtnjfahgmebmakaaGreatDoor

/-
  OWN WORK. The law PlainApart (layer 18): the State, and things of one's own that are none of its blocks.
-/
namespace Go.Proofs.YtnjfahgmebmakaaGreatDoor
open Go.RowKit
set_option linter.unusedVariables false
structure M18 (Ks : List Nat) (Vr : World → Prop) (Pn : World → Nat → List Nat → Cf → St → Prop) (w wr : World) (g : Nat) (c : Cf) (k : Nat) (S : St) (T : List (Value × (World → Prop))) (F : List Nat) : Prop where
  b : B18 Ks Vr Pn w wr g c k F S
  h : ∀ x ∈ T, x.2 wr
  st : ∀ x ∈ T, Stays x.1 x.2
  lt : ∀ x ∈ T, ∀ y, x.1.ownBlock = some y → w.heap.size ≤ y ∧ y < wr.heap.size ∧ y ∉ F
  ap : T.Pairwise fun a b => Ap a.1 b.1
section
variable {Ks : List Nat} {Vr : World → Prop} {Pn : World → Nat → List Nat → Cf → St → Prop} {w wr w' : World} {g : Nat} {c : Cf} {k j : Nat} {S S' : St} {T : List (Value × (World → Prop))} {F F' : List Nat}
theorem M18.nil (h : B18 Ks Vr Pn w wr g c k F S) : M18 Ks Vr Pn w wr g c k S [] F := ⟨h, by simp, by simp, by simp, .nil⟩
theorem M18.tail {x : Value × (World → Prop)} (h : M18 Ks Vr Pn w wr g c k S (x :: T) F) : M18 Ks Vr Pn w wr g c k S T F :=
  ⟨h.b, fun y hy => h.h y (List.mem_cons_of_mem _ hy), fun y hy => h.st y (List.mem_cons_of_mem _ hy), fun y hy => h.lt y (List.mem_cons_of_mem _ hy), (List.pairwise_cons.1 h.ap).2⟩
theorem M18.then (O : PnOps Ks Vr Pn) (h : M18 Ks Vr Pn w wr g c k S T F) (kk : Kept [] wr w') : M18 Ks Vr Pn w w' g c k S T F :=
  ⟨h.b.then O kk, fun x hx => h.st x hx wr w' [] (h.h x hx) kk (by simp), h.st, fun x hx y hy => ⟨(h.lt x hx y hy).1, Nat.lt_of_lt_of_le (h.lt x hx y hy).2.1 kk.size, (h.lt x hx y hy).2.2⟩, h.ap⟩
/-- a call of the State -/
theorem M18.go (O : PnOps Ks Vr Pn) (h : M18 Ks Vr Pn w wr g c k S T F) (p : Pn w' g F' c S') (f : Fr wr F F') (kk : Kept F wr w') (hj : cnt S' ≤ j) : M18 Ks Vr Pn w w' g c j S' T F' :=
  ⟨h.b.go O p f kk hj, fun x hx => h.st x hx wr w' F (h.h x hx) kk (fun y hy => (h.lt x hx y hy).2.2), h.st, fun x hx y hy => ⟨(h.lt x hx y hy).1, Nat.lt_of_lt_of_le (h.lt x hx y hy).2.1 kk.size, fun hm => by
    rcases f y hm with q | q
    · exact (h.lt x hx y hy).2.2 q
    · have := (h.lt x hx y hy).2.1; omega⟩, h.ap⟩
/-- a new thing -/
theorem M18.new (O : PnOps Ks Vr Pn) {v : Value} {p : World → Prop} (h : M18 Ks Vr Pn w wr g c k S T F) (kk : Kept [] wr w') (hp : p w') (hs : Stays v p) (hv : ∀ y, v.ownBlock = some y → wr.heap.size ≤ y ∧ y < w'.heap.size) : M18 Ks Vr Pn w w' g c k S ((v, p) :: T) F := by
  have h' := h.then O kk
  refine ⟨h'.b, fun x hx => ?_, fun x hx => ?_, fun x hx y hy => ?_, List.pairwise_cons.2 ⟨fun x hx y hy e => ?_, h.ap⟩⟩
  · rcases List.mem_cons.1 hx with rfl | hx
    · exact hp
    · exact h'.h x hx
  · rcases List.mem_cons.1 hx with rfl | hx
    · exact hs
    · exact h.st x hx
  · rcases List.mem_cons.1 hx with rfl | hx
    · have q := hv y hy
      refine ⟨Nat.le_trans h.b.kp.size q.1, q.2, fun hm => ?_⟩
      have := O.lt h.b.p y hm; omega
    · exact h'.lt x hx y hy
  · have := (hv y hy).1; have := (h.lt x hx y e).2.1; omega
/-- the first one is written, or lies in a new block -/
theorem M18.head (O : PnOps Ks Vr Pn) {v v' : Value} {p p' : World → Prop} (h : M18 Ks Vr Pn w wr g c k S ((v, p) :: T) F) (hK : ∀ x ∈ Ks, x < w.heap.size) (kk : Kept v.ownBlock.toList wr w') (hp : p' w') (hs : Stays v' p') (hv : ∀ y, v'.ownBlock = some y → v.ownBlock = some y ∨ (wr.heap.size ≤ y ∧ y < w'.heap.size)) : M18 Ks Vr Pn w w' g c k S ((v', p') :: T) F := by
  have hap := List.pairwise_cons.1 h.ap
  have h0 := h.lt (v, p) (List.mem_cons_self ..)
  refine ⟨⟨O.kept h.b.p kk (fun x hx hm => (h0 x (own_mem.1 hm)).2.2 hx), O.vkept h.b.v kk (fun x hx hm => by have := (h0 x (own_mem.1 hm)).1; have := hK x hx; omega), h.b.kp.trans kk (fun x hx => .inr (h0 x (own_mem.1 hx)).1), h.b.lo, h.b.sz⟩, fun x hx => ?_, fun x hx => ?_, fun x hx y hy => ?_, List.pairwise_cons.2 ⟨fun x hx y hy e => ?_, hap.2⟩⟩
  · rcases List.mem_cons.1 hx with rfl | hx
    · exact hp
    · exact h.st x (List.mem_cons_of_mem _ hx) wr w' _ (h.h x (List.mem_cons_of_mem _ hx)) kk (fun y hy hm => hap.1 x hx y (own_mem.1 hm) hy)
  · rcases List.mem_cons.1 hx with rfl | hx
    · exact hs
    · exact h.st x (List.mem_cons_of_mem _ hx)
  · rcases List.mem_cons.1 hx with rfl | hx
    · rcases hv y hy with q | q
      · exact ⟨(h0 y q).1, Nat.lt_of_lt_of_le (h0 y q).2.1 kk.size, (h0 y q).2.2⟩
      · exact ⟨Nat.le_trans h.b.kp.size q.1, q.2, fun hm => by have := O.lt h.b.p y hm; omega⟩
    · have q := h.lt x (List.mem_cons_of_mem _ hx) y hy
      exact ⟨q.1, Nat.lt_of_lt_of_le q.2.1 kk.size, q.2.2⟩
  · rcases hv y hy with q | q
    · exact hap.1 x hx y q e
    · have := (h.lt x (List.mem_cons_of_mem _ hx) y e).2.1; omega
/-- a list of changes grows by one -/
theorem M18.app (O : PnOps Ks Vr Pn) {w7 w8 : World} {v v' : Value} {l : List Chg} {x : Chg} (h : M18 Ks Vr Pn w wr g c k S ((v, fun a => Cs a w.heap.size v l) :: T) F) (hK : ∀ x ∈ Ks, x < w.heap.size) (k7 : Kept [] wr w7) (r8 : Row w8 w.heap.size 3 v' (l.length + 1) (ccells l ++ [.int .i64 x.key, .int .u64 x.val, .bool x.gone])) (k8 : Kept v.ownBlock.toList w7 w8) (o8 : v'.ownBlock = v.ownBlock ∨ (v'.ownBlock = some w7.heap.size ∧ Kept [] w7 w8)) : M18 Ks Vr Pn w w8 g c k S ((v', fun a => Cs a w.heap.size v' (l ++ [x])) :: T) F := by
  have hp : Cs w8 w.heap.size v' (l ++ [x]) := by unfold Cs; rw [List.length_append, ccells_append]; exact r8
  refine (h.then O k7).head O hK k8 hp (Row.stays _ _ _ _ _) (fun y hy => ?_)
  rcases o8 with q | ⟨q, -⟩
  · exact .inl (by rw [← q]; exact hy)
  · have h1 := (Row.lt hp y hy).2
    rw [q] at hy
    cases hy
    exact .inr ⟨Nat.le_refl _, h1⟩
theorem M18.sz (h : M18 Ks Vr Pn w wr g c k S T F) (hj : cnt S ≤ j) : M18 Ks Vr Pn w wr g c j S T F := ⟨⟨h.b.p, h.b.v, h.b.kp, h.b.lo, hj⟩, h.h, h.st, h.lt, h.ap⟩
end
/-- the Config's box, as a thing -/
def boxV (g : Nat) : Value := .slice (some ⟨g, 0, none⟩) 0 0
def boxT (g : Nat) (t : TypeId) (cs : List Value) : Value × (World → Prop) := (boxV g, fun w => Blk w g t cs)
theorem box_stays (g : Nat) (t : TypeId) (cs : List Value) : Stays (boxV g) (fun w => Blk w g t cs) := fun w w' S h k hS => h.kept k (hS g rfl)
theorem M18.start {Ks : List Nat} {Vr : World → Prop} {Pn : World → Nat → List Nat → Cf → St → Prop} {w w6 w7 : World} {g gd : Nat} {c : Cf} {k : Nat} {S : St} {t : TypeId} {cs : List Value} {F : List Nat} (kp : Kept [] w w6) (B : Blk w6 gd t cs) (hgd : w.heap.size ≤ gd) (b : B18 Ks Vr Pn w6 w7 g c k F S) : M18 Ks Vr Pn w w7 g c k S [boxT gd t cs] F := by
  have hl := B.lt
  refine ⟨⟨b.p, b.v, kp.then b.kp, fun x hx => Nat.le_trans kp.size (b.lo x hx), b.sz⟩, fun x hx => ?_, fun x hx => ?_, fun x hx y hy => ?_, List.pairwise_singleton _ _⟩
  · rw [List.mem_singleton.1 hx]; exact B.kept b.kp (by simp)
  · rw [List.mem_singleton.1 hx]; exact box_stays gd t cs
  · rw [List.mem_singleton.1 hx] at hy
    obtain rfl : gd = y := Option.some.inj hy
    exact ⟨hgd, Nat.lt_of_lt_of_le hl b.kp.size, fun hm => by have := b.lo gd hm; omega⟩
/-- two lists handed on -/
theorem ll_two {w w' : World} {a b : Value} {la lb : List Chg} {t : TypeId} (ha : Cs w 0 a la) (hb : Cs w 0 b lb) (h1 : a.oneCell' = true) (h2 : b.oneCell' = true) (hw : w' = w.alloc (.cells #[a, b] t)) : Ll w' (.slice (some ⟨w.heap.size, 0, none⟩) 2 2) [(la, a), (lb, b)] ∧ Kept [] w w' := by
  have k : Kept [] w w' := by rw [hw]; exact (Kept.refl [] w).alloc _
  have B : Blk w' w.heap.size t [a, b] := by rw [hw]; exact Blk.new w _ _
  refine ⟨⟨?_, fun d hd => ?_⟩, k⟩
  · refine ⟨rfl, fun u hu => ?_, _, 2, rfl, Nat.le_refl _, by simp [maxLen], .inr ⟨w.heap.size, rfl, Nat.zero_le _, B.lt, fun j u hj => B.cell hj, fun j hj => ⟨?_, B.free j⟩⟩⟩
    · simp at hu
      rcases hu with rfl | rfl
      · exact h1
      · exact h2
    · obtain ⟨x, hx⟩ : ∃ x, ([a, b] : List Value)[j]? = some x := ⟨_, List.getElem?_eq_getElem (by simpa using hj)⟩
      rw [B.cell hx]; rfl
  · simp at hd
    rcases hd with rfl | rfl
    · exact ha.kept k (by simp)
    · exact hb.kept k (by simp)
end Go.Proofs.YtnjfahgmebmakaaGreatDoor

/-
  OWN WORK. The landed plain (layer 18) in plain words: what lists of changes leave, as a rising list of keys and values; what a key has there; how many there are.
-/
namespace Go.Proofs.YtnjfahgmebmakaaGreatDoor
set_option linter.unusedVariables false

def Rise (l : List (Int × Int)) : Prop := l.Pairwise fun a b => a.1 < b.1
/-- what a change does to the entries, told by membership -/
def laid (x : Chg) (l : List (Int × Int)) : List (Int × Int) := l.filter (fun e => e.1 != x.key)
theorem layE_true (x : Chg) : ∀ l : List (Int × Int), layE x true l = laid x l
  | [] => by simp [layE, laid]
  | e :: r => by
    have ih := layE_true x r
    unfold layE
    simp only [Bool.true_eq_false, false_and, if_false, List.nil_append, Bool.true_or, ih]
    by_cases c : e.1 = x.key
    · simp [laid, c]
    · simp [laid, c]
theorem layE_mem (x : Chg) : ∀ (l : List (Int × Int)), Rise l → (∀ e, e ∈ layE x false l ↔ (e = (x.key, x.val) ∨ (e ∈ l ∧ e.1 ≠ x.key))) ∧ Rise (layE x false l)
  | [], _ => by simp [layE, Rise]
  | e :: r, h => by
    obtain ⟨h1, h2⟩ := List.pairwise_cons.1 h
    by_cases c : x.key ≤ e.1
    · have q : layE x false (e :: r) = (x.key, x.val) :: laid x (e :: r) := by
        rw [← layE_true]
        unfold layE
        simp [c]
      rw [q]
      refine ⟨fun y => by simp [laid], List.pairwise_cons.2 ⟨fun y hy => ?_, h.sublist List.filter_sublist⟩⟩
      obtain ⟨h3, h4⟩ := List.mem_filter.1 hy
      have hne : y.1 ≠ x.key := by simpa using h4
      rcases List.mem_cons.1 h3 with rfl | h3
      · show x.key < y.1; omega
      · have := h1 y h3; show x.key < y.1; omega
    · have q : layE x false (e :: r) = e :: layE x false r := by
        conv => lhs; unfold layE
        have c2 : ¬ e.1 = x.key := by omega
        simp [c, c2]
      obtain ⟨i1, i2⟩ := layE_mem x r h2
      rw [q]
      refine ⟨fun y => ?_, List.pairwise_cons.2 ⟨fun y hy => ?_, i2⟩⟩
      · rw [List.mem_cons, i1, List.mem_cons]
        constructor
        · rintro (rfl | rfl | ⟨h3, h4⟩)
          · exact .inr ⟨.inl rfl, by omega⟩
          · exact .inl rfl
          · exact .inr ⟨.inr h3, h4⟩
        · rintro (rfl | ⟨rfl | h3, h4⟩)
          · exact .inr (.inl rfl)
          · exact .inl rfl
          · exact .inr (.inr ⟨h3, h4⟩)
      · rcases (i1 y).1 hy with rfl | ⟨h3, -⟩
        · show e.1 < x.key; omega
        · exact h1 y h3
theorem lay_mem (x : Chg) {l : List (Int × Int)} (h : Rise l) : (∀ e, e ∈ layE x x.gone l ↔ ((x.gone = false ∧ e = (x.key, x.val)) ∨ (e ∈ l ∧ e.1 ≠ x.key))) ∧ Rise (layE x x.gone l) := by
  cases hg : x.gone with
  | true =>
    rw [layE_true]
    exact ⟨fun e => by simp [laid], h.sublist List.filter_sublist⟩
  | false =>
    obtain ⟨h1, h2⟩ := layE_mem x l h
    exact ⟨fun e => by rw [h1]; simp, h2⟩
theorem foldE_rise : ∀ (l : List Chg) {o : List (Int × Int)}, Rise o → Rise (foldE o l)
  | [], o, h => h
  | x :: l, o, h => foldE_rise l (lay_mem x h).2
theorem foldL_eq (ls : List (List Chg)) : foldL ls = foldE [] ls.flatten := by
  have : ∀ (ls : List (List Chg)) (o : List (Int × Int)), ls.foldl foldE o = foldE o ls.flatten := by
    intro ls
    induction ls with
    | nil => intro o; rfl
    | cons l r ih => intro o; rw [List.foldl_cons, ih, List.flatten_cons]; unfold foldE; rw [List.foldl_append]
  exact this ls []
theorem foldL_rise (ls : List (List Chg)) : Rise (foldL ls) := by rw [foldL_eq]; exact foldE_rise _ .nil
theorem foldE_snoc (o : List (Int × Int)) (l : List Chg) (x : Chg) : foldE o (l ++ [x]) = layE x x.gone (foldE o l) := by unfold foldE; rw [List.foldl_append]; rfl
theorem Rise.eq {l : List (Int × Int)} (h : Rise l) {a b : Int × Int} (ha : a ∈ l) (hb : b ∈ l) (e : a.1 = b.1) : a = b := by
  induction l with
  | nil => simp at ha
  | cons x r ih =>
    obtain ⟨h1, h2⟩ := List.pairwise_cons.1 h
    rcases List.mem_cons.1 ha with ea | ha'
    · rcases List.mem_cons.1 hb with eb | hb'
      · rw [ea, eb]
      · have := h1 b hb'; rw [ea] at e; omega
    · rcases List.mem_cons.1 hb with eb | hb'
      · have := h1 a ha'; rw [eb] at e; omega
      · exact ih h2 ha' hb'
/-- rising lists with the same members are one -/
theorem Rise.ext {a b : List (Int × Int)} (ha : Rise a) (hb : Rise b) (h : ∀ e, e ∈ a ↔ e ∈ b) : a = b := by
  have nd : ∀ {l : List (Int × Int)}, Rise l → l.Nodup := fun {l} hl => hl.imp (fun {x y} q e => by rw [e] at q; omega)
  exact ((List.perm_ext_iff_of_nodup (nd ha) (nd hb)).2 h).eq_of_pairwise (le := fun a b : Int × Int => a.1 ≤ b.1) (fun x y hx hy h1 h2 => ha.eq hx ((h y).2 hy) (by omega)) (ha.imp fun q => by omega) (hb.imp fun q => by omega)
theorem Rise.nodup {l : List (Int × Int)} (hl : Rise l) : (l.map Prod.fst).Nodup := List.pairwise_map.2 (hl.imp (fun {x y} q e => by omega))
theorem Rise.filter {l : List (Int × Int)} (hl : Rise l) (p : Int × Int → Bool) : Rise (l.filter p) := hl.sublist List.filter_sublist
/-- what a key has -/
def lookE (l : List (Int × Int)) (k : Int) : Option Int := (l.find? fun e => e.1 == k).map Prod.snd
theorem lookE_some {l : List (Int × Int)} (hl : Rise l) {k v : Int} : lookE l k = some v ↔ (k, v) ∈ l := by
  unfold lookE
  constructor
  · intro h
    obtain ⟨e, h1, rfl⟩ := Option.map_eq_some_iff.1 h
    have h2 := List.mem_of_find?_eq_some h1
    have h3 : e.1 = k := by simpa using List.find?_some h1
    rw [← h3]; exact h2
  · intro h
    cases hf : l.find? fun e => e.1 == k with
    | none => have := List.find?_eq_none.1 hf _ h; simp at this
    | some e =>
      have h2 := List.mem_of_find?_eq_some hf
      have h3 : e.1 = k := by simpa using List.find?_some hf
      have := hl.eq h2 h h3
      rw [this]; rfl
theorem lookE_none {l : List (Int × Int)} {k : Int} : lookE l k = none ↔ ∀ e ∈ l, e.1 ≠ k := by
  unfold lookE
  rw [Option.map_eq_none_iff, List.find?_eq_none]
  simp
theorem lookE_lay {x : Chg} {l : List (Int × Int)} (hl : Rise l) (k : Int) : lookE (layE x x.gone l) k = if k = x.key then (if x.gone = true then none else some x.val) else lookE l k := by
  obtain ⟨h1, h2⟩ := lay_mem x hl
  by_cases c : k = x.key
  · rw [if_pos c]
    cases hg : x.gone with
    | true =>
      rw [hg] at h1
      rw [if_pos rfl, lookE_none]
      intro e he q
      rcases (h1 e).1 he with ⟨h, -⟩ | ⟨-, h⟩
      · cases h
      · exact h (by rw [q, c])
    | false =>
      rw [hg] at h1 h2
      rw [if_neg (by decide), lookE_some h2, h1]
      exact .inl ⟨rfl, by rw [c]⟩
  · rw [if_neg c]
    cases hb : lookE l k with
    | none =>
      rw [lookE_none] at hb ⊢
      intro e he
      rcases (h1 e).1 he with ⟨-, h⟩ | ⟨h, -⟩
      · rw [h]; exact fun q => c q.symm
      · exact hb e h
    | some v =>
      rw [lookE_some hl] at hb
      rw [lookE_some h2, h1]
      exact .inr ⟨hb, c⟩
/-- a value and whether it is there, of what a key has -/
def pairO (o : Option Int) : Int × Bool := match o with
  | none => (0, false)
  | some v => (v, true)
theorem shut_pairO (o : Option Int) : shutV (pairO o) = pairO o := by cases o <;> rfl
theorem stepV_pair (key : Int) (o : Option Int) (x : Chg) : shutV (stepV key (pairO o) x) = pairO (if key = x.key then (if x.gone = true then none else some x.val) else o) := by
  unfold stepV
  by_cases c : x.key = key
  · rw [if_pos c, if_pos c.symm]
    cases x.gone <;> rfl
  · rw [if_neg c, if_neg (fun q => c q.symm)]
    cases o <;> rfl
theorem shut_step (key : Int) (p : Int × Bool) (x : Chg) : shutV (stepV key (shutV p) x) = shutV (stepV key p x) := by
  unfold stepV
  split
  · rfl
  · unfold shutV; obtain ⟨a, b⟩ := p; cases b <;> simp
theorem value_fold (key : Int) : ∀ (l : List Chg) {o : List (Int × Int)} (p : Int × Bool), Rise o → shutV p = pairO (lookE o key) → shutV (l.foldl (stepV key) p) = pairO (lookE (foldE o l) key)
  | [], o, p, ho, hp => hp
  | x :: l, o, p, ho, hp => by
    refine value_fold key l (o := layE x x.gone o) (stepV key p x) (lay_mem x ho).2 ?_
    rw [← shut_step, hp, stepV_pair, lookE_lay ho]
theorem seesD_look (ls : List (List Chg)) (key : Int) : seesD ls key = pairO (lookE (foldL ls) key) := by
  have : ∀ (ls : List (List Chg)) (o : List (Int × Int)) (p : Int × Bool), Rise o → p = pairO (lookE o key) → ls.foldl (fun p l => valueL l key p) p = pairO (lookE (ls.foldl foldE o) key) := by
    intro ls
    induction ls with
    | nil => intro o p _ h; exact h
    | cons l r ih =>
      intro o p ho hp
      rw [List.foldl_cons, List.foldl_cons]
      refine ih _ _ (foldE_rise l ho) ?_
      exact value_fold key l p ho (by rw [hp, shut_pairO])
  exact this ls [] (0, false) .nil rfl
theorem seesT_look (s : St) (t : Tn) (key : Int) : seesT s t key = pairO (lookE (foldE (foldL s.done) t.chs) key) := by
  unfold seesT
  exact value_fold key t.chs _ (foldL_rise _) (by rw [seesD_look, shut_pairO])
/-- the entries of a page -/
def onP (c : Cf) (p : Int) (l : List (Int × Int)) : List (Int × Int) := l.filter fun e => e.1 % c.pages == p
def pgD (c : Cf) (s : St) (p : Int) : List (Int × Int) := onP c p (foldL s.done)
def pgT (c : Cf) (s : St) (t : Tn) (p : Int) : List (Int × Int) := onP c p (foldE (foldL s.done) t.chs)
theorem onP_rise {c : Cf} {p : Int} {l : List (Int × Int)} (h : Rise l) : Rise (onP c p l) := h.filter _
theorem pgD_rise (c : Cf) (s : St) (p : Int) : Rise (pgD c s p) := onP_rise (foldL_rise _)
theorem pgT_rise (c : Cf) (s : St) (t : Tn) (p : Int) : Rise (pgT c s t p) := onP_rise (foldE_rise _ (foldL_rise _))
theorem mem_onP {c : Cf} {p : Int} {l : List (Int × Int)} {e : Int × Int} : e ∈ onP c p l ↔ e ∈ l ∧ e.1 % c.pages = p := by simp [onP]
theorem look_onP {c : Cf} {p k : Int} {l : List (Int × Int)} (hl : Rise l) (h : k % c.pages = p) : lookE (onP c p l) k = lookE l k := by
  cases hb : lookE l k with
  | none =>
    rw [lookE_none] at hb ⊢
    exact fun e he => hb e (mem_onP.1 he).1
  | some v =>
    rw [lookE_some hl] at hb
    rw [lookE_some (onP_rise hl)]
    exact mem_onP.2 ⟨hb, h⟩
/-- the page that a change is of -/
theorem onP_lay {c : Cf} {p : Int} {x : Chg} {l : List (Int × Int)} (hl : Rise l) : onP c p (layE x x.gone l) = if x.key % c.pages = p then layE x x.gone (onP c p l) else onP c p l := by
  split
  · rename_i h
    refine Rise.ext (onP_rise (lay_mem x hl).2) (lay_mem x (onP_rise hl)).2 fun e => ?_
    rw [mem_onP, (lay_mem x hl).1, (lay_mem x (onP_rise hl)).1, mem_onP]
    constructor
    · rintro ⟨⟨h1, rfl⟩ | ⟨h1, h2⟩, h3⟩
      · exact .inl ⟨h1, rfl⟩
      · exact .inr ⟨⟨h1, h3⟩, h2⟩
    · rintro (⟨h1, rfl⟩ | ⟨⟨h1, h3⟩, h2⟩)
      · exact ⟨.inl ⟨h1, rfl⟩, h⟩
      · exact ⟨.inr ⟨h1, h2⟩, h3⟩
  · rename_i h
    refine Rise.ext (onP_rise (lay_mem x hl).2) (onP_rise hl) fun e => ?_
    rw [mem_onP, (lay_mem x hl).1, mem_onP]
    constructor
    · rintro ⟨⟨h1, rfl⟩ | ⟨h1, h2⟩, h3⟩
      · exact absurd h3 h
      · exact ⟨h1, h3⟩
    · rintro ⟨h1, h3⟩
      exact ⟨.inr ⟨h1, fun q => h (by rw [← q]; exact h3)⟩, h3⟩
/-- changes of other pages leave a page alone -/
theorem onP_fold {c : Cf} {p : Int} : ∀ {l : List Chg} {o : List (Int × Int)}, Rise o → (∀ x ∈ l, x.key % c.pages ≠ p) → onP c p (foldE o l) = onP c p o
  | [], o, _, _ => rfl
  | x :: l, o, ho, h => by
    rw [show foldE o (x :: l) = foldE (layE x x.gone o) l from rfl, onP_fold (lay_mem x ho).2 (fun y hy => h y (by simp [hy])), onP_lay ho, if_neg (h x (by simp))]
/-- .. and a page's changes hang on that page's entries alone -/
theorem onP_alike {c : Cf} {p : Int} : ∀ {l : List Chg} {o o' : List (Int × Int)}, Rise o → Rise o' → onP c p o = onP c p o' → onP c p (foldE o l) = onP c p (foldE o' l)
  | [], o, o', _, _, h => h
  | x :: l, o, o', ho, ho', h => by
    rw [show foldE o (x :: l) = foldE (layE x x.gone o) l from rfl, show foldE o' (x :: l) = foldE (layE x x.gone o') l from rfl]
    refine onP_alike (lay_mem x ho).2 (lay_mem x ho').2 ?_
    rw [onP_lay ho, onP_lay ho', h]
/-! how many there are -/
def lastQ (l : List Chg) (i : Nat) (q : Int → Bool) : Bool := match l[i]? with
  | none => false
  | some c => q c.key && !c.gone && (l.drop (i + 1)).all fun d => d.key != c.key
def cntQ (q : Int → Bool) (l : List Chg) : Nat → Int
  | 0 => 0
  | i + 1 => cntQ q l i + (if lastQ l i q = true then 1 else 0)
theorem countTo_cntQ (pages page : Int) (l : List Chg) : ∀ n, countTo pages page l n = cntQ (fun k => k % pages == page) l n
  | 0 => rfl
  | n + 1 => by
    unfold countTo cntQ
    rw [countTo_cntQ pages page l n]
    rfl
theorem lastQ_snoc {l : List Chg} {x : Chg} {i : Nat} {q : Int → Bool} (hi : i < l.length) : lastQ (l ++ [x]) i q = lastQ l i (fun k => q k && k != x.key) := by
  unfold lastQ
  rw [List.getElem?_append_left hi, List.getElem?_eq_getElem hi]
  dsimp only
  rw [List.drop_append_of_le_length (by omega), List.all_append]
  simp only [List.all_cons, List.all_nil, Bool.and_true]
  rw [show (x.key != l[i].key) = (l[i].key != x.key) by rw [Bool.eq_iff_iff]; simp only [bne_iff_ne]; exact ⟨Ne.symm, Ne.symm⟩]
  cases q l[i].key <;> cases l[i].gone <;> cases (l[i].key != x.key) <;> simp
theorem cntQ_snoc {l : List Chg} {x : Chg} {q : Int → Bool} : ∀ n, n ≤ l.length → cntQ q (l ++ [x]) n = cntQ (fun k => q k && k != x.key) l n
  | 0, _ => rfl
  | n + 1, h => by
    unfold cntQ
    rw [cntQ_snoc n (by omega), lastQ_snoc (by omega)]
theorem cntQ_len : ∀ (n : Nat) (l : List Chg) (q : Int → Bool), l.length = n → cntQ q l n = (((foldE [] l).filter fun e => q e.1).length : Int)
  | 0, l, q, h => by
    obtain rfl := List.eq_nil_of_length_eq_zero h
    rfl
  | n + 1, l, q, h => by
    obtain ⟨l', x, rfl⟩ : ∃ l' x, l = l' ++ [x] := ⟨l.dropLast, l.getLast (by intro e; simp [e] at h), (List.dropLast_concat_getLast _).symm⟩
    have hl : l'.length = n := by simpa using h
    unfold cntQ
    rw [cntQ_snoc n (by omega), cntQ_len n l' _ hl, foldE_snoc]
    have hr : Rise (foldE [] l') := foldE_rise _ .nil
    have hlast : lastQ (l' ++ [x]) n q = (q x.key && !x.gone) := by
      unfold lastQ
      rw [← hl, List.getElem?_append_right (Nat.le_refl _)]
      simp
    rw [hlast]
    cases hg : x.gone with
    | true =>
      rw [layE_true]
      unfold laid
      rw [List.filter_filter]
      simp
    | false =>
      obtain ⟨m1, m2⟩ := layE_mem x _ hr
      by_cases hq : q x.key = true
      · rw [hq]
        have p : ((layE x false (foldE [] l')).filter fun e => q e.1).Perm ((x.key, x.val) :: (foldE [] l').filter fun e => q e.1 && e.1 != x.key) := by
          have nd : ∀ {l : List (Int × Int)}, Rise l → l.Nodup := fun {l} hl => hl.imp (fun {x y} q e => by rw [e] at q; omega)
          refine (List.perm_ext_iff_of_nodup (nd (m2.filter _)) (List.nodup_cons.2 ⟨by simp, nd (hr.filter _)⟩)).2 fun e => ?_
          rw [List.mem_filter, m1, List.mem_cons, List.mem_filter]
          constructor
          · rintro ⟨rfl | ⟨h1, h2⟩, h3⟩
            · exact .inl rfl
            · exact .inr ⟨h1, by simp [h2]; simpa using h3⟩
          · rintro (rfl | ⟨h1, h2⟩)
            · exact ⟨.inl rfl, hq⟩
            · simp at h2; exact ⟨.inr ⟨h1, h2.2⟩, h2.1⟩
        rw [p.length_eq]
        simp
      · have hq' : q x.key = false := by simpa using hq
        rw [hq']
        have : ((layE x false (foldE [] l')).filter fun e => q e.1) = (foldE [] l').filter fun e => q e.1 && e.1 != x.key := by
          refine Rise.ext (m2.filter _) (hr.filter _) fun e => ?_
          rw [List.mem_filter, m1, List.mem_filter]
          constructor
          · rintro ⟨rfl | ⟨h1, h2⟩, h3⟩
            · rw [hq'] at h3; cases h3
            · exact ⟨h1, by simp [h2]; simpa using h3⟩
          · rintro ⟨h1, h2⟩
            simp at h2; exact ⟨.inr ⟨h1, h2.2⟩, h2.1⟩
        rw [this]
        simp
theorem count_len (c : Cf) (s : St) (t : Tn) (p : Int) : countS c s t p = ((pgT c s t p).length : Int) := by
  unfold countS
  rw [countTo_cntQ, cntQ_len _ _ _ rfl]
  unfold pgT onP allC
  rw [foldL_eq]
  unfold foldE
  rw [List.foldl_append]
end Go.Proofs.YtnjfahgmebmakaaGreatDoor

/-
  OWN WORK. The landed plain (layer 18) in plain words: who holds which pages, and what each step does to the pages' entries.
-/
namespace Go.Proofs.YtnjfahgmebmakaaGreatDoor
set_option linter.unusedVariables false

/-- a page is held by one at most, and what one has changed lies on pages that it holds -/
structure Ok2 (c : Cf) (s : St) : Prop where
  exc : ∀ t ∈ s.opn, ∀ t' ∈ s.opn, t.id ≠ t'.id → ∀ p ∈ t.pages, p ∉ t'.pages
  on : ∀ t ∈ s.opn, ∀ x ∈ t.chs, x.key % c.pages ∈ t.pages
theorem Ok2.new (c : Cf) : Ok2 c ⟨[], [], 0⟩ := ⟨by simp, by simp⟩
theorem Ok2.same {c : Cf} {s s' : St} (h : Ok2 c s) (e : s'.opn = s.opn) : Ok2 c s' := ⟨by rw [e]; exact h.exc, by rw [e]; exact h.on⟩
theorem Ok2.beg {c : Cf} {s : St} (h : Ok2 c s) (id : Int) (d : List (List Chg)) (u : Int) : Ok2 c ⟨d, s.opn ++ [⟨id, [], [], []⟩], u⟩ := by
  refine ⟨fun t ht t' ht' hne p hp => ?_, fun t ht x hx => ?_⟩
  · rcases List.mem_append.1 ht with q | q
    · rcases List.mem_append.1 ht' with q' | q'
      · exact h.exc t q t' q' hne p hp
      · simp at q'; subst q'; simp
    · simp at q; subst q; simp at hp
  · rcases List.mem_append.1 ht with q | q
    · exact h.on t q x hx
    · simp at q; subst q; simp at hx
theorem mem_set {α : Type} {l : List α} {k : Nat} {a x : α} (h : x ∈ l.set k a) : x = a ∨ ∃ i, i ≠ k ∧ l[i]? = some x := by
  obtain ⟨i, hi, e⟩ := List.getElem_of_mem h
  rw [List.getElem_set] at e
  rw [List.length_set] at hi
  split at e
  · exact .inl e.symm
  · rename_i q
    exact .inr ⟨i, fun r => q r.symm, by rw [← e]; exact List.getElem?_eq_getElem hi⟩
theorem ids_ne {l : List Tn} (h : l.Pairwise fun x y => x.id ≠ y.id) {i j : Nat} {a b : Tn} (hi : l[i]? = some a) (hj : l[j]? = some b) (hne : i ≠ j) : a.id ≠ b.id := by
  obtain ⟨hil, ea⟩ := List.getElem?_eq_some_iff.1 hi
  obtain ⟨hjl, eb⟩ := List.getElem?_eq_some_iff.1 hj
  rw [← ea, ← eb]
  rcases Nat.lt_or_gt_of_ne hne with q | q
  · exact List.pairwise_iff_getElem.1 h i j hil hjl q
  · exact fun e => (List.pairwise_iff_getElem.1 h j i hjl hil q) e.symm
theorem ids_eq {l : List Tn} (h : l.Pairwise fun x y => x.id ≠ y.id) {a b : Tn} (ha : a ∈ l) (hb : b ∈ l) (e : a.id = b.id) : a = b := by
  obtain ⟨i, hi⟩ := List.getElem?_of_mem ha
  obtain ⟨j, hj⟩ := List.getElem?_of_mem hb
  by_cases q : i = j
  · rw [q, hj] at hi; exact (Option.some.inj hi).symm
  · exact absurd e (ids_ne h hi hj q)
theorem Ok2.set {c : Cf} {s : St} (h : Ok2 c s) (ok : OkS c s) {k : Nat} {t t' : Tn} (hk : s.opn[k]? = some t) (hid : t'.id = t.id) (hp : ∀ p ∈ t'.pages, p ∈ t.pages ∨ ∀ x ∈ s.opn, x.id ≠ t.id → p ∉ x.pages) (ho : ∀ x ∈ t'.chs, x.key % c.pages ∈ t'.pages) (d : List (List Chg)) (u : Int) : Ok2 c ⟨d, s.opn.set k t', u⟩ := by
  have hm := List.mem_of_getElem? hk
  have one : ∀ x i, i ≠ k → s.opn[i]? = some x → x.id ≠ t.id ∧ ∀ p ∈ t'.pages, p ∉ x.pages := fun x i hi hx => by
    have hne := ids_ne ok.dif hx hk hi
    have hxm := List.mem_of_getElem? hx
    refine ⟨hne, fun p q r => ?_⟩
    rcases hp p q with q' | q'
    · exact h.exc t hm x hxm (Ne.symm hne) p q' r
    · exact q' x hxm hne r
  refine ⟨fun a ha b hb hne p pa pb => ?_, fun a ha x hx => ?_⟩
  · rcases mem_set ha with rfl | ⟨i, hi, hai⟩
    · rcases mem_set hb with rfl | ⟨j, hj, hbj⟩
      · exact hne rfl
      · exact (one b j hj hbj).2 p pa pb
    · rcases mem_set hb with rfl | ⟨j, hj, hbj⟩
      · exact (one a i hi hai).2 p pb pa
      · exact h.exc a (List.mem_of_getElem? hai) b (List.mem_of_getElem? hbj) hne p pa pb
  · rcases mem_set ha with rfl | ⟨i, hi, hai⟩
    · exact ho x hx
    · exact h.on a (List.mem_of_getElem? hai) x hx
theorem Ok2.erase {c : Cf} {s : St} (h : Ok2 c s) (k : Nat) (d : List (List Chg)) (u : Int) : Ok2 c ⟨d, s.opn.eraseIdx k, u⟩ := by
  have sb : (s.opn.eraseIdx k).Sublist s.opn := List.eraseIdx_sublist ..
  exact ⟨fun t ht t' ht' => h.exc t (sb.subset ht) t' (sb.subset ht'), fun t ht => h.on t (sb.subset ht)⟩
theorem busy_not {l : List Tn} {id p : Int} (h : busy l id p = false) : ∀ x ∈ l, x.id ≠ id → p ∉ x.pages := by
  intro x hx hne hp
  have := List.any_eq_false.1 h x hx
  simp [hne, hp] at this
theorem mem_held {t : Tn} {p q : Int} : q ∈ (heldT t p).pages ↔ q ∈ t.pages ∨ q = p := by
  unfold heldT
  split
  · rename_i h
    have : p ∈ t.pages := by simpa using h
    exact ⟨.inl, fun r => r.elim id (fun e => by rw [e]; exact this)⟩
  · simp
theorem Ok2.hold {c : Cf} {s : St} (h : Ok2 c s) (ok : OkS c s) {k : Nat} {t : Tn} (hk : s.opn[k]? = some t) {p : Int} (hb : busy s.opn t.id p = false) (u : Int) : Ok2 c ⟨s.done, s.opn.set k (heldT t p), u⟩ := by
  refine h.set ok hk (heldT_id t p).1 (fun q hq => ?_) (fun x hx => ?_) _ _
  · rcases mem_held.1 hq with r | r
    · exact .inl r
    · subst r; exact .inr (busy_not hb)
  · rw [(heldT_id t p).2.2.1] at hx
    exact mem_held.2 (.inl (h.on t (List.mem_of_getElem? hk) x hx))
theorem Ok2.chg {c : Cf} {s : St} (h : Ok2 c s) (ok : OkS c s) {k : Nat} {t : Tn} (hk : s.opn[k]? = some t) {x : Chg} (n : Int) (hb : busy s.opn t.id (x.key % c.pages) = false) (u : Int) : Ok2 c ⟨s.done, s.opn.set k (heldT ⟨t.id, t.pages, t.chs ++ [x], t.lens ++ [n]⟩ (x.key % c.pages)), u⟩ := by
  refine h.set (t' := heldT ⟨t.id, t.pages, t.chs ++ [x], t.lens ++ [n]⟩ (x.key % c.pages)) ok hk (heldT_id ⟨t.id, t.pages, t.chs ++ [x], t.lens ++ [n]⟩ _).1 (fun q hq => ?_) (fun y hy => ?_) _ _
  · rcases mem_held.1 hq with r | r
    · exact .inl r
    · subst r; exact .inr (busy_not hb)
  · rw [(heldT_id _ _).2.2.1] at hy
    refine mem_held.2 ?_
    rcases List.mem_append.1 hy with r | r
    · exact .inl (h.on t (List.mem_of_getElem? hk) y r)
    · simp at r; subst r; exact .inr rfl
/-! the pages' entries -/
theorem pgT_new {c : Cf} {s : St} {t : Tn} {p : Int} (ho : ∀ x ∈ t.chs, x.key % c.pages ∈ t.pages) (hp : p ∉ t.pages) : pgT c s t p = pgD c s p :=
  onP_fold (foldL_rise _) (fun x hx e => hp (by rw [← e]; exact ho x hx))
theorem foldL_snoc (d : List (List Chg)) (l : List Chg) : foldL (d ++ [l]) = foldE (foldL d) l := by unfold foldL; rw [List.foldl_append]; rfl
theorem pgD_commit {c : Cf} {s : St} {t : Tn} {p : Int} {l : List Tn} {u : Int} : pgD c ⟨s.done ++ [t.chs], l, u⟩ p = pgT c s t p := by
  unfold pgD pgT
  rw [foldL_snoc]
theorem pgT_commit {c : Cf} {s : St} (h : Ok2 c s) {t t' : Tn} (ht : t ∈ s.opn) (ht' : t' ∈ s.opn) (hne : t.id ≠ t'.id) {p : Int} (hp : p ∈ t'.pages) {l : List Tn} {u : Int} : pgT c ⟨s.done ++ [t.chs], l, u⟩ t' p = pgT c s t' p := by
  unfold pgT
  rw [foldL_snoc]
  refine onP_alike (foldE_rise _ (foldL_rise _)) (foldL_rise _) ?_
  exact onP_fold (foldL_rise _) (fun x hx e => h.exc t ht t' ht' hne p (by rw [← e]; exact h.on t ht x hx) hp)
theorem pgT_chg {c : Cf} {s : St} {t : Tn} {x : Chg} {p n : Int} : pgT c s ⟨t.id, t.pages, t.chs ++ [x], t.lens ++ [n]⟩ p = if x.key % c.pages = p then layE x x.gone (pgT c s t p) else pgT c s t p := by
  unfold pgT
  rw [foldE_snoc, onP_lay (foldE_rise _ (foldL_rise _))]
theorem pgT_held (c : Cf) (s : St) (t : Tn) (p q : Int) : pgT c s (heldT t q) p = pgT c s t p := by unfold pgT; rw [(heldT_id t q).2.2.1]
theorem look_pgT {c : Cf} {s : St} {t : Tn} {k : Int} : pairO (lookE (pgT c s t (k % c.pages)) k) = seesT s t k := by
  rw [seesT_look, pgT, look_onP (foldE_rise _ (foldL_rise _)) rfl]
/-! a change that changes nothing -/
theorem lengthL_pos {a b : List Int} (ha : a.length = 16) (hb : b.length = 16) (e : a ≠ b) : 0 < lengthL a b := by
  obtain ⟨f, hf1, hf2, hf3⟩ : ∃ f, f < 16 ∧ (∀ i, i < f → a[i]? = b[i]?) ∧ a[f]? ≠ b[f]? := by
    have : ∃ i, i < 16 ∧ a[i]? ≠ b[i]? := Classical.byContradiction fun q => e (same16 ha hb fun i hi => Classical.byContradiction fun r => q ⟨i, hi, r⟩)
    obtain ⟨i, hi, hne⟩ := this
    induction i using Nat.strongRecOn with
    | ind i ih =>
      by_cases q : ∃ j, j < i ∧ a[j]? ≠ b[j]?
      · obtain ⟨j, hj, hjn⟩ := q; exact ih j hj (by omega) hjn
      · exact ⟨i, hi, fun j hj => Classical.byContradiction fun r => q ⟨j, hj, r⟩, hne⟩
  have e1 : alikeN a b = f := by
    have ha' : a[f]? = some a[f] := List.getElem?_eq_getElem (by omega)
    have hb' : b[f]? = some b[f] := List.getElem?_eq_getElem (by omega)
    exact alikeN_at hf2 ha' hb' (fun q => hf3 (by rw [ha', hb', q]))
  have e2 : alikeN a.reverse b.reverse ≤ 15 - f := by
    have hr : ∀ {n : Nat}, (∀ i, i < n → a.reverse[i]? = b.reverse[i]?) → n ≤ 16 → n ≤ 15 - f := fun {n} q hn => by
      refine Classical.byContradiction fun r => hf3 ?_
      have := q (15 - f) (by omega)
      rw [List.getElem?_reverse (by omega), List.getElem?_reverse (by omega), ha, hb, show 16 - 1 - (15 - f) = f by omega] at this
      exact this
    exact hr (n := alikeN a.reverse b.reverse) (fun i hi => alikeN_eq _ _ i hi) (by have := alikeN_len a.reverse b.reverse; simp [ha] at this; exact this)
  unfold lengthL
  rw [if_neg e, e1]
  omega
theorem digits_len : ∀ (i : Nat) (v : Int), (digits i v).length = i
  | 0, _ => rfl
  | i + 1, v => by simp [digits, digits_len i]
theorem slotL_len (key v : Int) (th : Bool) : (slotL key v th).length = 16 := by unfold slotL; split <;> simp [digits_len, zeros]
theorem digits_inj : ∀ (n : Nat) {a b : Int}, 0 ≤ a → a < 256 ^ n → 0 ≤ b → b < 256 ^ n → digits n a = digits n b → a = b
  | 0, a, b, h1, h2, h3, h4, _ => by simp at h2 h4; omega
  | n + 1, a, b, h1, h2, h3, h4, h => by
    rw [digits, digits, List.cons.injEq] at h
    have e : (256 : Int) ^ (n + 1) = 256 ^ n * 256 := by rw [Int.pow_succ]
    rw [e] at h2 h4
    have := digits_inj n (a := a / 256) (b := b / 256) (by omega) (by omega) (by omega) (by omega) h.2
    omega
theorem slotL_inj {key v v' : Int} {th th' : Bool} (hv : 0 ≤ v ∧ v < 18446744073709551616) (hv' : 0 ≤ v' ∧ v' < 18446744073709551616) (h : slotL key v th = slotL key v' th') : th = th' ∧ (th = true → v = v') := by
  cases th <;> cases th'
  · exact ⟨rfl, by simp⟩
  · simp [slotL, zeros, List.replicate_succ] at h
  · simp [slotL, zeros, List.replicate_succ] at h
  · refine ⟨rfl, fun _ => ?_⟩
    unfold slotL at h
    rw [if_pos rfl, if_pos rfl] at h
    have h2 := List.append_cancel_left h
    exact digits_inj 8 hv.1 (by have := hv.2; omega) hv'.1 (by have := hv'.2; omega) h2
theorem lay_same {c : Cf} {s : St} {t : Tn} {x : Chg} (hx : okC c x) (hs : 0 ≤ (seesT s t x.key).1 ∧ (seesT s t x.key).1 < 18446744073709551616) (h : ¬ 0 < lenC s t x) : layE x x.gone (pgT c s t (x.key % c.pages)) = pgT c s t (x.key % c.pages) := by
  have hr := pgT_rise c s t (x.key % c.pages)
  have he : slotL x.key (seesT s t x.key).1 (seesT s t x.key).2 = slotL x.key x.val (!x.gone) := Classical.byContradiction fun q => h (lengthL_pos (slotL_len _ _ _) (slotL_len _ _ _) q)
  obtain ⟨h1, h2⟩ := slotL_inj hs hx.2 he
  have hl := look_pgT (c := c) (s := s) (t := t) (k := x.key)
  refine Rise.ext (lay_mem x hr).2 hr fun e => ?_
  rw [(lay_mem x hr).1]
  cases hg : x.gone with
  | true =>
    rw [hg] at h1
    rw [← hl] at h1
    have hn : lookE (pgT c s t (x.key % c.pages)) x.key = none := by
      cases q : lookE (pgT c s t (x.key % c.pages)) x.key with
      | none => rfl
      | some v => rw [q] at h1; simp [pairO] at h1
    have := lookE_none.1 hn e
    constructor
    · rintro (⟨h, -⟩ | h)
      · cases h
      · exact h.1
    · intro h; exact .inr ⟨h, this h⟩
  | false =>
    rw [hg] at h1
    have h3 := h2 (by rw [h1]; rfl)
    rw [← hl] at h1 h3
    have hn : lookE (pgT c s t (x.key % c.pages)) x.key = some x.val := by
      cases q : lookE (pgT c s t (x.key % c.pages)) x.key with
      | none => rw [q] at h1; simp [pairO] at h1
      | some v => rw [q] at h3; simp [pairO] at h3; rw [h3]
    have hm := (lookE_some hr).1 hn
    constructor
    · rintro (⟨-, rfl⟩ | h)
      · exact hm
      · exact h.1
    · intro h
      by_cases q : e.1 = x.key
      · exact .inl ⟨rfl, hr.eq h hm q⟩
      · exact .inr ⟨h, q⟩
end Go.Proofs.YtnjfahgmebmakaaGreatDoor

/-
  OWN WORK. The law PlainApart (layer 18) in plain words: two are open; the first one changes keys, the other sees none of it.
-/
namespace Go.Proofs.YtnjfahgmebmakaaGreatDoor
set_option linter.unusedVariables false
def twoS (D : List (List Chg)) (ps : List Int) (chs : List Chg) (lens : List Int) (u : Int) : St := ⟨D, [⟨1, ps, chs, lens⟩, ⟨2, [], [], []⟩], u⟩
/-- behind k rounds: the first one has changed what is told -/
structure Av (d : Cf) (D : List (List Chg)) (k : Nat) (did : List Chg) (ps lens : List Int) (u : Int) : Prop where
  ok : OkS d (twoS D ps did lens u)
  log : d.log = 65536
  len : lens.length ≤ k
  use : u ≤ 68 + 70 * (k : Int)
section
variable {d : Cf} {D : List (List Chg)} {k : Nat} {did : List Chg} {ps lens : List Int} {u : Int}
theorem Av.one (h : Av d D k did ps lens u) : OkTn d ⟨1, ps, did, lens⟩ := h.ok.tns _ (List.mem_cons_self ..)
theorem Av.few (h : Av d D k did ps lens u) : did.length ≤ k := by have e : did.length = lens.length := h.one.cln; have := h.len; omega
theorem Av.mono (h : Av d D k did ps lens u) : Av d D (k + 1) did ps lens u := ⟨h.ok, h.log, by have := h.len; omega, by have := h.use; omega⟩
theorem two_cnt : cnt (twoS D ps did lens u) = D.length + D.flatten.length + did.length := by simp [cnt, twoS, chsN]
theorem find1 : findO (twoS D ps did lens u).opn 1 = some ⟨1, ps, did, lens⟩ := by simp [findO, twoS]
theorem find2 : findO (twoS D ps did lens u).opn 2 = some ⟨2, [], [], []⟩ := by simp [findO, twoS]
theorem two_sees (key : Int) : seesT (twoS D ps did lens u) ⟨1, ps, did, lens⟩ key = valueL did key (seesD D key) := rfl
def seeA (D : List (List Chg)) (did : List Chg) (key : Int) : Int × Bool := valueL did key (seesD D key)
theorem Av.uv (h : Av d D k did ps lens u) (key : Int) : u64 (seeA D did key).1 := sees_u64 h.ok (t := ⟨1, ps, did, lens⟩) (List.mem_cons_self ..) key
def pgs (ps : List Int) (p : Int) : List Int := if ps.contains p = true then ps else ps ++ [p]
theorem pgs_in (ps : List Int) (p : Int) : (pgs ps p).contains p = true := by
  unfold pgs
  split
  · assumption
  · simp
theorem held1 (p : Int) : heldT ⟨1, ps, did, lens⟩ p = ⟨1, pgs ps p, did, lens⟩ := by
  unfold heldT pgs
  split <;> rfl
theorem Av.ask1 (h : Av d D k did ps lens u) {key : Int} (hk : 0 ≤ key ∧ key < d.keys) : askE d (twoS D ps did lens u) 1 key = 0 := by
  unfold askE
  rw [find1, if_neg (by simp), if_neg (by omega), if_neg (by simp [busy, twoS])]
/-- the first one asks -/
theorem Av.get1 (h : Av d D k did ps lens u) {key : Int} (hk : 0 ≤ key ∧ key < d.keys) : getA d (twoS D ps did lens u) 1 key = ((seeA D did key).1, (seeA D did key).2, 0) ∧ getS d (twoS D ps did lens u) 1 key = twoS D (pgs ps (key % d.pages)) did lens u ∧ Av d D k did (pgs ps (key % d.pages)) lens u := by
  obtain ⟨e1, e2⟩ := get_yes h.ok (h.ask1 hk) (k := 0) rfl find1
  have e3 : getS d (twoS D ps did lens u) 1 key = twoS D (pgs ps (key % d.pages)) did lens u := by rw [e2, held1]; rfl
  refine ⟨e1, e3, ⟨?_, h.log, h.len, h.use⟩⟩
  have q := h.ok.hold (k := 0) (t := ⟨1, ps, did, lens⟩) rfl (ask_page h.ok (h.ask1 hk)).2
  rw [held1] at q
  exact q
theorem Av.get1' (h : Av d D k did ps lens u) {key v0 : Int} {th : Bool} (hk : 0 ≤ key ∧ key < d.keys) (hs : (v0, th) = seeA D did key) : ∃ ps1, getA d (twoS D ps did lens u) 1 key = (v0, th, 0) ∧ getS d (twoS D ps did lens u) 1 key = twoS D ps1 did lens u ∧ Av d D k did ps1 lens u ∧ ps1.contains (key % d.pages) = true := by
  obtain ⟨e1, e2, e3⟩ := h.get1 hk
  rw [← hs] at e1
  exact ⟨_, e1, e2, e3, pgs_in _ _⟩
/-- the other one asks -/
theorem Av.get2 (h : Av d D k did ps lens u) {key : Int} (hk : 0 ≤ key ∧ key < d.keys) (hp : ps.contains (key % d.pages) = true) : getA d (twoS D ps did lens u) 2 key = (0, false, 150) ∧ getS d (twoS D ps did lens u) 2 key = twoS D ps did lens u := by
  have e : askE d (twoS D ps did lens u) 2 key = 150 := by
    unfold askE
    rw [find2, if_neg (by simp), if_neg (by omega), if_pos (by unfold busy twoS; simp only [List.any_cons, hp]; rfl)]
  have q := get_no (c := d) (s := twoS D ps did lens u) (id := 2) (key := key) (by rw [e]; decide)
  rw [e] at q
  exact q
/-- the first one puts -/
theorem Av.put (h : Av d D k did ps lens u) (hk40 : k < 40) {key v : Int} (hk : 0 ≤ key ∧ key < d.keys) (hp : ps.contains (key % d.pages) = true) (hv : u64 v) (hne : v ≠ (seeA D did key).1) :
    (putE d (twoS D ps did lens u) 1 key v = 42 ∧ (seeA D did key).2 = false ∧ putS d (twoS D ps did lens u) 1 key v = twoS D ps did lens u) ∨ (putE d (twoS D ps did lens u) 1 key v = 0 ∧ ∃ lens' u', putS d (twoS D ps did lens u) 1 key v = twoS D ps (did ++ [⟨key, v, false⟩]) lens' u' ∧ Av d D (k + 1) (did ++ [⟨key, v, false⟩]) ps lens' u') := by
  have ha := h.ask1 hk
  cases hb : full d (twoS D ps did lens u) ⟨1, ps, did, lens⟩ key with
  | true =>
    obtain ⟨e1, e2⟩ := put_full (v := v) ha find1 hb
    refine .inl ⟨e1, ?_, e2⟩
    unfold full at hb
    have := (Bool.and_eq_true_iff.1 hb).1
    rw [two_sees] at this
    unfold seeA
    simpa using this
  | false =>
    obtain ⟨e1, e2⟩ := put_chg (v := v) ha find1 hb
    obtain ⟨n, hn⟩ : ∃ n, n = lenC (twoS D ps did lens u) ⟨1, ps, did, lens⟩ ⟨key, v, false⟩ := ⟨_, rfl⟩
    have hpos : 0 < n := by
      rw [hn]
      refine lengthL_pos (slotL_len _ _ _) (slotL_len _ _ _) (fun q => ?_)
      dsimp only at q
      rw [two_sees] at q
      obtain ⟨q1, q2⟩ := slotL_inj (h.uv key) hv q
      exact hne (q2 q1).symm
    have hle : n ≤ 16 := by rw [hn]; exact lenC_le _ _ _
    have hs : sumL lens ≤ 62 * (lens.length : Int) := by
      have := h.one.lens
      dsimp only at this
      clear hn hpos hle h ha hb e1 e2
      induction lens with
      | nil => simp [sumL]
      | cons m r ih => have q1 := this m (by simp); have q2 := ih (fun x hx => this x (by simp [hx])); simp only [sumL, List.length_cons]; omega
    have hf : fitsS d (twoS D ps did lens u) (38 + 2 * n) (46 + n) = true := by
      rw [fits_iff]
      have := h.use; have := h.len; have := h.log
      simp only [twoS, keptO, Tn.kept, sumL]
      omega
    obtain ⟨f1, f2⟩ := chg_fit (page := key % d.pages) h.ok (k := 0) rfl hn hpos hf
    refine .inr ⟨by rw [e1, f1], lens ++ [n], u + 38 + 2 * n, ?_, ?_⟩
    · rw [e2, f2]
      unfold heldT
      rw [if_pos hp]
      rfl
    · have ok := h.ok.chg (k := 0) (t := ⟨1, ps, did, lens⟩) rfl (x := ⟨key, v, false⟩) ⟨hk, hv⟩ (ask_page h.ok ha).2 ⟨by omega, hle⟩ hf
      unfold heldT at ok
      rw [if_pos hp] at ok
      exact ⟨ok, h.log, by have := h.len; simp; omega, by have := h.use; omega⟩
/-- .. and asks again -/
theorem see_put (D : List (List Chg)) (did : List Chg) (key v : Int) : seeA D (did ++ [⟨key, v, false⟩]) key = (v, true) := by
  unfold seeA valueL
  rw [List.foldl_append]
  simp [stepV, shutV]
theorem Av.get3 {v key : Int} (h : Av d D k (did ++ [⟨key, v, false⟩]) ps lens u) (hk : 0 ≤ key ∧ key < d.keys) (hp : ps.contains (key % d.pages) = true) : getA d (twoS D ps (did ++ [⟨key, v, false⟩]) lens u) 1 key = (v, true, 0) ∧ getS d (twoS D ps (did ++ [⟨key, v, false⟩]) lens u) 1 key = twoS D ps (did ++ [⟨key, v, false⟩]) lens u := by
  obtain ⟨e1, e2, -⟩ := h.get1 hk
  rw [see_put] at e1
  refine ⟨e1, ?_⟩
  rw [e2]
  unfold pgs
  rw [if_pos hp]
/-- what is told of the first one's is right -/
theorem Av.okD (h : Av d D k did ps lens u) : ∀ x ∈ did, okC d x := h.one.chs
end
/-! the two begin -/
theorem av_begin {d : Cf} {D : List (List Chg)} (ok : OkS d ⟨D, [], 0⟩) (ht : d.table = 8) (hl : d.log = 65536) : begE d ⟨D, [], 0⟩ 1 = 0 ∧ begS d ⟨D, [], 0⟩ 1 = ⟨D, [⟨1, [], [], []⟩], 34⟩ ∧ begE d ⟨D, [⟨1, [], [], []⟩], 34⟩ 2 = 0 ∧ begS d ⟨D, [⟨1, [], [], []⟩], 34⟩ 2 = twoS D [] [] [] 68 ∧ Av d D 0 [] [] [] 68 := by
  have e1 : begE d ⟨D, [], 0⟩ 1 = 0 := by
    unfold begE
    rw [if_neg (by simp [isId, findO]), if_neg (by simp; omega), if_pos (by rw [fits_iff]; simp [keptO]; omega)]
  have e2 : begS d ⟨D, [], 0⟩ 1 = ⟨D, [⟨1, [], [], []⟩], 34⟩ := by unfold begS; rw [if_pos e1]; rfl
  have e3 : begE d ⟨D, [⟨1, [], [], []⟩], 34⟩ 2 = 0 := by
    unfold begE
    rw [if_neg (by simp [isId, findO]), if_neg (by simp; omega), if_pos (by rw [fits_iff]; simp [keptO, Tn.kept, sumL]; omega)]
  have e4 : begS d ⟨D, [⟨1, [], [], []⟩], 34⟩ 2 = twoS D [] [] [] 68 := by unfold begS; rw [if_pos e3]; rfl
  refine ⟨e1, e2, e3, e4, ⟨?_, hl, by simp, by simp⟩⟩
  have q := (ok.beg 1).beg 2
  rw [e2, e4] at q
  exact q
/-! the first one ends -/
def oneS (D : List (List Chg)) (ps : List Int) (u : Int) : St := ⟨D, [⟨2, ps, [], []⟩], u⟩
section
variable {d : Cf} {D : List (List Chg)} {k : Nat} {did : List Chg} {ps lens : List Int} {u : Int}
theorem Av.commit (h : Av d D k did ps lens u) : endE (twoS D ps did lens u) 1 = 0 ∧ ∃ u', comS (twoS D ps did lens u) 1 = oneS (D ++ [did]) [] u' ∧ OkS d (oneS (D ++ [did]) [] u') := by
  obtain ⟨e1, -, e2⟩ := abo_some h.ok (k := 0) rfl find1
  exact ⟨e1, _, e2, h.ok.commit (k := 0) rfl⟩
theorem Av.abort (h : Av d D k did ps lens u) : endE (twoS D ps did lens u) 1 = 0 ∧ ∃ u', aboS (twoS D ps did lens u) 1 = oneS D [] u' ∧ OkS d (oneS D [] u') := by
  obtain ⟨e1, e2, -⟩ := abo_some h.ok (k := 0) rfl find1
  exact ⟨e1, _, e2, h.ok.undo (k := 0) rfl⟩
theorem one_cnt : cnt (oneS D ps u) = D.length + D.flatten.length := by simp [cnt, oneS, chsN]
theorem find2' : findO (oneS D ps u).opn 2 = some ⟨2, ps, [], []⟩ := by simp [findO, oneS]
theorem one_get (h : OkS d (oneS D ps u)) {key : Int} (hk : 0 ≤ key ∧ key < d.keys) : getA d (oneS D ps u) 2 key = ((seesD D key).1, (seesD D key).2, 0) ∧ ∃ ps', getS d (oneS D ps u) 2 key = oneS D ps' u ∧ OkS d (oneS D ps' u) := by
  have ha : askE d (oneS D ps u) 2 key = 0 := by
    unfold askE
    rw [find2', if_neg (by simp), if_neg (by omega), if_neg (by simp [busy, oneS])]
  obtain ⟨e1, e2⟩ := get_yes h ha (k := 0) rfl find2'
  have e3 : seesT (oneS D ps u) ⟨2, ps, [], []⟩ key = seesD D key := by
    rw [seesT_look, seesD_look]; rfl
  rw [e3] at e1
  have e4 : ∃ ps', heldT ⟨2, ps, [], []⟩ (key % d.pages) = ⟨2, ps', [], []⟩ := by unfold heldT; split <;> exact ⟨_, rfl⟩
  obtain ⟨ps', e5⟩ := e4
  have q := h.hold (k := 0) (t := ⟨2, ps, [], []⟩) rfl (ask_page h ha).2
  rw [e5] at q e2
  exact ⟨e1, ps', e2, q⟩
theorem one_commit (h : OkS d (oneS D ps u)) : endE (oneS D ps u) 2 = 0 ∧ ∃ u', comS (oneS D ps u) 2 = ⟨D ++ [[]], [], u'⟩ := by
  obtain ⟨e1, -, e2⟩ := abo_some h (k := 0) rfl find2'
  exact ⟨e1, _, e2⟩
end
/-! all are aborted, the log is begun anew -/
theorem ren_abos {c : Cf} {S : St} (h : OkS c S) : renS (abosS S (idsS S)) = ⟨S.done, [], 0⟩ := by unfold renS; rw [if_pos (abos_all h), abos_all h, abos_done]
theorem none_cnt (D : List (List Chg)) (u : Int) : cnt ⟨D, [], u⟩ = D.length + D.flatten.length := by simp [cnt, chsN]
/-! what is there -/
def hasE (l : List (Int × Int)) (k v : Int) : Bool := match lookE l k with
  | none => false
  | some x => x == v
theorem has_sees (D : List (List Chg)) (key : Int) : (seesD D key).2 = hasE (foldL D) key (seesD D key).1 := by
  rw [seesD_look]
  unfold hasE
  cases lookE (foldL D) key with
  | none => rfl
  | some x => simp [pairO]
def asC (e : Int × Int) : Chg := ⟨e.1, e.2, false⟩
theorem lay_last {x : Chg} {o : List (Int × Int)} (hg : x.gone = false) (h : Rise (o ++ [(x.key, x.val)])) : layE x x.gone o = o ++ [(x.key, x.val)] := by
  have ho : Rise o := (List.pairwise_append.1 h).1
  obtain ⟨h1, h2⟩ := lay_mem x ho
  refine h2.ext h (fun e => ?_)
  rw [h1, List.mem_append, List.mem_singleton]
  constructor
  · rintro (⟨-, q⟩ | ⟨q, -⟩)
    · exact .inr q
    · exact .inl q
  · rintro (q | q)
    · refine .inr ⟨q, ?_⟩
      have := (List.pairwise_append.1 h).2.2 e q (x.key, x.val) (by simp)
      dsimp only at this
      omega
    · exact .inl ⟨hg, q⟩
theorem fold_asC : ∀ (l : List (Int × Int)) {o : List (Int × Int)}, Rise (o ++ l) → foldE o (l.map asC) = o ++ l
  | [], o, h => by simp [foldE]
  | e :: l, o, h => by
    have e1 : o ++ e :: l = (o ++ [e]) ++ l := by simp
    rw [e1] at h ⊢
    have h1 : Rise (o ++ [e]) := (List.pairwise_append.1 h).1
    have q := lay_last (x := asC e) (o := o) rfl h1
    show foldE (layE (asC e) (asC e).gone o) (l.map asC) = _
    rw [q]
    exact fold_asC l h
/-- what the law folds -/
theorem fold_after (D : List (List Chg)) (did : List Chg) : foldL [(foldL D).map asC, did] = foldL (D ++ [did]) := by
  rw [foldL_snoc]
  show foldE (foldE [] ((foldL D).map asC)) did = _
  rw [fold_asC (foldL D) (o := []) (foldL_rise D)]
  rfl
theorem fold_none (D : List (List Chg)) : foldL (D ++ [[]]) = foldL D := by rw [foldL_snoc]; rfl
theorem foldL_flat (D : List (List Chg)) : (foldL D).length ≤ D.flatten.length := by have := foldL_len D []; unfold foldL; simpa using this
/-- an entry is a change that there was -/
theorem fold_of (l : List Chg) : ∀ {o : List (Int × Int)}, Rise o → ∀ e ∈ foldE o l, e ∈ o ∨ ∃ x ∈ l, e = (x.key, x.val) := by
  induction l with
  | nil => exact fun _ e he => .inl he
  | cons x r ih =>
    intro o ho e he
    obtain ⟨h1, h2⟩ := lay_mem x ho
    rcases ih h2 e he with q | ⟨y, hy, q⟩
    · rcases (h1 e).1 q with ⟨-, q⟩ | ⟨q, -⟩
      · exact .inr ⟨x, by simp, q⟩
      · exact .inl q
    · exact .inr ⟨y, by simp [hy], q⟩
theorem foldL_ok {d : Cf} {D : List (List Chg)} (h : ∀ l ∈ D, ∀ x ∈ l, okC d x) : ∀ x ∈ (foldL D).map asC, okC d x := by
  intro x hx
  obtain ⟨e, he, rfl⟩ := List.mem_map.1 hx
  rw [foldL_eq] at he
  rcases fold_of _ .nil e he with q | ⟨y, hy, rfl⟩
  · simp at q
  · obtain ⟨l, hl, hy⟩ := List.mem_flatten.1 hy
    exact h l hl y hy
end Go.Proofs.YtnjfahgmebmakaaGreatDoor

