import Derived.Deep.RegionHeld3
import Derived.Test.YtnjfahgmebmakaaGreatDoorC12
/-
  OWN WORK. The landed plain (layer 18): how its State lies behind a commit.
-/
namespace Go.Proofs.YtnjfahgmebmakaaGreatDoor
open Go.RowKit Go.Maps
set_option linter.unusedVariables false
set_option linter.unusedSimpArgs false
/-- what stands for the parts behind a commit of t -/
def comV (V : Tag → Value) (t : Tn) (len : Nat) (vd : Value) : Tag → Value
  | .vd => vd
  | .pg p => if p ∈ t.pages then V (.ow t.id p) else V (.pg p)
  | .dn j => if j = len then V (.ch t.id) else V (.dn j)
  | .tx i => if i = t.id then .bool false else V (.tx i)
  | .hd i => if i = t.id then .bool false else V (.hd i)
  | .ch i => if i = t.id then .bool false else V (.ch i)
  | .ow i p => if i = t.id then .bool false else V (.ow i p)
  | a => V a
def comI (t : Tn) (len : Nat) : Tag → Tag
  | .ow i p => if i = t.id then .pg p else .ow i p
  | .ch i => if i = t.id then .dn len else .ch i
  | a => a
theorem comV_from (V : Tag → Value) (t : Tn) (len : Nat) (vd : Value) {a : Tag} {x : Nat} (h : blkOf (comV V t len vd a) = some x) (ha : a ≠ .vd) : ∃ a', blkOf (V a') = some x ∧ comI t len a' = a ∧ a' ≠ .vd := by
  cases a with
  | vd => exact absurd rfl ha
  | g => exact ⟨.g, h, rfl, by simp⟩
  | bp => exact ⟨.bp, h, rfl, by simp⟩
  | bo => exact ⟨.bo, h, rfl, by simp⟩
  | pg p =>
    unfold comV at h
    dsimp only at h
    split at h
    · exact ⟨.ow t.id p, h, by simp [comI], by simp⟩
    · exact ⟨.pg p, h, rfl, by simp⟩
  | dn j =>
    unfold comV at h
    dsimp only at h
    split at h
    · rename_i e; exact ⟨.ch t.id, h, by simp [comI, e], by simp⟩
    · exact ⟨.dn j, h, rfl, by simp⟩
  | tx i =>
    unfold comV at h
    dsimp only at h
    split at h
    · cases h
    · exact ⟨.tx i, h, rfl, by simp⟩
  | hd i =>
    unfold comV at h
    dsimp only at h
    split at h
    · cases h
    · exact ⟨.hd i, h, rfl, by simp⟩
  | ch i =>
    unfold comV at h
    dsimp only at h
    split at h
    · cases h
    · rename_i e; exact ⟨.ch i, h, by simp [comI, e], by simp⟩
  | ow i p =>
    unfold comV at h
    dsimp only at h
    split at h
    · cases h
    · rename_i e; exact ⟨.ow i p, h, by simp [comI, e], by simp⟩
theorem comV_inj {N N' : Nat} {V : Tag → Value} (h : Inj N V) (t : Tn) (len : Nat) {vd : Value} (hN : N ≤ N') (hv : ∀ x, blkOf vd = some x → (N ≤ x ∧ x < N') ∨ blkOf (V .vd) = some x) : Inj N' (comV V t len vd) := by
  have apart : ∀ a x, a ≠ .vd → blkOf (comV V t len vd a) = some x → blkOf vd ≠ some x := fun a x ha hx q => by
    obtain ⟨a', h1, -, h3⟩ := comV_from V t len vd hx ha
    rcases hv x q with r | r
    · have := h.lt _ _ h1; omega
    · exact h3 (h.inj _ _ _ h1 r)
  refine ⟨fun a b x ha hb => ?_, fun a x ha => ?_⟩
  · by_cases e1 : a = .vd
    · by_cases e2 : b = .vd
      · rw [e1, e2]
      · rw [e1] at ha
        exact absurd ha (apart b x e2 hb)
    · by_cases e2 : b = .vd
      · rw [e2] at hb
        exact absurd hb (apart a x e1 ha)
      · obtain ⟨a', h1, h2, -⟩ := comV_from V t len vd ha e1
        obtain ⟨b', h3, h4, -⟩ := comV_from V t len vd hb e2
        rw [← h2, ← h4, h.inj _ _ _ h1 h3]
  · by_cases e1 : a = .vd
    · rw [e1] at ha
      rcases hv x ha with r | r
      · exact r.2
      · have := h.lt _ _ r; omega
    · obtain ⟨a', h1, -, -⟩ := comV_from V t len vd ha e1
      have := h.lt _ _ h1; omega
theorem PpP.com {w w' : World} {V : Tag → Value} {g : Nat} {c : Cf} {S : St} (h : PpP w V g c S) {k : Nat} {t : Tn} (hk : S.opn[k]? = some t) {bo n : Nat} {D : DataW Unit} {vd : Value} {X : List Nat} (hbo : V .bo = .map (some bo)) (kk : Kept X w w') (hX : ∀ y ∈ X, w.heap.size ≤ y ∨ blkOf (V .g) = some y ∨ blkOf (V .bo) = some y ∨ blkOf (V .bp) = some y ∨ blkOf (V .vd) = some y)
    (hpgs : Row w' 0 1 (V .bp) c.pages.toNat ((List.range c.pages.toNat).map fun i : Nat => if (i : Int) ∈ t.pages then V (.ow t.id (i : Int)) else V (.pg (i : Int)))) (hdn : Row w' 0 1 vd (S.done.length + 1) ((List.range S.done.length).map (fun j => V (.dn j)) ++ [V (.ch t.id)])) (hvd : blkOf vd = blkOf (V .vd) ∨ ∃ z, blkOf vd = some z ∧ w.heap.size ≤ z ∧ z < w'.heap.size)
    (hb : Blk w' g 80 [.int .i64 c.pages, .int .i64 c.slots, .int .i64 c.log, .int .i64 c.frames, .int .i64 c.table, .int .i64 c.keys, V .bp, V .bo, .int .i64 (S.used + 66), vd]) (hT : Tel D (.int .i64 0) (fO V S.opn)) (ho : w'.ownsMap Tryz.prog 3 ptrElem bo n (D.del (.int .i64 t.id))) :
    ∃ V', PpP w' V' g c ⟨S.done ++ [t.chs], S.opn.eraseIdx k, S.used + 66⟩ ∧ Nx w w' V V' := by
  have hm := List.mem_of_getElem? hk
  have hT1 := h.txs t hm
  have out : ∀ a y, a ≠ .g → a ≠ .bo → a ≠ .bp → a ≠ .vd → blkOf (V a) = some y → y ∉ X := fun a y a1 a2 a3 a4 hy hy' => by
    rcases hX y hy' with q | q | q | q | q
    · have := h.inj.lt _ _ hy; omega
    · exact a1 (h.inj.inj _ _ _ hy q)
    · exact a2 (h.inj.inj _ _ _ hy q)
    · exact a3 (h.inj.inj _ _ _ hy q)
    · exact a4 (h.inj.inj _ _ _ hy q)
  have hvd' : ∀ x, blkOf vd = some x → (w.heap.size ≤ x ∧ x < w'.heap.size) ∨ blkOf (V .vd) = some x := fun x hx => by
    rcases hvd with q | ⟨z, q1, q2⟩
    · exact .inr (by rw [← q]; exact hx)
    · rw [q1] at hx; cases hx; exact .inl q2
  have hok := h.ok.commit hk
  have hst : ∀ a, ofT t.id a = false → a ≠ .vd → (∀ p, a ≠ .pg p) → (∀ j, a ≠ .dn j) → comV V t S.done.length vd a = V a := fun a h1 h2 h3 h4 => by
    cases a <;> simp [ofT, comV] at * <;> simp_all
  refine ⟨comV V t S.done.length vd, ⟨h.vg, hb, hpgs, fun p p0 p1 => ?_, ⟨bo, hbo, Mp.of ho ((hT.del t.id).congr fun j => ?_) ?_⟩, fun x hx => ?_, ?_, fun j l hj => ?_, comV_inj h.inj t _ kk.size hvd', hok, h.ok2.erase k _ _⟩, fun a y ha => ?_, X.filter (fun z => decide (z < w.heap.size)), ?_, fun z hz => ?_⟩
  · show ∃ b, (if p ∈ t.pages then V (.ow t.id p) else V (.pg p)) = .map (some b) ∧ Vm w' b (pgD c ⟨S.done ++ [t.chs], S.opn.eraseIdx k, S.used + 66⟩ p)
    rw [pgD_commit]
    by_cases q : p ∈ t.pages
    · obtain ⟨o, e, ho'⟩ := hT1.own p q
      exact ⟨o, by rw [if_pos q]; exact e, ho'.kept kk (out (.ow t.id p) o (by simp) (by simp) (by simp) (by simp) (by rw [e]; rfl))⟩
    · obtain ⟨b, e, hb'⟩ := h.pg p p0 p1
      rw [pgT_new (h.ok2.on t hm) q]
      exact ⟨b, by rw [if_neg q]; exact e, hb'.kept kk (out (.pg p) b (by simp) (by simp) (by simp) (by simp) (by rw [e]; rfl))⟩
  · show _ = fO (comV V t S.done.length vd) (S.opn.eraseIdx k) j
    unfold fO
    rw [ids_erase h.ok.dif hk]
    by_cases q : j = t.id
    · rw [if_pos q, q]; simp
    · rw [if_neg q, show comV V t S.done.length vd (.tx j) = V (.tx j) by simp [comV, q]]; simp [q]
  · refine ⟨List.pairwise_map.2 hok.dif, fun j => ?_, fun j hj => ?_⟩
    · show j ∈ (S.opn.eraseIdx k).map Tn.id ↔ _
      rw [← findO_mem]
      unfold fO
      split <;> simp_all
    · obtain ⟨x, hx, rfl⟩ := List.mem_map.1 hj
      exact h.id64 (mem_erase h.ok.dif hk hx).1
  · have hx' := mem_erase h.ok.dif hk hx
    have q := (h.txs x hx'.1).kept kk (fun a y ha hy => out a y (by intro e; subst e; cases ha) (by intro e; subst e; cases ha) (by intro e; subst e; cases ha) (by intro e; subst e; cases ha) hy)
    exact q.congr (fun a ha => hst a (ofT_other ha hx'.2) (by intro e; subst e; cases ha) (by intro p e; subst e; cases ha) (by intro p e; subst e; cases ha)) (fun p hp => pgT_commit h.ok2 hm hx'.1 (Ne.symm hx'.2) hp)
  · show Row w' 0 1 vd (S.done ++ [t.chs]).length ((List.range (S.done ++ [t.chs]).length).map fun j => comV V t S.done.length vd (.dn j))
    rw [List.length_append, show [t.chs].length = 1 from rfl, List.range_succ, List.map_append]
    have e : (List.range S.done.length).map (fun j => comV V t S.done.length vd (.dn j)) = (List.range S.done.length).map (fun j => V (.dn j)) := List.map_congr_left fun j hj => by
      have := List.mem_range.1 hj
      simp [comV]; omega
    rw [e]
    simpa [comV] using hdn
  · show Cs w' 0 (if j = S.done.length then V (.ch t.id) else V (.dn j)) l
    by_cases q : j = S.done.length
    · rw [if_pos q]
      have el : l = t.chs := by
        have hj' : (S.done ++ [t.chs])[j]? = some l := hj
        rw [q, List.getElem?_append_right (Nat.le_refl _)] at hj'
        simpa using hj'.symm
      rw [el]
      exact hT1.chs.kept kk (fun y hy => out (.ch t.id) y (by simp) (by simp) (by simp) (by simp) (by rw [Row.blkOf hT1.chs]; exact hy))
    · rw [if_neg q]
      have hj' : (S.done ++ [t.chs])[j]? = some l := hj
      have hlt : j < S.done.length := by
        have := (List.getElem?_eq_some_iff.1 hj').1
        simp at this
        omega
      rw [List.getElem?_append_left hlt] at hj'
      have r := h.dns j l hj'
      exact r.kept kk (fun y hy => out (.dn j) y (by simp) (by simp) (by simp) (by simp) (by rw [Row.blkOf r]; exact hy))
  · by_cases e1 : a = .vd
    · rw [e1] at ha
      rcases hvd' y ha with r | r
      · exact .inr r.1
      · exact .inl ⟨_, r⟩
    · obtain ⟨a', h1, -, -⟩ := comV_from V t _ vd ha e1
      exact .inl ⟨_, h1⟩
  · refine ⟨kk.os, kk.tape, kk.output, kk.size, fun z hz hn => kk.block z hz (fun q => hn (List.mem_filter.2 ⟨q, by simpa using hz⟩))⟩
  · obtain ⟨q1, q2⟩ := List.mem_filter.1 hz
    have hlt : z < w.heap.size := by simpa using q2
    rcases hX z q1 with r | r | r | r | r
    · omega
    · exact ⟨_, r⟩
    · exact ⟨_, r⟩
    · exact ⟨_, r⟩
    · exact ⟨_, r⟩
end Go.Proofs.YtnjfahgmebmakaaGreatDoor

/-
  OWN WORK (by mkpp7.py). The landed plain (layer 18): commit.
-/
namespace Go.Proofs.YtnjfahgmebmakaaGreatDoor
open Go.RowKit Go.Maps
set_option linter.unusedVariables false
set_option linter.unusedSimpArgs false
section
variable {P : Program} (w : World) {ops : Array Oper} {rest : List Oper} {o : Oper} {a : Act} {Q : Exit → Act → World → Prop}
/-- the next map of a map of maps, none of them nil -/
theorem wpList_next_map (hg : o.guard = none) (it : Operand) (hop : o.op = Op.next it false) (k : TypeId) (K : Keyed P k) (hk : P.underlying k = some (.int .i64))
    (b r n : Nat) (D : DataW Unit) (left : Lit → Bool) (cnt : Nat) (hit : a.eval it = .pointer (some ⟨r, 0, none⟩)) (h : w.ranges P k mapElem b r n D left cnt)
    (hne : ∀ x, I64 x → left (.int .i64 x) = true → D.atKey (.int .i64 x) (.lit (.int .i64 0)) ≠ .lit (.int .i64 0))
    (hDone : cnt = 0 → (∀ kl, left kl = false) → wpList P ops Q rest (a.put o.dst (.tuple #[.bool false])) w)
    (hMore : ∀ (x : Int) (s : Nat) (w' : World) (cnt' : Nat), I64 x → left (.int .i64 x) = true → D.atKey (.int .i64 x) (.lit (.int .i64 0)) = .lit (.int .i64 ((s : Int) + 1)) → w'.ranges P k mapElem b r n D (fun z => left z && !z.sameKey (.int .i64 x)) cnt' → cnt' < cnt →
      w.grownBy w' (some r) → w'.heap.size = w.heap.size → (Instr.entry (.pointer (some ⟨r, 0, none⟩))).run P w' = .ok (.tuple #[.int .i64 x, .map (some s)]) w' → wpList P ops Q rest (a.put o.dst (.tuple #[.bool true, .int .i64 x, .map (some s)])) w') :
    wpList P ops Q (o :: rest) a w :=
  wpList_next_ranges w hg it hop k K mapElem (Value.int .i64) Value.map (fun key kl hkey => by obtain ⟨x, rfl, _⟩ := Maps.keyOf_int_inv hk hkey; exact ⟨x, rfl⟩) (fun v y hv => by
      unfold mapElem at hv
      split at hv
      · exact ⟨none, rfl⟩
      · rename_i b; exact ⟨some b, rfl⟩
      · cases hv)
    b r n D left cnt hit h hDone (fun x c kl y w' cnt' hkey hlk hv hat hrg hlt hgr hsz hen => by
      obtain ⟨x', ex, rfl, hwx⟩ := Maps.keyOf_int_inv hk hkey
      cases ex
      have hi := i64_wf15 hwx
      cases c with
      | none =>
        have e : y.1 = .lit (.int .i64 0) := by
          rw [mapElem_zero] at hv
          rw [← Option.some.inj hv]
        exact absurd ((hat _).trans e) (hne x hi hlk)
      | some s =>
        have e : y.1 = .lit (.int .i64 ((s : Int) + 1)) := by
          rw [mapElem_some] at hv
          rw [← Option.some.inj hv]
        exact hMore x s w' cnt' hi hlk ((hat _).trans e) hrg hlt hgr hsz hen)
end
/-- the pages' row while a commit goes over what one held -/
def comC (V : Tag → Value) (t : Tn) (left : Lit → Bool) (n : Nat) : List Value := (List.range n).map fun i : Nat => if (i : Int) ∈ t.pages ∧ come left (i : Int) = true then V (.ow t.id (i : Int)) else V (.pg (i : Int))
theorem comC_len (V : Tag → Value) (t : Tn) (left : Lit → Bool) (n : Nat) : (comC V t left n).length = n := by simp [comC]
theorem comC_step {V : Tag → Value} {t : Tn} {left : Lit → Bool} {n j : Nat} (hj : j < n) (hp : (j : Int) ∈ t.pages) : (comC V t left n).set j (V (.ow t.id (j : Int))) = comC V t (fun z => left z && !z.sameKey (.int .i64 (j : Int))) n := by
  apply List.ext_getElem (by simp [comC])
  intro i h1 h2
  rw [List.getElem_set]
  have hi : i < n := by simpa [comC] using h2
  simp only [comC, List.getElem_map, List.getElem_range, come_step]
  by_cases e : j = i
  · subst e
    rw [if_pos rfl, if_pos ⟨hp, by simp⟩]
  · have ne : ((i : Int) == (j : Int)) = false := by simp; omega
    rw [if_neg e]
    simp [ne]
theorem comC_old {V : Tag → Value} {t : Tn} {left : Lit → Bool} {n j : Nat} (hj : j < n) : ∃ v, (comC V t left n)[j]? = some v := ⟨_, List.getElem?_eq_getElem (by rw [comC_len]; exact hj)⟩
theorem srcS {P : Program} (w : World) (t e : TypeId) (ht : P.underlying t = some (.slice e)) (p : Option Addr) (n c : Nat) : Src P 1 t (.slice (some ⟨w.heap.size, 0, none⟩) 1 1) 1 [.slice p n c] (w.alloc (.cells #[.slice p n c] e)) := by
  refine Src.ofSlice _ ht _ _ _ _ rfl (fun j u hj => ?_) (fun u hu => ?_)
  · rw [add_none rfl]
    have q := (Blk.new w e [.slice p n c]).cell hj
    simpa using q
  · simp at hu
    subst hu
    rfl
set_option maxRecDepth 20000 in
set_option maxHeartbeats 6400000 in
theorem qCommit {V : Tag → Value} {g : Nat} {c : Cf} {S : St} (id : Int) (w : World) (h : PpP w V g c S) (hs : S.done.length ≤ 3600000000000) (hi : I64 id) : Calls Tryz.prog 44 #[.pointer (some ⟨g, 0, none⟩), .int .i64 id] w fun e w' => ∃ V' v, e = .returned v ∧ ErOk (endE S id) v ∧ PpP w' V' g c (comS S id) ∧ Nx w w' V V' := by
  have HP := @hideH _ h
  have HF := @hideH _ (qFind id w h hi)
  have HSM := @hideH _ hs
  clear h hs
  go_enter Tryz.func44, Tryz.ntmps44
  go_wp2_with fail
  refine HF.out.mono ?_
  clear HF
  rintro e wf ⟨rfl, ⟨hf, rfl⟩ | ⟨t, x, hf, hx, rfl⟩⟩
  · have HE := @hideH _ (And.intro (abo_none hf).1 (abo_none hf).2.2)
    clear hf
    go_wp2_with fail
    refine (qWrap _ _ _ _).mono ?_
    rintro e wv ⟨rfl, rfl⟩
    go_wp2
    go_ret
    rw [HE.out.1, HE.out.2]
    exact ⟨V, _, by first | rfl | trivial, .inr ⟨by decide, 1, by omega, by first | exact Er.wrap _ (Er.ref 160) | simpa using Er.wrap _ (Er.ref 160)⟩, HP.out, Nx.refl V (Kept.refl _ _)⟩
  obtain ⟨kx, hkx⟩ := HP.out.idx hf
  obtain ⟨hm, hid⟩ := findO_some hf
  have HE := @hideH _ (abo_some HP.out.ok hkx hf)
  have T := HP.out.txs t hm
  obtain ⟨x', ex, hbx⟩ := T.box
  have exx : V (.tx t.id) = .pointer (some ⟨x, 0, none⟩) := by rw [hid]; exact hx
  obtain rfl : x = x' := by rw [exx] at ex; simpa using ex
  obtain ⟨hd, ehd, D, hO, hT, hK⟩ := T.hd
  rw [ehd] at hbx
  have c0 := hbx.cell (j := 0) rfl
  have B := HP.out.box
  obtain ⟨pp, cp, epp, hncp, hcmp⟩ := HP.out.pgs.shape
  have hpgs := HP.out.pgs
  rw [epp] at hpgs
  have hpos : 0 < c.pages.toNat := by have := HP.out.ok.may.1; omega
  obtain ⟨gp, rfl, -, hgpl, -, -⟩ := Row.pos hpgs hpos
  have B' := B
  rw [epp] at B'
  have c6 := B'.cell (j := 6) rfl
  have vbp : blkOf (V .bp) = some gp := by rw [epp]; rfl
  have vg : blkOf (V .g) = some g := by rw [HP.out.vg]; rfl
  have vx : blkOf (V (.tx t.id)) = some x := by rw [exx]; rfl
  have vh : blkOf (V (.hd t.id)) = some hd := by rw [ehd]; rfl
  have ggp : g ≠ gp := fun q => by rw [← q] at vbp; have := HP.out.inj.inj _ _ _ vg vbp; cases this
  have xgp : x ≠ gp := fun q => by rw [← q] at vbp; have := HP.out.inj.inj _ _ _ vx vbp; cases this
  have hgp : hd ≠ gp := fun q => by rw [← q] at vbp; have := HP.out.inj.inj _ _ _ vh vbp; cases this
  have hdl := hO.lt
  have HX := @hideH _ (And.intro hkx (And.intro hm (And.intro hid (And.intro exx (And.intro T (And.intro B (And.intro epp vbp)))))))
  have HTT := @hideH _ (And.intro hT (And.intro hK ehd))
  have HBX := @hideH _ hbx
  have HPG := @hideH _ hpgs
  obtain ⟨N, hN⟩ : ∃ N, N = c.pages.toNat := ⟨_, rfl⟩
  have HN := @hideH _ hN
  have HCP := @hideH _ (show N ≤ cp by rw [hN]; exact hncp)
  rw [← hN] at c6 HPG
  obtain ⟨m, hmm⟩ : ∃ m, m = t.pages.length := ⟨_, rfl⟩
  rw [← hmm] at hO
  clear hf hkx hm exx ex T hT hK B B' hpgs epp vbp vg vx vh hmm hpos hncp hcmp hN hbx hx
  go_wp2_with (at_range; refine wpList_range_own _ rfl _ 114 rfl 3 88 keyL Tryz.underlying114 _ hd m D rfl hO ?_; intro w0 hrg0 hg0 hs0)
  go_frame
  have k0 : Kept [] wf w0 := (Kept.refl [] wf).grown hg0 (fun k hk => by cases hk)
  go_loopw [7] (fun _ wr => ∃ (left : Lit → Bool) (cnt : Nat), Hid (wr.ranges Tryz.prog 3 mapElem hd wf.heap.size m D left cnt ∧ Kept [gp] wf wr ∧ (∀ k, left k = true → Maps.has D k = true) ∧ Row wr 0 1 (.slice (some ⟨gp, 0, none⟩) N cp) N (comC V t left N))) (fun _ wr => wr.rangeLeft hd wf.heap.size)
  case atStart =>
    refine ⟨_, _, hrg0, k0.mono (by simp), fun k hk => hk, ?_⟩
    have e : comC V t (Maps.has D) N = (List.range N).map fun i : Nat => V (.pg (i : Int)) := by
      unfold comC
      refine List.map_congr_left fun i hi => ?_
      rw [if_neg]
      rintro ⟨q1, q2⟩
      have hib := HX.out.2.2.2.2.1.own (i : Int) q1
      have hi64 : I64 (i : Int) := by
        have := ((HP.out.ok.tns t HX.out.2.1).pgs.2 (i : Int) q1)
        have := HP.out.ok.may.1
        exact ⟨by omega, by omega⟩
      unfold come at q2
      rw [HTT.out.1.has (i : Int) hi64, fH_there q1] at q2
      cases q2
    rw [e]
    have q := HPG.out.kept k0 (by simp)
    rw [HN.out] at q ⊢
    exact q
  case round =>
    clear hrg0 hg0 hs0 k0
    obtain ⟨left, cnt, hh⟩ := hrel
    have hrg := hh.out.1
    have hnz : ∀ x, I64 x → left (.int .i64 x) = true → D.atKey (.int .i64 x) (.lit (.int .i64 0)) ≠ .lit (.int .i64 0) := fun x hx hl => by
      have q := hh.out.2.2.1 _ hl
      rw [HTT.out.1.has x hx] at q
      rw [HTT.out.1.atk x hx]
      by_cases r : x ∈ t.pages
      · rw [fH_there r]; simp; omega
      · rw [fH_gone r] at q; cases q
    have HNZ := @hideH _ hnz
    clear hnz
    go_wp2_with (at_next; refine wpList_next_map _ rfl _ rfl 3 keyL Tryz.underlying3 hd wf.heap.size m _ _ _ rfl hrg HNZ.out ?_ ?_)
    rotate_left
    · intro pg s w1 cnt1 hip hlp hat hrg1 hlt1 hg1 hs1 hen
      have hpm : pg ∈ t.pages := Decidable.byContradiction fun r => by
        have q := hh.out.2.2.1 _ hlp
        rw [HTT.out.1.has pg hip, fH_gone r] at q
        cases q
      obtain ⟨o, eo, ho⟩ := HX.out.2.2.2.2.1.own pg hpm
      have hso : o = s := by
        have q := HTT.out.1.atk pg hip
        rw [hat, fH_there hpm, eo] at q
        simp [nOf, blkOf] at q
        omega
      subst hso
      have hpr := (HP.out.ok.tns t HX.out.2.1).pgs.2 pg hpm
      obtain ⟨j, rfl⟩ : ∃ j : Nat, pg = (j : Int) := ⟨pg.toNat, by omega⟩
      have hjN : j < N := by rw [HN.out]; omega
      have hjN' : (j : Int) < (N : Int) := by omega
      have hj0 : (0 : Int) ≤ (j : Int) := by omega
      have k1 : Kept [gp] wf w1 := hh.out.2.1.grown hg1 (fun k hk => .inr (by cases hk; exact Nat.le_refl _))
      have k1b : Kept [wf.heap.size] wr w1 := (Kept.refl _ wr).grown hg1 (fun k hk => .inl (by cases hk; simp))
      have r1 := hh.out.2.2.2.kept k1b (fun z hz hz' => by simp [Value.ownBlock] at hz hz'; omega)
      obtain ⟨r2, k2⟩ := r1.set j (by omega) (.map (some o)) rfl
      obtain ⟨gp', e', -, -, h8, h9⟩ := Row.pos r1 (by omega)
      cases e'
      obtain ⟨ov, hov⟩ := comC_old (V := V) (t := t) (left := left) hjN
      have cj := h8 j ov hov
      have fj := (h9 j (by have := HCP.out; omega)).2
      have c6r := k1.cell c6 (by simpa using ggp)
      obtain ⟨wn, hwn⟩ : ∃ wx, wx = w1.setCell ⟨gp, j, none⟩ (.map (some o)) := ⟨_, rfl⟩
      rw [← hwn] at r2 k2
      have hsetc := comC_step (V := V) (t := t) (left := left) hjN hpm
      rw [eo] at hsetc
      rw [hsetc] at r2
      have hrg2 := ranges_kept hrg1 k2 (by simpa using hgp) (by simp; omega)
      have HA := @hideH _ (And.intro hrg2 (And.intro (k1.trans k2 (fun z hz => .inl hz)) (And.intro r2 hlt1)))
      clear hrg1 hlt1 hg1 hs1 hat hip hlp k1 k1b r1 r2 k2 hsetc hov h8 h9 hrg2 eo ho hpr hpm
      go_wp2
      rw [← hwn]
      try go_wp2
      go_roundw
      case rel => exact ⟨_, cnt1, HA.out.1, HA.out.2.1, fun k hk => hh.out.2.2.1 k (by revert hk; cases left k <;> simp), HA.out.2.2.1⟩
      case measure => rw [HA.out.1.left_eq, hrg.left_eq]; exact HA.out.2.2.2
    intro hc0 hl0
    have hrow := hh.out.2.2.2
    have ecom : comC V t left N = (List.range N).map fun i : Nat => if (i : Int) ∈ t.pages then V (.ow t.id (i : Int)) else V (.pg (i : Int)) := by
      unfold comC
      refine List.map_congr_left fun i hi => ?_
      have : come left (i : Int) = true := by unfold come; rw [hl0]; rfl
      simp [this]
    rw [ecom] at hrow
    have kr := hh.out.2.1
    have HR := @hideH _ (And.intro hrow kr)
    have Br := HX.out.2.2.2.2.2.1.kept kr (by simpa using ggp)
    have bxr := HBX.out.kept kr (by simpa using xgp)
    have Dr : Row wr 0 1 (V .vd) S.done.length ((List.range S.done.length).map fun j => V (.dn j)) := HP.out.done.kept kr (fun z hz hz' => by
      have e : z = gp := by simpa using hz'
      rw [e] at hz
      have := HP.out.inj.inj .vd .bp gp (by rw [Row.blkOf HP.out.done]; exact hz) HX.out.2.2.2.2.2.2.2
      cases this)
    obtain ⟨pd, cd, evd, hncd, hcmd⟩ := Dr.shape
    obtain ⟨pc, cc, evc, hncc, hcmc⟩ := HX.out.2.2.2.2.1.chs.shape
    obtain ⟨q1, hq1⟩ : ∃ q1, q1 = S.done.length := ⟨_, rfl⟩
    obtain ⟨q2, hq2⟩ : ∃ q2, q2 = t.chs.length := ⟨_, rfl⟩
    have Br' := Br
    rw [evd] at Br'
    rw [evc] at bxr
    rw [← hq1] at Br'
    rw [← hq2] at bxr
    have c9 := Br'.cell (j := 9) rfl
    have cx1 := bxr.cell (j := 1) rfl
    have HQ := @hideH _ (show q1 = S.done.length ∧ q1 ≤ 3600000000000 from ⟨hq1, by rw [hq1]; exact HSM.out⟩)
    have HQ2 := @hideH _ hq2
    rw [evd, ← hq1] at Dr
    have HDR := @hideH _ Dr
    have EVD := @hideH _ (show V .vd = .slice pd q1 cd by rw [evd, hq1])
    have EVC := @hideH _ (show V (.ch t.id) = .slice pc q2 cc by rw [evc, hq2])
    obtain ⟨bo, ebo, Do, hOo, hTo, hKo⟩ := HP.out.opn
    have HOO := @hideH _ (And.intro hOo (And.intro hTo ebo))
    have HBR := @hideH _ Br
    obtain ⟨infD, hin1, hin2, hin3, hin4⟩ := info_parts3 (show (Tryz.prog.info? 48).map (fun i => (i.zero, i.size, i.bytes)) = some (some (.slice none 0 0), 1, 24) by kernel_rfl)
    have HID := @hideH _ (And.intro hin1 (And.intro hin2 (And.intro hin3 hin4)))
    clear hin1 hin2 hin3 hin4
    clear hc0 hl0 hrg hrow kr ecom Br Br' bxr Dr hncd hcmd hncc hcmc hq1 hq2 evd evc hOo hTo hKo c0 c6 hO HNZ
    go_upto_region 8 with fail
    obtain ⟨w6, hw6⟩ : ∃ wx, wx = wr.drew := ⟨_, rfl⟩
    have k6 : Kept [] wr w6 := by rw [hw6]; exact (Kept.refl [] wr).drew
    have hS : (fun w' => w'.cell? ⟨g, 9, none⟩ = some (.slice pd q1 cd) ∧ w'.cell? ⟨x, 1, none⟩ = some (.slice pc q2 cc)) w6 := ⟨k6.cell c9 (by simp), k6.cell cx1 (by simp)⟩
    try dsimp only at hS
    obtain ⟨w7, hw7⟩ : ∃ wx, wx = w6.alloc (.cells #[.slice pc q2 cc] 48) := ⟨_, rfl⟩
    have k7 : Kept [] w6 w7 := by rw [hw7]; exact (Kept.refl [] w6).alloc _
    have hS7 := (⟨k7.cell hS.1 (by simp), k7.cell hS.2 (by simp)⟩ : (fun w' => w'.cell? ⟨g, 9, none⟩ = some (.slice pd q1 cd) ∧ w'.cell? ⟨x, 1, none⟩ = some (.slice pc q2 cc)) w7)
    try dsimp only at hS7
    refine wp_region_late (fun w' => w'.cell? ⟨g, 9, none⟩ = some (.slice pd q1 cd) ∧ w'.cell? ⟨x, 1, none⟩ = some (.slice pc q2 cc)) 13 (by kernel_rfl) ?_
    rw [← hw6]
    clear hw6 c9 cx1
    refine wpAnyZ_take 0 (v := ?va0_1) rfl (by kernel_rfl) (by kernel_rfl) (by kernel_rfl) (by kernel_rfl) (fun _ _ _ h => h) (by rfl) ?hya0_1 hS ?resta0_1
    case hya0_1 => (intro wx hSx; obtain ⟨s1, s2⟩ := hSx; go_simp; (try with_reducible rfl))
    (try simp only [Act.put, List.getElem_toArray, List.getElem_cons_zero, List.getElem_cons_succ, List.setIfInBounds_toArray, List.set_cons_zero, List.set_cons_succ])
    refine wpAnyZ_take 1 (v := ?va1_2) rfl (by kernel_rfl) (by kernel_rfl) (by kernel_rfl) (by kernel_rfl) (fun _ _ _ h => h) (by rfl) ?hya1_2 hS ?resta1_2
    case hya1_2 => (intro wx hSx; obtain ⟨s1, s2⟩ := hSx; go_simp; (try with_reducible rfl))
    (try simp only [Act.put, List.getElem_toArray, List.getElem_cons_zero, List.getElem_cons_succ, List.setIfInBounds_toArray, List.set_cons_zero, List.set_cons_succ])
    refine wpAnyZ_take 2 (v := ?va2_3) rfl (by kernel_rfl) (by kernel_rfl) (by kernel_rfl) (by kernel_rfl) (fun _ _ _ h => h) (by rfl) ?hya2_3 hS ?resta2_3
    case hya2_3 => (intro wx hSx; obtain ⟨s1, s2⟩ := hSx; go_simp; (try with_reducible rfl))
    (try simp only [Act.put, List.getElem_toArray, List.getElem_cons_zero, List.getElem_cons_succ, List.setIfInBounds_toArray, List.set_cons_zero, List.set_cons_succ])
    refine wpAnyZ_take 3 (v := ?va3_4) rfl (by kernel_rfl) (by kernel_rfl) (by kernel_rfl) (by kernel_rfl) (fun _ _ _ h => h) (by rfl) ?hya3_4 hS ?resta3_4
    case hya3_4 => (intro wx hSx; obtain ⟨s1, s2⟩ := hSx; go_simp; (try with_reducible rfl))
    (try simp only [Act.put, List.getElem_toArray, List.getElem_cons_zero, List.getElem_cons_succ, List.setIfInBounds_toArray, List.set_cons_zero, List.set_cons_succ])
    refine wpAnyZ_take 4 (v := ?va4_5) rfl (by kernel_rfl) (by kernel_rfl) (by kernel_rfl) (by kernel_rfl) (fun _ _ _ h => h) (by rfl) ?hya4_5 hS ?resta4_5
    case hya4_5 => (intro wx hSx; obtain ⟨s1, s2⟩ := hSx; go_simp; (try with_reducible rfl))
    (try simp only [Act.put, List.getElem_toArray, List.getElem_cons_zero, List.getElem_cons_succ, List.setIfInBounds_toArray, List.set_cons_zero, List.set_cons_succ])
    refine wpAnyZ_take 5 (v := ?va5_6) rfl (by kernel_rfl) (by kernel_rfl) (by kernel_rfl) (by kernel_rfl) (fun _ _ _ h => h) (by rfl) ?hya5_6 hS ?resta5_6
    case hya5_6 => (intro wx hSx; obtain ⟨s1, s2⟩ := hSx; go_simp; (try with_reducible rfl))
    (try simp only [Act.put, List.getElem_toArray, List.getElem_cons_zero, List.getElem_cons_succ, List.setIfInBounds_toArray, List.set_cons_zero, List.set_cons_succ])
    refine wpAnyZ_take 6 (v := ?va6_7) rfl (by kernel_rfl) (by kernel_rfl) (by kernel_rfl) (by kernel_rfl) (fun _ _ _ h => h) (by rfl) ?hya6_7 hS ?resta6_7
    case hya6_7 => (intro wx hSx; obtain ⟨s1, s2⟩ := hSx; go_simp; (try with_reducible rfl))
    (try simp only [Act.put, List.getElem_toArray, List.getElem_cons_zero, List.getElem_cons_succ, List.setIfInBounds_toArray, List.set_cons_zero, List.set_cons_succ])
    refine wpAnyZ_take 7 (v := ?va7_8) rfl (by kernel_rfl) (by kernel_rfl) (by kernel_rfl) (by kernel_rfl) (fun _ _ _ h => h) (by rfl) ?hya7_8 hS ?resta7_8
    case hya7_8 => (intro wx hSx; obtain ⟨s1, s2⟩ := hSx; go_simp; (try with_reducible rfl))
    (try simp only [Act.put, List.getElem_toArray, List.getElem_cons_zero, List.getElem_cons_succ, List.setIfInBounds_toArray, List.set_cons_zero, List.set_cons_succ])
    refine wpAnyZ_take 8 (v := ?va8_9) rfl (by kernel_rfl) (by kernel_rfl) (by kernel_rfl) (by kernel_rfl) (fun _ _ _ h => h) (by rfl) ?hya8_9 hS ?resta8_9
    case hya8_9 => (intro wx hSx; obtain ⟨s1, s2⟩ := hSx; go_simp; (try with_reducible rfl))
    (try simp only [Act.put, List.getElem_toArray, List.getElem_cons_zero, List.getElem_cons_succ, List.setIfInBounds_toArray, List.set_cons_zero, List.set_cons_succ])
    refine wpAnyZ_one 9 rfl (by kernel_rfl) (fun K hK => ?_)
    go_simp
    refine hK _ _ (fun _ => by rw [← hw7]; exact hS7) ?_
    clear hK K
    (try simp only [Act.put, List.getElem_toArray, List.getElem_cons_zero, List.getElem_cons_succ, List.setIfInBounds_toArray, List.set_cons_zero, List.set_cons_succ])
    have hsrc := srcS (P := Tryz.prog) w6 41 48 Tryz.underlying41 pc q2 cc
    rw [← hw7] at hsrc
    rw [← hw7]
    clear hw7
    have k07 := k6.then k7
    have R7 := HDR.out.kept k07 (by simp)
    refine wpAnyZ_one 10 rfl (by kernel_rfl) (fun K hK => ?_)
    refine step_append_row2 rfl (.tmp 40) (.tmp 45) 41 rfl 0 48 infD (.slice none 0 0) 1 24 Tryz.underlying41 HID.out.1 HID.out.2.1 HID.out.2.2.1 HID.out.2.2.2 rfl _ _ _ (by rfl) R7 _ 1 _ (by rfl) hsrc (by have e1 := HQ.out.2; omega) (by have e1 := HQ.out.2; unfold maxLen; omega) (by have e1 := HQ.out.2; omega) (Nat.zero_le _) ?_
    intro v' w8 r8 k8 o8
    obtain ⟨p', c', hv', -⟩ := Row.shape r8
    subst hv'
    have hnot : ∀ z ∈ (Value.slice pd q1 cd).ownBlock.toList, z < wf.heap.size ∧ z ≠ g ∧ z ≠ x ∧ z ≠ gp ∧ z ≠ bo := fun z hz => by
      have ez : blkOf (V .vd) = some z := by rw [EVD.out, blkOf_slice rfl]; exact own_mem.1 hz
      refine ⟨HP.out.inj.lt _ _ ez, fun q => ?_, fun q => ?_, fun q => ?_, fun q => ?_⟩
      · rw [q] at ez; have := HP.out.inj.inj _ .g _ ez (by rw [HP.out.vg]; rfl); cases this
      · rw [q] at ez; have := HP.out.inj.inj _ (.tx t.id) _ ez (by rw [HX.out.2.2.2.1]; rfl); cases this
      · rw [q] at ez; have := HP.out.inj.inj _ .bp _ ez HX.out.2.2.2.2.2.2.2; cases this
      · rw [q] at ez; have := HP.out.inj.inj _ .bo _ ez (by rw [HOO.out.2.2]; rfl); cases this
    have B8 := ((HBR.out.kept k07 (by simp)).kept k8 (fun hm => (hnot _ hm).2.1 rfl))
    have X8 := (((HBX.out.kept HR.out.2 (by simpa using xgp)).kept k07 (by simp)).kept k8 (fun hm => (hnot _ hm).2.2.1 rfl))
    have B8' := B8
    rw [EVD.out] at B8'
    rw [EVC.out] at X8
    have f8 := B8'.free 9
    have hS8 := (⟨B8'.cell (j := 9) rfl, X8.cell (j := 1) rfl⟩ : (fun w' => w'.cell? ⟨g, 9, none⟩ = some (.slice pd q1 cd) ∧ w'.cell? ⟨x, 1, none⟩ = some (.slice pc q2 cc)) w8)
    try dsimp only at hS8
    have HR8 := @hideH _ (And.intro r8 (And.intro k8 (And.intro o8 (And.intro k07 (And.intro B8 hnot)))))
    clear r8 k8 o8 hsrc R7 k07 hS7 k7 hS k6 B8 B8' X8 hnot
    refine hK _ _ (fun _ => hS8) ?_
    clear hK K
    (try simp only [Act.put, List.getElem_toArray, List.getElem_cons_zero, List.getElem_cons_succ, List.setIfInBounds_toArray, List.set_cons_zero, List.set_cons_succ])
    refine wpAnyZ_one 11 rfl (by kernel_rfl) (fun K hK => ?_)
    go_simp
    refine hK _ _ (fun _ => hS8) ?_
    clear hK K
    (try simp only [Act.put, List.getElem_toArray, List.getElem_cons_zero, List.getElem_cons_succ, List.setIfInBounds_toArray, List.set_cons_zero, List.set_cons_succ])
    refine wpAnyZ_one 12 rfl (by kernel_rfl) (fun K hK => ?_)
    go_simp
    refine hK _ _ (fun _ => hS8) ?_
    clear hK K
    (try simp only [Act.put, List.getElem_toArray, List.getElem_cons_zero, List.getElem_cons_succ, List.setIfInBounds_toArray, List.set_cons_zero, List.set_cons_succ])
    refine wpAnyZ_one 13 rfl (by kernel_rfl) (fun K hK => ?_)
    go_simp
    refine hK _ _ (fun h => absurd rfl h) ?_
    clear hK K
    (try simp only [Act.put, List.getElem_toArray, List.getElem_cons_zero, List.getElem_cons_succ, List.setIfInBounds_toArray, List.set_cons_zero, List.set_cons_succ])
    refine wpAnyZ_done (by kernel_rfl) ?_ _
    obtain ⟨w9, hw9⟩ : ∃ wx, wx = w8.setCell ⟨g, 9, none⟩ (.slice p' (q1 + 1) c') := ⟨_, rfl⟩
    obtain ⟨b9, k9⟩ := HR8.out.2.2.2.2.1.set 9 (.slice p' (q1 + 1) c')
    rw [← hw9] at b9 k9
    rw [← hw9]
    clear hw9 hS8 f8
    obtain ⟨u, hu⟩ : ∃ u, u = S.used := ⟨_, rfl⟩
    have b9' := b9
    simp only [List.set_cons_succ, List.set_cons_zero] at b9'
    rw [← hu, HOO.out.2.2] at b9'
    have c89 := b9'.cell (j := 8) rfl
    have f89 := b9'.free 8
    have hup : IntKind.i64.wrap (u + 66) = u + 66 := wrap_i64_of (by have := HP.out.ok.low; omega) (by have := HP.out.ok.kept; omega)
    obtain ⟨w10, hw10⟩ : ∃ wx, wx = w9.setCell ⟨g, 8, none⟩ (.int .i64 (u + 66)) := ⟨_, rfl⟩
    obtain ⟨b10, k10⟩ := b9'.set 8 (.int .i64 (u + 66))
    rw [← hw10] at b10 k10
    have c7 := b10.cell (j := 7) (v := .map (some bo)) rfl
    have hgo : g ≠ bo := fun q => by have := HP.out.inj.inj .g .bo g (by rw [HP.out.vg]; rfl) (by rw [HOO.out.2.2, q]; rfl); cases this
    have hpo : gp ≠ bo := fun q => by have := HP.out.inj.inj .bp .bo gp HX.out.2.2.2.2.2.2.2 (by rw [HOO.out.2.2, q]; rfl); cases this
    have k810 : Kept [g] w8 w10 := k9.trans k10 (fun z hz => .inl hz)
    have o10 := ownsMap_kept (ownsMap_kept (ownsMap_kept (ownsMap_kept HOO.out.1 HR.out.2 (by simpa using Ne.symm hpo)) HR8.out.2.2.2.1 (by simp)) HR8.out.2.1 (fun hm => (HR8.out.2.2.2.2.2 _ hm).2.2.2.2 rfl)) k810 (by simpa using Ne.symm hgo)
    have hkey := keyOf_int_mk (P := Tryz.prog) (k := 3) Tryz.underlying3 (wf_of_i64 hi)
    have HF := @hideH _ (And.intro b10 (And.intro k810 (And.intro hgo (And.intro hpo hu))))
    obtain ⟨no, hno⟩ : ∃ no, no = (S.opn.map Tn.id).length := ⟨_, rfl⟩
    rw [← hno] at o10
    clear b9 b9' b10 k9 k10 k810 hgo hpo hno hu
    go_upto_region 10 with fail
    rw [← hw10]
    clear hw10 c89 f89
    go_wp2_with (at_delete; refine wpList_delete_own _ rfl _ _ 76 3 rfl 77 keyL Tryz.underlying76 _ bo no Do rfl o10 _ _ rfl hkey ?_; intro w11 o11 ht11)
    try go_wp2
    go_ret
    have k11 : Kept [bo] w10 w11 := (Kept.refl _ w10).grown ht11.grown (fun k hk => .inl (by cases hk; simp))
    have hu := HF.out.2.2.2.2
    have hnot := HR8.out.2.2.2.2.2
    obtain ⟨X, hX⟩ : ∃ X, X = gp :: g :: bo :: (Value.slice pd q1 cd).ownBlock.toList := ⟨_, rfl⟩
    have kk : Kept X wf w11 := ((((HR.out.2.mono (T := X) (by intro z hz; rw [hX]; simp at hz; simp [hz])).trans (HR8.out.2.2.2.1.mono (T := X) (by simp)) (fun z hz => .inl hz)).trans (HR8.out.2.1.mono (T := X) (by intro z hz; rw [hX]; simp only [List.mem_cons]; exact .inr (.inr (.inr hz)))) (fun z hz => .inl hz)).trans (HF.out.2.1.mono (T := X) (by intro z hz; rw [hX]; simp at hz; simp [hz])) (fun z hz => .inl hz)).trans (k11.mono (T := X) (by intro z hz; rw [hX]; simp at hz; simp [hz])) (fun z hz => .inl hz)
    have k68 : Kept (g :: bo :: (Value.slice pd q1 cd).ownBlock.toList) wr w11 := (((HR8.out.2.2.2.1.mono (T := g :: bo :: (Value.slice pd q1 cd).ownBlock.toList) (by simp)).trans (HR8.out.2.1.mono (T := g :: bo :: (Value.slice pd q1 cd).ownBlock.toList) (by intro z hz; simp only [List.mem_cons]; exact .inr (.inr hz))) (fun z hz => .inl hz)).trans (HF.out.2.1.mono (T := g :: bo :: (Value.slice pd q1 cd).ownBlock.toList) (by intro z hz; simp at hz; simp [hz])) (fun z hz => .inl hz)).trans (k11.mono (T := g :: bo :: (Value.slice pd q1 cd).ownBlock.toList) (by intro z hz; simp at hz; simp [hz])) (fun z hz => .inl hz)
    have hrow11 := HR.out.1.kept k68 (fun z hz hz' => by
      have ez : z = gp := by simpa [Value.ownBlock] using hz.symm
      rw [ez] at hz'
      rcases List.mem_cons.1 hz' with q | hz'
      · exact ggp q.symm
      · rcases List.mem_cons.1 hz' with q | hz'
        · exact HF.out.2.2.2.1 q
        · exact (hnot _ hz').2.2.2.1 rfl)
    have k8e : Kept [g, bo] w8 w11 := (HF.out.2.1.mono (T := [g, bo]) (by simp)).trans (k11.mono (T := [g, bo]) (by simp)) (fun z hz => .inl hz)
    have vnew : ∀ z, (Value.slice p' (q1 + 1) c').ownBlock = some z → z ≠ g ∧ z ≠ bo := fun z hz => by
      rcases HR8.out.2.2.1 with o | ⟨o, -⟩
      · rw [o] at hz
        have := hnot z (own_mem.2 hz)
        exact ⟨this.2.1, this.2.2.2.2⟩
      · rw [o] at hz
        have ez := (Option.some.inj hz).symm
        have h1 := HR8.out.2.2.2.1.size
        have h2 := HR.out.2.size
        have h3 := HP.out.inj.lt .g g (by rw [HP.out.vg]; rfl)
        have h4 := HP.out.inj.lt .bo bo (by rw [HOO.out.2.2]; rfl)
        exact ⟨by omega, by omega⟩
    have hdn11 := HR8.out.1.kept k8e (fun z hz hz' => by
      rcases List.mem_cons.1 hz' with q | q
      · exact (vnew z hz).1 q
      · exact (vnew z hz).2 (by simpa using q))
    obtain ⟨V', p', n'⟩ := HP.out.com (vd := .slice p' (q1 + 1) c') (X := X) HX.out.1 HOO.out.2.2 kk (fun z hz => by
        rw [hX] at hz
        rcases List.mem_cons.1 hz with q | hz
        · exact .inr (.inr (.inr (.inl (by rw [q]; exact HX.out.2.2.2.2.2.2.2))))
        · rcases List.mem_cons.1 hz with q | hz
          · exact .inr (.inl (by rw [q, HP.out.vg]; rfl))
          · rcases List.mem_cons.1 hz with q | hz
            · exact .inr (.inr (.inl (by rw [q, HOO.out.2.2]; rfl)))
            · exact .inr (.inr (.inr (.inr (by rw [EVD.out, blkOf_slice rfl]; exact own_mem.1 hz)))))
      (by rw [HX.out.2.2.2.2.2.2.1, ← HN.out]; exact hrow11) (by rw [← HQ.out.1, EVC.out]; exact hdn11)
      (by
        rw [EVD.out, blkOf_slice rfl, blkOf_slice rfl]
        rcases HR8.out.2.2.1 with o | ⟨o, -⟩
        · exact .inl o
        · refine .inr ⟨_, o, ?_, ?_⟩
          · have h1 := HR8.out.2.2.2.1.size
            have h2 := HR.out.2.size
            omega
          · have h1 := HR8.out.1.lt _ o
            have := k8e.size
            omega)
      (by rw [← hu, HOO.out.2.2]; exact HF.out.1.kept k11 (by simpa using HF.out.2.2.1)) HOO.out.2.1 (by rw [HX.out.2.2.1]; exact o11)
    rw [HE.out.1, HE.out.2.2]
    exact ⟨V', _, by first | rfl | trivial, .inl ⟨rfl, by first | rfl | trivial⟩, p', n'⟩
end Go.Proofs.YtnjfahgmebmakaaGreatDoor

/-
  OWN WORK (by mkpp8.py). The landed plain (layer 18): the calls of the face.
-/
namespace Go.Proofs.YtnjfahgmebmakaaGreatDoor
open Go.RowKit Go.Maps
set_option linter.unusedVariables false
set_option linter.unusedSimpArgs false
theorem num_of {n : Int} {v : Value} (w : World) (hv : Vr w) (h : ErOk n v) : Calls Tryz.prog 35 #[v] w fun e w' => e = .returned (.int .i64 n) ∧ Kept [] w w' := by
  rcases h with ⟨rfl, rfl⟩ | ⟨-, d, hd, er⟩
  · exact qNumber0 w
  · exact qNumber w hv er hd
theorem Nx.vr {w w' : World} {V V' : Tag → Value} {F : List Nat} (h : Nx w w' V V') (hv : Vr w) (h2 : ∀ a x, blkOf (V a) = some x → x ∈ F) (h4 : 0 ∉ F) : Vr w' := by
  obtain ⟨-, X, k, hX⟩ := h
  exact hv.kept k (fun q => by obtain ⟨b, r⟩ := hX 0 q; exact h4 (h2 b 0 r))
theorem ChR.put {c : Cf} {S : St} {id key v : Int} {b : Bool} {E : Int} {S' : St} (h : ChR c S id ⟨key, v, false⟩ b E S') : E = putE c S id key v ∧ S' = putS c S id key v := by
  rcases h with ⟨ha, h1, h2, -⟩ | ⟨ha, t, k, hf, hk, h⟩
  · have q := put_no (v := v) ha
    exact ⟨by rw [h1, q.1], by rw [h2, q.2.1]⟩
  · by_cases hb : full c S t key = true
    · obtain ⟨h1, h2, -⟩ := h.full rfl hb
      have q := put_full (v := v) ha hf hb
      exact ⟨by rw [h1, q.1], by rw [h2, q.2]⟩
    · obtain ⟨h1, h2, -⟩ := h.fits (fun q => hb q.2)
      have q := put_chg (v := v) ha hf (by simpa using hb)
      exact ⟨by rw [h1, q.1], by rw [h2, q.2]⟩
theorem ChR.del {c : Cf} {S : St} (ok : OkS c S) {id key : Int} {b : Bool} {E : Int} {S' : St} (h : ChR c S id ⟨key, 0, true⟩ b E S') : E = delE c S id key ∧ S' = delS c S id key ∧ b = delB c S id key := by
  rcases h with ⟨ha, h1, h2, h3⟩ | ⟨ha, t, k, hf, hk, h⟩
  · have q := put_no (v := 0) ha
    exact ⟨by rw [h1, q.2.2.1], by rw [h2, q.2.2.2.2], by rw [h3, q.2.2.2.1]⟩
  · obtain ⟨h1, h2, h3⟩ := h.fits (fun q => by cases q.1)
    cases hb : (seesT S t key).2 with
    | true =>
      have q := del_chg ha hf hb
      rw [hb] at h3
      exact ⟨by rw [h1, q.1], by rw [h2, q.2.2], by rw [h3, q.2.1, h1]; simp⟩
    | false =>
      have q := del_none ok hk ha hf hb
      have hl : ¬ 0 < lenC S t ⟨key, 0, true⟩ := by
        have e : lenC S t ⟨key, 0, true⟩ = 0 := by
          unfold lenC
          dsimp only
          rw [hb]
          exact lengthL_same rfl
        omega
      have e := chg_zero (page := key % c.pages) ok hk rfl hl
      rw [hb] at h3
      exact ⟨by rw [h1, q.1, e.1], by rw [h2, q.2.2, e.2], by rw [h3, q.2.1]; rfl⟩
set_option maxHeartbeats 1600000 in
theorem fBegin {g : Nat} {F : List Nat} {c : Cf} {S : St} (id : Int) (w : World) (hv : Vr w) (h : Pz w g F c S) (hi : I64 id) : Calls Tryz.prog 19 #[.pointer (some ⟨g, 0, none⟩), .int .i64 id] w fun e w' => ∃ F', e = .returned (.int .i64 (begE c S id)) ∧ Pz w' g F' c (begS c S id) ∧ Fr w F F' ∧ Kept F w w' := by
  obtain ⟨V, hp, h2, h3, h4⟩ := h
  have HQ := @hideH _ (qBegin id w hp hi)
  have HV := @hideH _ (And.intro hv (And.intro h2 (And.intro h3 h4)))
  clear hp hv h2 h3 h4
  go_enter Tryz.func19, Tryz.ntmps19
  go_wp2_with fail
  refine HQ.out.mono ?_
  clear HQ
  rintro e w1 ⟨V', v', rfl, he, hp, hn⟩
  have HE := @hideH _ (And.intro hp hn)
  have HN := @hideH _ (num_of w1 (hn.vr HV.out.1 HV.out.2.1 HV.out.2.2.2) he)
  clear hp hn he
  go_wp2_with fail
  refine HN.out.mono ?_
  clear HN
  rintro e w2 ⟨rfl, k2⟩
  have HK := @hideH _ k2
  clear k2
  go_wp2
  go_ret
  obtain ⟨F', q1, q2, q3⟩ := Nx.face (S := S) (F := F) HV.out.2.1 HV.out.2.2.1 HV.out.2.2.2 HV.out.1.lt (HE.out.1.then HK.out) (HE.out.2.then HK.out)
  exact ⟨F', by first | rfl | trivial, q1, q2, q3⟩
set_option maxHeartbeats 1600000 in
theorem fCommit {g : Nat} {F : List Nat} {c : Cf} {S : St} (id : Int) (w : World) (hv : Vr w) (h : Pz w g F c S) (hs : small S) (hi : I64 id) : Calls Tryz.prog 23 #[.pointer (some ⟨g, 0, none⟩), .int .i64 id] w fun e w' => ∃ F', e = .returned (.int .i64 (endE S id)) ∧ Pz w' g F' c (comS S id) ∧ Fr w F F' ∧ Kept F w w' := by
  obtain ⟨V, hp, h2, h3, h4⟩ := h
  have HQ := @hideH _ (qCommit id w hp (by unfold small cnt at hs; omega) hi)
  have HV := @hideH _ (And.intro hv (And.intro h2 (And.intro h3 h4)))
  clear hp hv h2 h3 h4
  go_enter Tryz.func23, Tryz.ntmps23
  go_wp2_with fail
  refine HQ.out.mono ?_
  clear HQ
  rintro e w1 ⟨V', v', rfl, he, hp, hn⟩
  have HE := @hideH _ (And.intro hp hn)
  have HN := @hideH _ (num_of w1 (hn.vr HV.out.1 HV.out.2.1 HV.out.2.2.2) he)
  clear hp hn he
  go_wp2_with fail
  refine HN.out.mono ?_
  clear HN
  rintro e w2 ⟨rfl, k2⟩
  have HK := @hideH _ k2
  clear k2
  go_wp2
  go_ret
  obtain ⟨F', q1, q2, q3⟩ := Nx.face (S := S) (F := F) HV.out.2.1 HV.out.2.2.1 HV.out.2.2.2 HV.out.1.lt (HE.out.1.then HK.out) (HE.out.2.then HK.out)
  exact ⟨F', by first | rfl | trivial, q1, q2, q3⟩
set_option maxHeartbeats 1600000 in
theorem fAbort {g : Nat} {F : List Nat} {c : Cf} {S : St} (id : Int) (w : World) (hv : Vr w) (h : Pz w g F c S) (hi : I64 id) : Calls Tryz.prog 12 #[.pointer (some ⟨g, 0, none⟩), .int .i64 id] w fun e w' => ∃ F', e = .returned (.int .i64 (endE S id)) ∧ Pz w' g F' c (aboS S id) ∧ Fr w F F' ∧ Kept F w w' := by
  obtain ⟨V, hp, h2, h3, h4⟩ := h
  have HQ := @hideH _ (qAbort id w hp hi)
  have HV := @hideH _ (And.intro hv (And.intro h2 (And.intro h3 h4)))
  clear hp hv h2 h3 h4
  go_enter Tryz.func12, Tryz.ntmps12
  go_wp2_with fail
  refine HQ.out.mono ?_
  clear HQ
  rintro e w1 ⟨V', v', rfl, he, hp, hn⟩
  have HE := @hideH _ (And.intro hp hn)
  have HN := @hideH _ (num_of w1 (hn.vr HV.out.1 HV.out.2.1 HV.out.2.2.2) he)
  clear hp hn he
  go_wp2_with fail
  refine HN.out.mono ?_
  clear HN
  rintro e w2 ⟨rfl, k2⟩
  have HK := @hideH _ k2
  clear k2
  go_wp2
  go_ret
  obtain ⟨F', q1, q2, q3⟩ := Nx.face (S := S) (F := F) HV.out.2.1 HV.out.2.2.1 HV.out.2.2.2 HV.out.1.lt (HE.out.1.then HK.out) (HE.out.2.then HK.out)
  exact ⟨F', by first | rfl | trivial, q1, q2, q3⟩
set_option maxHeartbeats 1600000 in
theorem fPut {g : Nat} {F : List Nat} {c : Cf} {S : St} (id key v : Int) (w : World) (hv : Vr w) (h : Pz w g F c S) (hs : small S) (hi : I64 id) (hk : I64 key) (hu : u64 v) : Calls Tryz.prog 22 #[.pointer (some ⟨g, 0, none⟩), .int .i64 id, .int .i64 key, .int .u64 v] w fun e w' => ∃ F', e = .returned (.int .i64 (putE c S id key v)) ∧ Pz w' g F' c (putS c S id key v) ∧ Fr w F F' ∧ Kept F w w' := by
  obtain ⟨V, hp, h2, h3, h4⟩ := h
  have HQ := @hideH _ (qChange id ⟨key, v, false⟩ w hp hs hi hk hu)
  have HV := @hideH _ (And.intro hv (And.intro h2 (And.intro h3 h4)))
  clear hp hv h2 h3 h4
  go_enter Tryz.func22, Tryz.ntmps22
  go_wp2_with fail
  refine HQ.out.mono ?_
  clear HQ
  rintro e w1 ⟨V', bb, v', E, S', rfl, he, hp, hn, hch⟩
  obtain ⟨rfl, rfl⟩ := hch.put
  have HE := @hideH _ (And.intro hp hn)
  have HN := @hideH _ (num_of w1 (hn.vr HV.out.1 HV.out.2.1 HV.out.2.2.2) he)
  clear hp hn he hch
  go_wp2_with fail
  refine HN.out.mono ?_
  clear HN
  rintro e w2 ⟨rfl, k2⟩
  have HK := @hideH _ k2
  clear k2
  go_wp2
  go_ret
  obtain ⟨F', q1, q2, q3⟩ := Nx.face (S := S) (F := F) HV.out.2.1 HV.out.2.2.1 HV.out.2.2.2 HV.out.1.lt (HE.out.1.then HK.out) (HE.out.2.then HK.out)
  exact ⟨F', by first | rfl | trivial, q1, q2, q3⟩
set_option maxHeartbeats 1600000 in
theorem fDelete {g : Nat} {F : List Nat} {c : Cf} {S : St} (id key : Int) (w : World) (hv : Vr w) (h : Pz w g F c S) (hs : small S) (hi : I64 id) (hk : I64 key) : Calls Tryz.prog 50 #[.pointer (some ⟨g, 0, none⟩), .int .i64 id, .int .i64 key] w fun e w' => ∃ F', e = .returned (.tuple #[.bool (delB c S id key), .int .i64 (delE c S id key)]) ∧ Pz w' g F' c (delS c S id key) ∧ Fr w F F' ∧ Kept F w w' := by
  obtain ⟨V, hp, h2, h3, h4⟩ := h
  have HQ := @hideH _ (qChange id ⟨key, 0, true⟩ w hp hs hi hk (show u64 0 from ⟨Int.le_refl _, by decide⟩))
  have HOK := @hideH _ hp.ok
  have HV := @hideH _ (And.intro hv (And.intro h2 (And.intro h3 h4)))
  clear hp hv h2 h3 h4
  go_enter Tryz.func50, Tryz.ntmps50
  go_wp2_with fail
  refine HQ.out.mono ?_
  clear HQ
  rintro e w1 ⟨V', bb, v', E, S', rfl, he, hp, hn, hch⟩
  obtain ⟨rfl, rfl, rfl⟩ := hch.del HOK.out
  have HE := @hideH _ (And.intro hp hn)
  have HN := @hideH _ (num_of w1 (hn.vr HV.out.1 HV.out.2.1 HV.out.2.2.2) he)
  clear hp hn he hch
  go_wp2_with fail
  refine HN.out.mono ?_
  clear HN
  rintro e w2 ⟨rfl, k2⟩
  have HK := @hideH _ k2
  clear k2
  go_wp2
  go_ret2
  obtain ⟨F', q1, q2, q3⟩ := Nx.face (S := S) (F := F) HV.out.2.1 HV.out.2.2.1 HV.out.2.2.2 HV.out.1.lt (HE.out.1.then HK.out) (HE.out.2.then HK.out)
  exact ⟨F', by first | rfl | trivial, q1, q2, q3⟩
set_option maxHeartbeats 1600000 in
theorem fGet {g : Nat} {F : List Nat} {c : Cf} {S : St} (id key : Int) (w : World) (hv : Vr w) (h : Pz w g F c S) (hs : small S) (hi : I64 id) (hk : I64 key) : Calls Tryz.prog 21 #[.pointer (some ⟨g, 0, none⟩), .int .i64 id, .int .i64 key] w fun e w' => ∃ F', e = .returned (.tuple #[.int .u64 (getA c S id key).1, .bool (getA c S id key).2.1, .int .i64 (getA c S id key).2.2]) ∧ Pz w' g F' c (getS c S id key) ∧ Fr w F F' ∧ Kept F w w' := by
  obtain ⟨V, hp, h2, h3, h4⟩ := h
  obtain ⟨A, hA⟩ : ∃ A, A = getA c S id key := ⟨_, rfl⟩
  have HQ := @hideH _ (qGet id key w hp hs hi hk)
  rw [← hA] at HQ ⊢
  have HV := @hideH _ (And.intro hv (And.intro h2 (And.intro h3 h4)))
  clear hp hv h2 h3 h4 hA
  obtain ⟨a1, a2, a3⟩ := A
  dsimp only at HQ ⊢
  go_enter Tryz.func21, Tryz.ntmps21
  go_wp2_with fail
  refine HQ.out.mono ?_
  clear HQ
  rintro e w1 ⟨V', v', rfl, he, hp, hn⟩
  have HE := @hideH _ (And.intro hp hn)
  have HN := @hideH _ (num_of w1 (hn.vr HV.out.1 HV.out.2.1 HV.out.2.2.2) he)
  clear hp hn he
  go_wp2_with fail
  refine HN.out.mono ?_
  clear HN
  rintro e w2 ⟨rfl, k2⟩
  have HK := @hideH _ k2
  clear k2
  go_wp2
  go_ret3
  obtain ⟨F', q1, q2, q3⟩ := Nx.face (S := S) (F := F) HV.out.2.1 HV.out.2.2.1 HV.out.2.2.2 HV.out.1.lt (HE.out.1.then HK.out) (HE.out.2.then HK.out)
  exact ⟨F', by first | rfl | trivial, q1, q2, q3⟩
theorem fUsed {g : Nat} {F : List Nat} {c : Cf} {S : St} (w : World) (h : Pz w g F c S) : Calls Tryz.prog 32 #[.pointer (some ⟨g, 0, none⟩)] w fun e w' => e = .returned (.tuple #[.int .i64 S.used, .int .i64 (keptO S.opn)]) ∧ Kept [] w w' := by
  obtain ⟨V, hp, -⟩ := h
  exact qUsed w hp
set_option maxRecDepth 20000 in
set_option maxHeartbeats 1600000 in
theorem fCheck {g : Nat} {F : List Nat} {c : Cf} {S : St} (d : Int) (w : World) (hv : Vr w) (h : Pz w g F c S) : Calls Tryz.prog 54 #[.pointer (some ⟨g, 0, none⟩), .int .i64 d] w fun e w' => ∃ F', e = .returned (.int .i64 (chkE c S d)) ∧ Pz w' g F' c (chkS c S d) ∧ Fr w F F' ∧ Kept F w w' := by
  obtain ⟨V, hp, h2, h3, h4⟩ := h
  obtain ⟨dd, hdd⟩ : ∃ dd, dd = dirtyC c d := ⟨_, rfl⟩
  have hmay := hp.ok.may
  have hmm : min (max d 0) c.pages = dd := by rw [hdd]; unfold dirtyC; have := hmay.1; split; omega; split <;> omega
  have hd1 : 0 ≤ dd ∧ dd ≤ 16 := by rw [hdd]; unfold dirtyC; have := hmay.1; split; omega; split <;> omega
  obtain ⟨bo, n, D, e1, hO, hz⟩ := hp.openSize
  obtain ⟨m, hm⟩ : ∃ m, m = S.opn.length := ⟨_, rfl⟩
  rw [← hm] at hz
  have hm8 : m ≤ 8 := by rw [hm]; exact hp.ok.lenN
  have B := hp.box
  rw [e1] at B
  have c0 := B.cell (j := 0) rfl
  have c7 := B.cell (j := 7) rfl
  have v1 : IntKind.i64.wrap (26 * (m : Int)) = 26 * (m : Int) := wrap_i64_of (by omega) (by omega)
  have v2 : IntKind.i64.wrap (35 + 26 * (m : Int)) = 35 + 26 * (m : Int) := wrap_i64_of (by omega) (by omega)
  have v3 : IntKind.i64.wrap (9 * dd) = 9 * dd := wrap_i64_of (by omega) (by omega)
  have v4 : IntKind.i64.wrap (35 + 26 * (m : Int) + 9 * dd) = 35 + 26 * (m : Int) + 9 * dd := wrap_i64_of (by omega) (by omega)
  have HQ := @hideH _ (qLog (35 + 26 * (m : Int) + 9 * dd) 0 w hp (by omega) (by omega))
  have HC := @hideH _ (show chkN c S d = 35 + 26 * (m : Int) + 9 * dd by unfold chkN; rw [hm, hdd])
  have HP := @hideH _ hp
  have HV := @hideH _ (And.intro hv (And.intro h2 (And.intro h3 h4)))
  have hcase : (d < 0 ∧ dd = 0) ∨ (¬ d < 0 ∧ c.pages < d ∧ dd = c.pages) ∨ (¬ d < 0 ∧ ¬ c.pages < d ∧ dd = d) := by
    rw [hdd]; unfold dirtyC
    by_cases q1 : d < 0
    · exact .inl ⟨q1, by rw [if_pos q1]⟩
    · by_cases q2 : c.pages < d
      · exact .inr (.inl ⟨q1, q2, by rw [if_neg q1, if_pos q2]⟩)
      · exact .inr (.inr ⟨q1, q2, by rw [if_neg q1, if_neg q2]⟩)
  have hpg0 : (0 : Int) < c.pages := by have := hmay.1; omega
  clear hp hv h2 h3 h4 B hdd hmay hd1 hm hm8 hmm
  rcases hcase with ⟨q1, rfl⟩ | ⟨q1, q2, rfl⟩ | ⟨q1, q2, rfl⟩
  · have q3 : ¬ 0 < d := by omega
    have q4 : ¬ c.pages < 0 := by omega
    have q5 : ¬ 0 ≤ d := by omega
    have q6 : (0 : Int) ≤ c.pages := by omega
    have z0 : IntKind.i64.wrap 0 = 0 := by decide
    rw [show (35 + 26 * (m : Int) + 9 * 0) = 35 + 26 * (m : Int) by omega] at *
    go_enter Tryz.func54, Tryz.ntmps54
    go_wp2_with (at_len; refine wpList_len_own _ rfl _ 76 rfl 3 77 Tryz.underlying76 _ bo n D rfl hO ?_; rw [hz])
    refine HQ.out.mono ?_
    clear HQ
    rintro e w1 (⟨hf, rfl, hp, k1⟩ | ⟨hf, rfl, k1⟩)
    · have HE := @hideH _ (show chkE c S d = 0 ∧ chkS c S d = ⟨S.done, S.opn, S.used + (35 + 26 * (m : Int))⟩ by unfold chkE chkS; rw [HC.out, if_pos hf, if_pos hf]; exact ⟨rfl, rfl⟩)
      have nx : Nx w w1 V V := Nx.same k1 (fun x hx => ⟨.g, by rw [HP.out.vg]; simp at hx; rw [hx]; rfl⟩)
      have HN := @hideH _ (And.intro hp nx)
      clear hp k1 hf
      go_wp2_with fail
      refine (qNumber0 _).mono ?_
      rintro e w2 ⟨rfl, k2⟩
      have HK := @hideH _ k2
      clear k2 nx
      go_wp2
      go_ret
      obtain ⟨F', q1, q2, q3⟩ := Nx.face (S := S) (F := F) HV.out.2.1 HV.out.2.2.1 HV.out.2.2.2 HV.out.1.lt (HN.out.1.then HK.out) (HN.out.2.then HK.out)
      rw [HE.out.1, HE.out.2]
      exact ⟨F', by first | rfl | trivial, q1, q2, q3⟩
    · have HE := @hideH _ (show chkE c S d = 170 ∧ chkS c S d = S by unfold chkE chkS; rw [HC.out, if_neg (by rw [hf]; decide), if_neg (by rw [hf]; decide)]; exact ⟨rfl, rfl⟩)
      have HK1 := @hideH _ k1
      have HN := @hideH _ (qNumber w1 (HV.out.1.kept k1 (by simp)) (Er.ref 170) (by omega))
      clear k1 hf
      go_wp2_with fail
      refine HN.out.mono ?_
      rintro e w2 ⟨rfl, k2⟩
      have HK := @hideH _ k2
      clear k2 HN
      go_wp2
      go_ret
      obtain ⟨F', q1, q2, q3⟩ := Nx.face (S := S) (F := F) HV.out.2.1 HV.out.2.2.1 HV.out.2.2.2 HV.out.1.lt (HP.out.then (HK1.out.then HK.out)) (Nx.refl V (HK1.out.then HK.out))
      rw [HE.out.1, HE.out.2]
      exact ⟨F', by first | rfl | trivial, q1, q2, q3⟩
  · have q3 : (0 : Int) ≤ d := by omega
    have q4 : ¬ d < c.pages := by omega
    have q5 : c.pages ≤ d := by omega
    have q6 : ¬ d ≤ c.pages := by omega
    go_enter Tryz.func54, Tryz.ntmps54
    go_wp2_with (at_len; refine wpList_len_own _ rfl _ 76 rfl 3 77 Tryz.underlying76 _ bo n D rfl hO ?_; rw [hz])
    refine HQ.out.mono ?_
    clear HQ
    rintro e w1 (⟨hf, rfl, hp, k1⟩ | ⟨hf, rfl, k1⟩)
    · have HE := @hideH _ (show chkE c S d = 0 ∧ chkS c S d = ⟨S.done, S.opn, S.used + (35 + 26 * (m : Int) + 9 * c.pages)⟩ by unfold chkE chkS; rw [HC.out, if_pos hf, if_pos hf]; exact ⟨rfl, rfl⟩)
      have nx : Nx w w1 V V := Nx.same k1 (fun x hx => ⟨.g, by rw [HP.out.vg]; simp at hx; rw [hx]; rfl⟩)
      have HN := @hideH _ (And.intro hp nx)
      clear hp k1 hf
      go_wp2_with fail
      refine (qNumber0 _).mono ?_
      rintro e w2 ⟨rfl, k2⟩
      have HK := @hideH _ k2
      clear k2 nx
      go_wp2
      go_ret
      obtain ⟨F', q1, q2, q3⟩ := Nx.face (S := S) (F := F) HV.out.2.1 HV.out.2.2.1 HV.out.2.2.2 HV.out.1.lt (HN.out.1.then HK.out) (HN.out.2.then HK.out)
      rw [HE.out.1, HE.out.2]
      exact ⟨F', by first | rfl | trivial, q1, q2, q3⟩
    · have HE := @hideH _ (show chkE c S d = 170 ∧ chkS c S d = S by unfold chkE chkS; rw [HC.out, if_neg (by rw [hf]; decide), if_neg (by rw [hf]; decide)]; exact ⟨rfl, rfl⟩)
      have HK1 := @hideH _ k1
      have HN := @hideH _ (qNumber w1 (HV.out.1.kept k1 (by simp)) (Er.ref 170) (by omega))
      clear k1 hf
      go_wp2_with fail
      refine HN.out.mono ?_
      rintro e w2 ⟨rfl, k2⟩
      have HK := @hideH _ k2
      clear k2 HN
      go_wp2
      go_ret
      obtain ⟨F', q1, q2, q3⟩ := Nx.face (S := S) (F := F) HV.out.2.1 HV.out.2.2.1 HV.out.2.2.2 HV.out.1.lt (HP.out.then (HK1.out.then HK.out)) (Nx.refl V (HK1.out.then HK.out))
      rw [HE.out.1, HE.out.2]
      exact ⟨F', by first | rfl | trivial, q1, q2, q3⟩
  · have q3 : (0 : Int) ≤ dd := by omega
    have q5 : dd ≤ c.pages := by omega
    go_enter Tryz.func54, Tryz.ntmps54
    go_wp2_with (at_len; refine wpList_len_own _ rfl _ 76 rfl 3 77 Tryz.underlying76 _ bo n D rfl hO ?_; rw [hz])
    refine HQ.out.mono ?_
    clear HQ
    rintro e w1 (⟨hf, rfl, hp, k1⟩ | ⟨hf, rfl, k1⟩)
    · have HE := @hideH _ (show chkE c S dd = 0 ∧ chkS c S dd = ⟨S.done, S.opn, S.used + (35 + 26 * (m : Int) + 9 * dd)⟩ by unfold chkE chkS; rw [HC.out, if_pos hf, if_pos hf]; exact ⟨rfl, rfl⟩)
      have nx : Nx w w1 V V := Nx.same k1 (fun x hx => ⟨.g, by rw [HP.out.vg]; simp at hx; rw [hx]; rfl⟩)
      have HN := @hideH _ (And.intro hp nx)
      clear hp k1 hf
      go_wp2_with fail
      refine (qNumber0 _).mono ?_
      rintro e w2 ⟨rfl, k2⟩
      have HK := @hideH _ k2
      clear k2 nx
      go_wp2
      go_ret
      obtain ⟨F', q1, q2, q3⟩ := Nx.face (S := S) (F := F) HV.out.2.1 HV.out.2.2.1 HV.out.2.2.2 HV.out.1.lt (HN.out.1.then HK.out) (HN.out.2.then HK.out)
      rw [HE.out.1, HE.out.2]
      exact ⟨F', by first | rfl | trivial, q1, q2, q3⟩
    · have HE := @hideH _ (show chkE c S dd = 170 ∧ chkS c S dd = S by unfold chkE chkS; rw [HC.out, if_neg (by rw [hf]; decide), if_neg (by rw [hf]; decide)]; exact ⟨rfl, rfl⟩)
      have HK1 := @hideH _ k1
      have HN := @hideH _ (qNumber w1 (HV.out.1.kept k1 (by simp)) (Er.ref 170) (by omega))
      clear k1 hf
      go_wp2_with fail
      refine HN.out.mono ?_
      rintro e w2 ⟨rfl, k2⟩
      have HK := @hideH _ k2
      clear k2 HN
      go_wp2
      go_ret
      obtain ⟨F', q1, q2, q3⟩ := Nx.face (S := S) (F := F) HV.out.2.1 HV.out.2.2.1 HV.out.2.2.2 HV.out.1.lt (HP.out.then (HK1.out.then HK.out)) (Nx.refl V (HK1.out.then HK.out))
      rw [HE.out.1, HE.out.2]
      exact ⟨F', by first | rfl | trivial, q1, q2, q3⟩
set_option maxHeartbeats 1600000 in
theorem fRenew {g : Nat} {F : List Nat} {c : Cf} {S : St} (w : World) (hv : Vr w) (h : Pz w g F c S) : Calls Tryz.prog 18 #[.pointer (some ⟨g, 0, none⟩)] w fun e w' => ∃ F', e = .returned (.int .i64 (renE S)) ∧ Pz w' g F' c (renS S) ∧ Fr w F F' ∧ Kept F w w' := by
  obtain ⟨V, hp, h2, h3, h4⟩ := h
  have HQ := @hideH _ (qIdle w hp)
  have HP := @hideH _ hp
  have B := hp.box
  have c8 := B.cell (j := 8) rfl
  have f8 := B.free 8
  obtain ⟨w1, hw1⟩ : ∃ wx, wx = w.setCell ⟨g, 8, none⟩ (.int .i64 0) := ⟨_, rfl⟩
  obtain ⟨B1, k1⟩ := B.set 8 (.int .i64 0)
  rw [← hw1] at B1 k1
  have HB := @hideH _ (And.intro B1 k1)
  have HV := @hideH _ (And.intro hv (And.intro h2 (And.intro h3 h4)))
  clear hp hv h2 h3 h4 B B1 k1
  go_enter Tryz.func18, Tryz.ntmps18
  go_wp2_with fail
  refine HQ.out.mono ?_
  clear HQ
  rintro e wi ⟨rfl, ⟨ho, rfl⟩ | ⟨ho, rfl⟩⟩
  · have HE := @hideH _ (show renE S = 0 ∧ renS S = ⟨S.done, S.opn, 0⟩ by unfold renE renS; rw [if_pos ho, if_pos ho]; exact ⟨rfl, rfl⟩)
    have ok' : OkS c ⟨S.done, S.opn, 0⟩ := by have q := HP.out.ok.ren; rw [HE.out.2] at q; exact q
    have p1 := HP.out.useT HB.out.2 HB.out.1 ok'
    have nx : Nx wi w1 V V := Nx.same HB.out.2 (fun x hx => ⟨.g, by rw [HP.out.vg]; simp at hx; rw [hx]; rfl⟩)
    have HN := @hideH _ (And.intro p1 nx)
    clear p1 nx ok' ho
    go_upto_region 4 with fail
    rw [← hw1]
    clear hw1
    go_wp2_with fail
    refine (qNumber0 _).mono ?_
    rintro e w2 ⟨rfl, k2⟩
    have HK := @hideH _ k2
    clear k2
    go_wp2
    go_ret
    obtain ⟨F', q1, q2, q3⟩ := Nx.face (S := S) (F := F) HV.out.2.1 HV.out.2.2.1 HV.out.2.2.2 HV.out.1.lt (HN.out.1.then HK.out) (HN.out.2.then HK.out)
    rw [HE.out.1, HE.out.2]
    exact ⟨F', by first | rfl | trivial, q1, q2, q3⟩
  · have HE := @hideH _ (show renE S = 210 ∧ renS S = S by unfold renE renS; rw [if_neg ho, if_neg ho]; exact ⟨rfl, rfl⟩)
    have HN := @hideH _ (qNumber wi HV.out.1 (Er.ref 210) (by omega))
    clear ho
    go_wp2_with fail
    refine HN.out.mono ?_
    rintro e w2 ⟨rfl, k2⟩
    have HK := @hideH _ k2
    clear k2 HN
    go_wp2
    go_ret
    obtain ⟨F', q1, q2, q3⟩ := Nx.face (S := S) (F := F) HV.out.2.1 HV.out.2.2.1 HV.out.2.2.2 HV.out.1.lt (HP.out.then HK.out) (Nx.refl V HK.out)
    rw [HE.out.1, HE.out.2]
    exact ⟨F', by first | rfl | trivial, q1, q2, q3⟩
end Go.Proofs.YtnjfahgmebmakaaGreatDoor

/-
  OWN WORK (by mkppa.py). The landed plain (layer 18): mayBe, New.
-/
namespace Go.Proofs.YtnjfahgmebmakaaGreatDoor
open Go.RowKit Go.Maps
set_option linter.unusedVariables false
set_option linter.unusedSimpArgs false
def iOf2 : Value → Int
  | .int _ q => q
  | _ => 0
set_option maxRecDepth 20000 in
set_option maxHeartbeats 6400000 in
theorem qMay (c : Cf) (w : World) : Calls Tryz.prog 45 #[.agg #[.int .i64 c.pages, .int .i64 c.slots, .int .i64 c.log, .int .i64 c.frames, .int .i64 c.table, .int .i64 c.keys]] w fun e w' => Kept [] w w' ∧ ((mayC c ∧ e = .returned .nilIface) ∨ (¬ mayC c ∧ e = .returned (.iface 119 (.int .i64 260)))) := by
  obtain ⟨w0, hw0⟩ : ∃ wx, wx = w.alloc (.cells #[.int .i64 c.pages, .int .i64 c.slots, .int .i64 c.log, .int .i64 c.frames, .int .i64 c.table, .int .i64 c.keys] 25) := ⟨_, rfl⟩
  have k0 : Kept [] w w0 := by rw [hw0]; exact (Kept.refl [] w).alloc _
  have B0 : Blk w0 w.heap.size 25 [.int .i64 c.pages, .int .i64 c.slots, .int .i64 c.log, .int .i64 c.frames, .int .i64 c.table, .int .i64 c.keys] := by rw [hw0]; exact Blk.new w _ _
  have c0 := B0.cell (j := 0) rfl
  have c1 := B0.cell (j := 1) rfl
  have c2 := B0.cell (j := 2) rfl
  have c3 := B0.cell (j := 3) rfl
  have c4 := B0.cell (j := 4) rfl
  have c5 := B0.cell (j := 5) rfl
  have HK := @hideH _ k0
  clear B0 k0
  by_cases h0 : (1 ≤ c.pages ∧ c.pages ≤ 16)
  rotate_left
  · have d0 : decide (1 ≤ c.pages ∧ c.pages ≤ 16) = false := decide_eq_false h0
    have HN := @hideH _ (show ¬ mayC c from fun q => h0 q.1)
    clear h0
    go_enter Tryz.func45, Tryz.ntmps45
    go_upto_region 1 with fail
    rw [← hw0]
    clear hw0
    go_wp2_with (go_at_call 71; refine (qWithin _ _ _ _).mono ?_; rintro e ww ⟨rfl, rfl⟩; (first | rw [d0]))
    try go_wp2
    go_ret
    exact ⟨HK.out, .inr ⟨HN.out, by first | rfl | trivial⟩⟩
  have d0 : decide (1 ≤ c.pages ∧ c.pages ≤ 16) = true := decide_eq_true h0
  by_cases h1 : (1 ≤ c.slots ∧ c.slots ≤ 8)
  rotate_left
  · have d1 : decide (1 ≤ c.slots ∧ c.slots ≤ 8) = false := decide_eq_false h1
    have HN := @hideH _ (show ¬ mayC c from fun q => h1 q.2.1)
    clear h1
    go_enter Tryz.func45, Tryz.ntmps45
    go_upto_region 1 with fail
    rw [← hw0]
    clear hw0
    go_wp2_with (go_at_call 71; refine (qWithin _ _ _ _).mono ?_; rintro e ww ⟨rfl, rfl⟩; (first | rw [d0] | rw [d1]))
    try go_wp2
    go_ret
    exact ⟨HK.out, .inr ⟨HN.out, by first | rfl | trivial⟩⟩
  have d1 : decide (1 ≤ c.slots ∧ c.slots ≤ 8) = true := decide_eq_true h1
  by_cases h2 : (1024 ≤ c.log ∧ c.log ≤ 65536)
  rotate_left
  · have d2 : decide (1024 ≤ c.log ∧ c.log ≤ 65536) = false := decide_eq_false h2
    have HN := @hideH _ (show ¬ mayC c from fun q => h2 q.2.2.1)
    clear h2
    go_enter Tryz.func45, Tryz.ntmps45
    go_upto_region 1 with fail
    rw [← hw0]
    clear hw0
    go_wp2_with (go_at_call 71; refine (qWithin _ _ _ _).mono ?_; rintro e ww ⟨rfl, rfl⟩; (first | rw [d0] | rw [d1] | rw [d2]))
    try go_wp2
    go_ret
    exact ⟨HK.out, .inr ⟨HN.out, by first | rfl | trivial⟩⟩
  have d2 : decide (1024 ≤ c.log ∧ c.log ≤ 65536) = true := decide_eq_true h2
  by_cases h3 : (2 ≤ c.frames ∧ c.frames ≤ 16)
  rotate_left
  · have d3 : decide (2 ≤ c.frames ∧ c.frames ≤ 16) = false := decide_eq_false h3
    have HN := @hideH _ (show ¬ mayC c from fun q => h3 q.2.2.2.1)
    clear h3
    go_enter Tryz.func45, Tryz.ntmps45
    go_upto_region 1 with fail
    rw [← hw0]
    clear hw0
    go_wp2_with (go_at_call 71; refine (qWithin _ _ _ _).mono ?_; rintro e ww ⟨rfl, rfl⟩; (first | rw [d0] | rw [d1] | rw [d2] | rw [d3]))
    try go_wp2
    go_ret
    exact ⟨HK.out, .inr ⟨HN.out, by first | rfl | trivial⟩⟩
  have d3 : decide (2 ≤ c.frames ∧ c.frames ≤ 16) = true := decide_eq_true h3
  by_cases h4 : (1 ≤ c.table ∧ c.table ≤ 8)
  rotate_left
  · have d4 : decide (1 ≤ c.table ∧ c.table ≤ 8) = false := decide_eq_false h4
    have HN := @hideH _ (show ¬ mayC c from fun q => h4 q.2.2.2.2.1)
    clear h4
    go_enter Tryz.func45, Tryz.ntmps45
    go_upto_region 1 with fail
    rw [← hw0]
    clear hw0
    go_wp2_with (go_at_call 71; refine (qWithin _ _ _ _).mono ?_; rintro e ww ⟨rfl, rfl⟩; (first | rw [d0] | rw [d1] | rw [d2] | rw [d3] | rw [d4]))
    try go_wp2
    go_ret
    exact ⟨HK.out, .inr ⟨HN.out, by first | rfl | trivial⟩⟩
  have d4 : decide (1 ≤ c.table ∧ c.table ≤ 8) = true := decide_eq_true h4
  by_cases h5 : (1 ≤ c.keys ∧ c.keys ≤ 1048576)
  rotate_left
  · have d5 : decide (1 ≤ c.keys ∧ c.keys ≤ 1048576) = false := decide_eq_false h5
    have HN := @hideH _ (show ¬ mayC c from fun q => h5 q.2.2.2.2.2)
    clear h5
    go_enter Tryz.func45, Tryz.ntmps45
    go_upto_region 1 with fail
    rw [← hw0]
    clear hw0
    go_wp2_with (go_at_call 71; refine (qWithin _ _ _ _).mono ?_; rintro e ww ⟨rfl, rfl⟩; (first | rw [d0] | rw [d1] | rw [d2] | rw [d3] | rw [d4] | rw [d5]))
    try go_wp2
    go_ret
    exact ⟨HK.out, .inr ⟨HN.out, by first | rfl | trivial⟩⟩
  have d5 : decide (1 ≤ c.keys ∧ c.keys ≤ 1048576) = true := decide_eq_true h5
  have HY := @hideH _ (show mayC c from ⟨h0, h1, h2, h3, h4, h5⟩)
  clear h0 h1 h2 h3 h4 h5
  go_enter Tryz.func45, Tryz.ntmps45
  go_upto_region 1 with fail
  rw [← hw0]
  clear hw0
  go_wp2_with (go_at_call 71; refine (qWithin _ _ _ _).mono ?_; rintro e ww ⟨rfl, rfl⟩; (first | rw [d0] | rw [d1] | rw [d2] | rw [d3] | rw [d4] | rw [d5]))
  try go_wp2
  go_ret
  exact ⟨HK.out, .inl ⟨HY.out, by first | rfl | trivial⟩⟩
/-- 'make([]values, n)' -/
theorem makeMaps (w : World) (n : Nat) (hc : n ≤ 1000) : (Instr.makeSlice 78 (.int .i64 (n : Int)) (.int .i64 (n : Int))).run Tryz.prog w = .ok (.slice (some ⟨w.heap.size, 0, none⟩) n n) (w.alloc (.cells (madeCells #[.map none] n) 88)) := by
  obtain ⟨i, hi, hz, hsz, hby⟩ := info_parts3 (show (Tryz.prog.info? 88).map (fun i => (i.zero, i.size, i.bytes)) = some (some (.map none), 1, 8) by kernel_rfl)
  have h := run_make (P := Tryz.prog) w 78 88 i (.map none) Tryz.underlying78 hi hz .i64 .i64 (n : Int) (n : Int) (by omega) (by omega) (by rw [hby]; omega) (by omega)
  rw [h, hsz]
  simp [Value.cells]
/-- the first k of n pages have their map -/
def newC (gp k n : Nat) : List Value := (List.range n).map fun i => if i < k then .map (some (gp + 1 + i)) else .map none
theorem newC_step {gp k n : Nat} (hk : k < n) : (newC gp k n).set k (.map (some (gp + 1 + k))) = newC gp (k + 1) n := by
  apply List.ext_getElem (by simp [newC])
  intro i h1 h2
  rw [List.getElem_set]
  simp only [newC, List.getElem_map, List.getElem_range]
  by_cases e : k = i
  · subst e; rw [if_pos rfl, if_pos (by omega)]
  · rw [if_neg e]
    by_cases q : i < k
    · rw [if_pos q, if_pos (by omega)]
    · rw [if_neg q, if_neg (by omega)]
theorem newC_row (w : World) (n : Nat) (hc : n ≤ maxLen) (base : Nat) (hb : base ≤ w.heap.size) : Row (w.alloc (.cells (madeCells #[.map none] n) 88)) base 1 (.slice (some ⟨w.heap.size, 0, none⟩) n n) n (newC w.heap.size 0 n) := by
  have hl : madeCells #[.map none] n = (List.replicate n (Value.map none)).toArray := by
    have h0 : (madeCells #[.map none] n).toList = List.replicate n (.map none) := by rw [toList_madeCells_one]
    rw [← h0]
  rw [hl]
  have hB := Blk.new w 88 (List.replicate n (.map none))
  refine ⟨by simp [newC], fun u hu => ?_, some ⟨w.heap.size, 0, none⟩, n, rfl, Nat.le_refl _, hc, .inr ⟨w.heap.size, rfl, hb, by rw [World.size_alloc]; omega, fun j u hj => ?_, fun j hj => ?_⟩⟩
  · obtain ⟨i, -, e⟩ := List.mem_map.1 hu
    rw [← e]; split <;> rfl
  · obtain ⟨hjl, e⟩ := List.getElem?_eq_some_iff.1 hj
    have hjn : j < n := by simpa [newC] using hjl
    have eu : u = .map none := by rw [← e]; simp [newC]
    rw [eu]
    exact hB.cell (by simp [hjn])
  · have q := hB.cell (j := j) (v := .map none) (by rw [List.getElem?_replicate, if_pos (by omega)])
    exact ⟨by rw [q]; rfl, hB.free j⟩
/-- what stands for the parts of a new State -/
def newV (gp n : Nat) : Tag → Value
  | .g => .pointer (some ⟨gp + n + 2, 0, none⟩)
  | .bp => .slice (some ⟨gp, 0, none⟩) n n
  | .bo => .map (some (gp + n + 1))
  | .vd => .slice none 0 0
  | .pg p => if 0 ≤ p ∧ p < (n : Int) then .map (some (gp + 1 + p.toNat)) else .bool false
  | _ => .bool false
theorem newV_blk {gp n : Nat} {a : Tag} {x : Nat} (h : blkOf (newV gp n a) = some x) : (a = .g ∧ x = gp + n + 2) ∨ (a = .bp ∧ x = gp) ∨ (a = .bo ∧ x = gp + n + 1) ∨ ∃ p, a = .pg p ∧ 0 ≤ p ∧ p < (n : Int) ∧ x = gp + 1 + p.toNat := by
  cases a with
  | g => exact .inl ⟨rfl, (Option.some.inj h).symm⟩
  | bp => exact .inr (.inl ⟨rfl, (Option.some.inj h).symm⟩)
  | bo => exact .inr (.inr (.inl ⟨rfl, (Option.some.inj h).symm⟩))
  | pg p =>
    unfold newV at h
    dsimp only at h
    split at h
    · rename_i q; exact .inr (.inr (.inr ⟨p, rfl, q.1, q.2, (Option.some.inj h).symm⟩))
    · cases h
  | vd => cases h
  | dn j => cases h
  | tx i => cases h
  | hd i => cases h
  | ch i => cases h
  | ow i p => cases h
theorem newV_inj (gp n : Nat) : Inj (gp + n + 3) (newV gp n) := by
  refine ⟨fun a b x ha hb => ?_, fun a x ha => ?_⟩
  · rcases newV_blk ha with ⟨e1, h1⟩ | ⟨e1, h1⟩ | ⟨e1, h1⟩ | ⟨p, e1, p0, p1, h1⟩ <;> rcases newV_blk hb with ⟨e2, h2⟩ | ⟨e2, h2⟩ | ⟨e2, h2⟩ | ⟨q, e2, q0, q1, h2⟩ <;> first | (rw [e1, e2]; done) | (exfalso; omega) | (rw [e1, e2, show p = q by omega])
  · rcases newV_blk ha with ⟨-, h1⟩ | ⟨-, h1⟩ | ⟨-, h1⟩ | ⟨p, -, p0, p1, h1⟩ <;> omega
theorem PpP.made {w : World} {gp n : Nat} {c : Cf} (hc : mayC c) (hn : n = c.pages.toNat) (hs : w.heap.size = gp + n + 3) (hr : Row w 0 1 (.slice (some ⟨gp, 0, none⟩) n n) n (newC gp n n)) (hp : ∀ i, i < n → Vm w (gp + 1 + i) []) (ho : Mp w ptrElem (gp + n + 1) (.int .i64 0) (fun _ => none) [])
    (hb : Blk w (gp + n + 2) 80 [.int .i64 c.pages, .int .i64 c.slots, .int .i64 c.log, .int .i64 c.frames, .int .i64 c.table, .int .i64 c.keys, .slice (some ⟨gp, 0, none⟩) n n, .map (some (gp + n + 1)), .int .i64 0, .slice none 0 0]) : PpP w (newV gp n) (gp + n + 2) c ⟨[], [], 0⟩ := by
  refine ⟨rfl, hb, ?_, fun p p0 p1 => ?_, ⟨gp + n + 1, rfl, ?_⟩, by simp, Row.nil _ _ _, by simp, by rw [hs]; exact newV_inj gp n, OkS.new hc, Ok2.new c⟩
  · rw [← hn]
    have e : newC gp n n = (List.range n).map fun i : Nat => newV gp n (.pg (i : Int)) := by
      unfold newC
      refine List.map_congr_left fun i hi => ?_
      have := List.mem_range.1 hi
      rw [if_pos this]
      simp [newV, this]
    rw [← e]
    exact hr
  · refine ⟨gp + 1 + p.toNat, ?_, hp p.toNat (by omega)⟩
    show (if 0 ≤ p ∧ p < (n : Int) then _ else _) = _
    rw [if_pos ⟨p0, by omega⟩]
  · have e : fO (newV gp n) [] = fun _ => none := by funext i; rfl
    show Mp w ptrElem (gp + n + 1) (.int .i64 0) (fO (newV gp n) []) []
    rw [e]; exact ho
set_option maxRecDepth 20000 in
set_option maxHeartbeats 6400000 in
theorem fNew (c : Cf) (w : World) (hv : Vr w) : Calls Tryz.prog 26 #[.agg #[.int .i64 c.pages, .int .i64 c.slots, .int .i64 c.log, .int .i64 c.frames, .int .i64 c.table, .int .i64 c.keys]] w fun e w' => (mayC c ∧ ∃ g F, e = .returned (.tuple #[.pointer (some ⟨g, 0, none⟩), .int .i64 0]) ∧ Pz w' g F c ⟨[], [], 0⟩ ∧ (∀ x ∈ F, w.heap.size ≤ x) ∧ Kept [] w w') ∨ (¬ mayC c ∧ e = .returned (.tuple #[.pointer none, .int .i64 260]) ∧ Kept [] w w') := by
  obtain ⟨w0, hw0⟩ : ∃ wx, wx = w.alloc (.cells #[.int .i64 c.pages, .int .i64 c.slots, .int .i64 c.log, .int .i64 c.frames, .int .i64 c.table, .int .i64 c.keys] 25) := ⟨_, rfl⟩
  have k0 : Kept [] w w0 := by rw [hw0]; exact (Kept.refl [] w).alloc _
  have B0 : Blk w0 w.heap.size 25 [.int .i64 c.pages, .int .i64 c.slots, .int .i64 c.log, .int .i64 c.frames, .int .i64 c.table, .int .i64 c.keys] := by rw [hw0]; exact Blk.new w _ _
  have c0 := B0.cell (j := 0) rfl
  have c1 := B0.cell (j := 1) rfl
  have c2 := B0.cell (j := 2) rfl
  have c3 := B0.cell (j := 3) rfl
  have c4 := B0.cell (j := 4) rfl
  have c5 := B0.cell (j := 5) rfl
  have HQ := @hideH _ (qMay c w0)
  have HV := @hideH _ (And.intro hv (And.intro k0 B0))
  clear hv k0 B0
  go_enter Tryz.func26, Tryz.ntmps26
  go_upto_region 1 with fail
  rw [← hw0]
  clear hw0
  go_wp2_with fail
  refine HQ.out.mono ?_
  clear HQ
  rintro e w1 ⟨k1, ⟨hm, rfl⟩ | ⟨hm, rfl⟩⟩
  rotate_left
  · have HK := @hideH _ (And.intro hm (HV.out.2.1.then k1))
    have HN := @hideH _ (qNumber w1 (HV.out.1.kept (HV.out.2.1.then k1) (by simp)) (Er.ref 260) (by omega))
    clear hm k1
    go_wp2_with fail
    refine HN.out.mono ?_
    rintro e w2 ⟨rfl, k2⟩
    have HK2 := @hideH _ k2
    clear k2 HN
    go_wp2
    go_ret2
    exact .inr ⟨HK.out.1, by first | rfl | trivial, HK.out.2.then HK2.out⟩
  have B1 := HV.out.2.2.kept k1 (by simp)
  replace c0 := B1.cell (j := 0) rfl
  replace c1 := B1.cell (j := 1) rfl
  replace c2 := B1.cell (j := 2) rfl
  replace c3 := B1.cell (j := 3) rfl
  replace c4 := B1.cell (j := 4) rfl
  replace c5 := B1.cell (j := 5) rfl
  obtain ⟨n, hn⟩ : ∃ n, n = c.pages.toNat := ⟨_, rfl⟩
  have hn16 : 1 ≤ n ∧ n ≤ 16 := by have := hm.1; omega
  have hcn : c.pages = (n : Int) := by have := hm.1; omega
  rw [hcn] at c0
  have hmk := makeMaps w1 n (by omega)
  obtain ⟨w2, hw2⟩ : ∃ wx, wx = w1.alloc (.cells (madeCells #[.map none] n) 88) := ⟨_, rfl⟩
  have r2 := newC_row w1 n (by unfold maxLen; omega) 0 (Nat.zero_le _)
  have k2 : Kept [] w1 w2 := by rw [hw2]; exact (Kept.refl [] w1).alloc _
  have z2 : w2.heap.size = w1.heap.size + 1 := by rw [hw2, World.size_alloc]
  rw [← hw2] at r2 hmk
  obtain ⟨gp, hgp⟩ : ∃ gp, gp = w1.heap.size := ⟨_, rfl⟩
  rw [← hgp] at r2 hmk z2
  have HG := @hideH _ (And.intro hgp (And.intro hn (And.intro hm (And.intro hn16 hcn))))
  have H2 := @hideH _ (And.intro r2 (And.intro ((HV.out.2.1.then k1).then k2) (And.intro z2 (B1.kept k2 (by simp)))))
  have hnl : ((n : Nat) : Int) = (n : Int) := rfl
  have HWG := @hideH _ (show w.heap.size < gp by rw [hgp]; exact B1.lt)
  clear r2 k1 k2 z2 hw2 hm hn hgp hn16 hcn B1 hnl
  go_wp2
  go_loopw [19] (fun vi wr => ∃ k : Nat, k ≤ n ∧ vi = .int .i64 k ∧ Hid (Row wr 0 1 (.slice (some ⟨gp, 0, none⟩) n n) n (newC gp k n) ∧ Kept [] w wr ∧ wr.heap.size = gp + 1 + k ∧ (∀ i, i < k → Vm wr (gp + 1 + i) []) ∧ Blk wr w.heap.size 25 [.int .i64 c.pages, .int .i64 c.slots, .int .i64 c.log, .int .i64 c.frames, .int .i64 c.table, .int .i64 c.keys])) (fun vi _ => n - (iOf2 vi).toNat)
  case atStart => exact ⟨0, Nat.zero_le _, rfl, H2.out.1, H2.out.2.1, by have := H2.out.2.2.1; omega, fun i hi => by omega, H2.out.2.2.2⟩
  case round =>
    obtain ⟨k, hk, rfl, hh⟩ := hrel
    have hwg : w.heap.size < gp := HWG.out
    by_cases hkn : k < n
    · have hkn' : (k : Int) < (n : Int) := by omega
      have hk0 : (0 : Int) ≤ (k : Int) := by omega
      have wk : IntKind.i64.wrap ((k : Int) + 1) = (k : Int) + 1 := wrap_i64_of (by omega) (by have := HG.out.2.2.2.1; omega)
      obtain ⟨w3, hw3⟩ : ∃ wx, wx = wr.alloc (.map #[] 0) := ⟨_, rfl⟩
      have k3 : Kept [] wr w3 := by rw [hw3]; exact (Kept.refl [] wr).alloc _
      have v3 : Vm w3 wr.heap.size [] := by rw [hw3]; exact Vm.made wr
      have hmm : (Instr.makeMap 88 none).run Tryz.prog wr = .ok (.map (some wr.heap.size)) w3 := by rw [hw3]; rfl
      have z3 : w3.heap.size = wr.heap.size + 1 := by rw [hw3, World.size_alloc]
      have r3 := hh.out.1.kept k3 (by simp)
      obtain ⟨r4, k4⟩ := r3.set k (by omega) (.map (some wr.heap.size)) rfl
      obtain ⟨g', e', -, -, h8, h9⟩ := Row.pos r3 (by omega)
      cases e'
      obtain ⟨ov, hov⟩ : ∃ ov, (newC gp k n)[k]? = some ov := ⟨_, List.getElem?_eq_getElem (by simp [newC]; exact hkn)⟩
      have cj := h8 k ov hov
      have fj := (h9 k (by omega)).2
      obtain ⟨w4, hw4⟩ : ∃ wx, wx = w3.setCell ⟨gp, k, none⟩ (.map (some wr.heap.size)) := ⟨_, rfl⟩
      rw [← hw4] at r4 k4
      have hsz := hh.out.2.2.1
      rw [show (newC gp k n).set k (.map (some wr.heap.size)) = newC gp (k + 1) n by rw [hsz]; exact newC_step hkn] at r4
      have HA := @hideH _ (show Row w4 0 1 (.slice (some ⟨gp, 0, none⟩) n n) n (newC gp (k + 1) n) ∧ Kept [] w w4 ∧ w4.heap.size = gp + 1 + (k + 1) ∧ (∀ i, i < k + 1 → Vm w4 (gp + 1 + i) []) ∧ Blk w4 w.heap.size 25 [.int .i64 c.pages, .int .i64 c.slots, .int .i64 c.log, .int .i64 c.frames, .int .i64 c.table, .int .i64 c.keys] from by
        refine ⟨r4, (hh.out.2.1.then k3).trans k4 (fun z hz => .inr (by simp at hz; omega)), ?_, fun i hi => ?_, (hh.out.2.2.2.2.kept k3 (by simp)).kept k4 (by simp; omega)⟩
        · rw [hw4]; simp [World.setCell]; omega
        · by_cases q : i = k
          · subst q
            have v4 := v3.kept k4 (by simp; omega)
            rw [hsz] at v4
            exact v4
          · exact ((hh.out.2.2.2.1 i (by omega)).kept k3 (by simp)).kept k4 (by simp; omega))
      clear hh k3 v3 z3 r3 r4 k4 h8 h9 hov hsz hw3
      go_wp2
      rw [← hw4]
      try go_wp2
      go_roundw
      case rel => exact ⟨k + 1, by omega, by go_num, HA.out⟩
      case measure => first | (simp [iOf2]; done) | (simp [iOf2]; omega)
    · obtain rfl : k = n := by omega
      have hB := hh.out.2.2.2.2
      replace c0 := hB.cell (j := 0) rfl
      replace c1 := hB.cell (j := 1) rfl
      replace c2 := hB.cell (j := 2) rfl
      replace c3 := hB.cell (j := 3) rfl
      replace c4 := hB.cell (j := 4) rfl
      replace c5 := hB.cell (j := 5) rfl
      have hsz := hh.out.2.2.1
      obtain ⟨w3, hw3⟩ : ∃ wx, wx = wr.alloc (.map #[] 0) := ⟨_, rfl⟩
      have k3 : Kept [] wr w3 := by rw [hw3]; exact (Kept.refl [] wr).alloc _
      have m3 : Mp w3 ptrElem wr.heap.size (.int .i64 0) (fun _ => none) [] := by rw [hw3]; exact Mp.made wr _ _
      have hmm : (Instr.makeMap 76 none).run Tryz.prog wr = .ok (.map (some wr.heap.size)) w3 := by rw [hw3]; rfl
      have z3 : w3.heap.size = wr.heap.size + 1 := by rw [hw3, World.size_alloc]
      obtain ⟨w4, hw4⟩ : ∃ wx, wx = w3.alloc (.cells #[.int .i64 c.pages, .int .i64 c.slots, .int .i64 c.log, .int .i64 c.frames, .int .i64 c.table, .int .i64 c.keys, .slice (some ⟨gp, 0, none⟩) k k, .map (some wr.heap.size), .int .i64 0, .slice none 0 0] 80) := ⟨_, rfl⟩
      have k4 : Kept [] w3 w4 := by rw [hw4]; exact (Kept.refl [] w3).alloc _
      have b4 : Blk w4 w3.heap.size 80 [.int .i64 c.pages, .int .i64 c.slots, .int .i64 c.log, .int .i64 c.frames, .int .i64 c.table, .int .i64 c.keys, .slice (some ⟨gp, 0, none⟩) k k, .map (some wr.heap.size), .int .i64 0, .slice none 0 0] := by rw [hw4]; exact Blk.new w3 _ _
      have z4 : w4.heap.size = w3.heap.size + 1 := by rw [hw4, World.size_alloc]
      rw [hsz] at m3 b4 z3
      rw [show w3.heap.size = gp + k + 2 by omega, show gp + 1 + k = gp + k + 1 by omega] at b4
      rw [show gp + 1 + k = gp + k + 1 by omega] at m3
      have k34 := k3.then k4
      have PP := PpP.made (w := w4) (gp := gp) (n := k) (c := c) HG.out.2.2.1 HG.out.2.1 (by omega) (hh.out.1.kept k34 (by simp)) (fun i hi => (hh.out.2.2.2.1 i hi).kept k34 (by simp)) (m3.kept k4 (by simp)) b4
      have HF := @hideH _ (And.intro PP (And.intro (hh.out.2.1.then k34) (And.intro hwg (show w4.heap.size = gp + k + 3 by omega))))
      have z5 : w3.heap.size = gp + k + 2 := by omega
      have hw4' : w3.alloc (.cells #[.int .i64 (k : Int), .int .i64 c.slots, .int .i64 c.log, .int .i64 c.frames, .int .i64 c.table, .int .i64 c.keys, .slice (some ⟨gp, 0, none⟩) k k, .map (some (gp + 1 + k)), .int .i64 0, .slice none 0 0] 80) = w4 := by rw [hw4, hsz, HG.out.2.2.2.2]
      have hkp : c.pages = (k : Int) := HG.out.2.2.2.2
      clear hh hB k3 m3 z3 k4 b4 z4 k34 PP hw3 hw4 H2
      go_wp2
      try rw [hw4']
      try go_wp2
      go_ret2
      refine .inl ⟨HG.out.2.2.1, gp + k + 2, grownF w w4 [], by first | rfl | (rw [z5]) | simp [z5], ⟨newV gp k, HF.out.1, fun a x hx => mem_grownF.2 (.inr ?_), fun x hx => ?_, fun hx => ?_⟩, fun x hx => ?_, HF.out.2.1⟩
      · have h1 := HF.out.1.inj.lt a x hx
        refine ⟨?_, h1⟩
        rcases newV_blk hx with ⟨-, q⟩ | ⟨-, q⟩ | ⟨-, q⟩ | ⟨p, -, p0, p1, q⟩ <;> omega
      · rcases mem_grownF.1 hx with q | q
        · simp at q
        · exact q.2
      · rcases mem_grownF.1 hx with q | q
        · simp at q
        · have := HV.out.1.lt; omega
      · rcases mem_grownF.1 hx with q | q
        · simp at q
        · exact q.1
end Go.Proofs.YtnjfahgmebmakaaGreatDoor

