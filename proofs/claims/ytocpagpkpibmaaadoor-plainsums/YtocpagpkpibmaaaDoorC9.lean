import Derived.Deep.RegionHeld3
import Derived.Test.YtocpagpkpibmaaaDoorRows
import Derived.Test.YtocpagpkpibmaaaDoorCards
import Derived.Test.YtocpagpkpibmaaaDoorTie
import Derived.SevenTiedAt
import Derived.Handed
import Derived.Test.YtocpagpkpibmaaaDoorC8
/-
  OWN WORK. The landed plain (layer 18): how its State lies behind a commit.
-/
namespace Go.Proofs.YtocpagpkpibmaaaDoor
open Go.RowKit Go.Maps
set_option linter.unusedVariables false
set_option linter.unusedSimpArgs false
/-- what stands for the parts behind a commit of t -/
def comV (V : Tag → Value) (t : Tn) (len : Nat) (vd : Value) : Tag → Value
  | .vd => vd
  | .pg p => if p ∈ t.pages then V (.ow t.id p) else V (.pg p)
  | .dn j => if j = len then V (.ch t.id) else V (.dn j)
  | .tx i => if i = t.id then .bool false else V (.tx i)
  | .hd i => if i = t.id then .bool false else V (.hd i)
  | .ch i => if i = t.id then .bool false else V (.ch i)
  | .ow i p => if i = t.id then .bool false else V (.ow i p)
  | a => V a
def comI (t : Tn) (len : Nat) : Tag → Tag
  | .ow i p => if i = t.id then .pg p else .ow i p
  | .ch i => if i = t.id then .dn len else .ch i
  | a => a
theorem comV_from (V : Tag → Value) (t : Tn) (len : Nat) (vd : Value) {a : Tag} {x : Nat} (h : blkOf (comV V t len vd a) = some x) (ha : a ≠ .vd) : ∃ a', blkOf (V a') = some x ∧ comI t len a' = a ∧ a' ≠ .vd := by
  cases a with
  | vd => exact absurd rfl ha
  | g => exact ⟨.g, h, rfl, by simp⟩
  | bp => exact ⟨.bp, h, rfl, by simp⟩
  | bo => exact ⟨.bo, h, rfl, by simp⟩
  | pg p =>
    unfold comV at h
    dsimp only at h
    split at h
    · exact ⟨.ow t.id p, h, by simp [comI], by simp⟩
    · exact ⟨.pg p, h, rfl, by simp⟩
  | dn j =>
    unfold comV at h
    dsimp only at h
    split at h
    · rename_i e; exact ⟨.ch t.id, h, by simp [comI, e], by simp⟩
    · exact ⟨.dn j, h, rfl, by simp⟩
  | tx i =>
    unfold comV at h
    dsimp only at h
    split at h
    · cases h
    · exact ⟨.tx i, h, rfl, by simp⟩
  | hd i =>
    unfold comV at h
    dsimp only at h
    split at h
    · cases h
    · exact ⟨.hd i, h, rfl, by simp⟩
  | ch i =>
    unfold comV at h
    dsimp only at h
    split at h
    · cases h
    · rename_i e; exact ⟨.ch i, h, by simp [comI, e], by simp⟩
  | ow i p =>
    unfold comV at h
    dsimp only at h
    split at h
    · cases h
    · rename_i e; exact ⟨.ow i p, h, by simp [comI, e], by simp⟩
theorem comV_inj {N N' : Nat} {V : Tag → Value} (h : Inj N V) (t : Tn) (len : Nat) {vd : Value} (hN : N ≤ N') (hv : ∀ x, blkOf vd = some x → (N ≤ x ∧ x < N') ∨ blkOf (V .vd) = some x) : Inj N' (comV V t len vd) := by
  have apart : ∀ a x, a ≠ .vd → blkOf (comV V t len vd a) = some x → blkOf vd ≠ some x := fun a x ha hx q => by
    obtain ⟨a', h1, -, h3⟩ := comV_from V t len vd hx ha
    rcases hv x q with r | r
    · have := h.lt _ _ h1; omega
    · exact h3 (h.inj _ _ _ h1 r)
  refine ⟨fun a b x ha hb => ?_, fun a x ha => ?_⟩
  · by_cases e1 : a = .vd
    · by_cases e2 : b = .vd
      · rw [e1, e2]
      · rw [e1] at ha
        exact absurd ha (apart b x e2 hb)
    · by_cases e2 : b = .vd
      · rw [e2] at hb
        exact absurd hb (apart a x e1 ha)
      · obtain ⟨a', h1, h2, -⟩ := comV_from V t len vd ha e1
        obtain ⟨b', h3, h4, -⟩ := comV_from V t len vd hb e2
        rw [← h2, ← h4, h.inj _ _ _ h1 h3]
  · by_cases e1 : a = .vd
    · rw [e1] at ha
      rcases hv x ha with r | r
      · exact r.2
      · have := h.lt _ _ r; omega
    · obtain ⟨a', h1, -, -⟩ := comV_from V t len vd ha e1
      have := h.lt _ _ h1; omega
theorem PpP.com {w w' : World} {V : Tag → Value} {g : Nat} {c : Cf} {S : St} (h : PpP w V g c S) {k : Nat} {t : Tn} (hk : S.opn[k]? = some t) {bo n : Nat} {D : DataW Unit} {vd : Value} {X : List Nat} (hbo : V .bo = .map (some bo)) (kk : Kept X w w') (hX : ∀ y ∈ X, w.heap.size ≤ y ∨ blkOf (V .g) = some y ∨ blkOf (V .bo) = some y ∨ blkOf (V .bp) = some y ∨ blkOf (V .vd) = some y)
    (hpgs : Row w' 0 1 (V .bp) c.pages.toNat ((List.range c.pages.toNat).map fun i : Nat => if (i : Int) ∈ t.pages then V (.ow t.id (i : Int)) else V (.pg (i : Int)))) (hdn : Row w' 0 1 vd (S.done.length + 1) ((List.range S.done.length).map (fun j => V (.dn j)) ++ [V (.ch t.id)])) (hvd : blkOf vd = blkOf (V .vd) ∨ ∃ z, blkOf vd = some z ∧ w.heap.size ≤ z ∧ z < w'.heap.size)
    (hb : Blk w' g 77 [.int .i64 c.pages, .int .i64 c.slots, .int .i64 c.log, .int .i64 c.frames, .int .i64 c.table, .int .i64 c.keys, V .bp, V .bo, .int .i64 (S.used + 66), vd]) (hT : Tel D (.int .i64 0) (fO V S.opn)) (ho : w'.ownsMap Tryd.prog 3 ptrElem bo n (D.del (.int .i64 t.id))) :
    ∃ V', PpP w' V' g c ⟨S.done ++ [t.chs], S.opn.eraseIdx k, S.used + 66⟩ ∧ Nx w w' V V' := by
  have hm := List.mem_of_getElem? hk
  have hT1 := h.txs t hm
  have out : ∀ a y, a ≠ .g → a ≠ .bo → a ≠ .bp → a ≠ .vd → blkOf (V a) = some y → y ∉ X := fun a y a1 a2 a3 a4 hy hy' => by
    rcases hX y hy' with q | q | q | q | q
    · have := h.inj.lt _ _ hy; omega
    · exact a1 (h.inj.inj _ _ _ hy q)
    · exact a2 (h.inj.inj _ _ _ hy q)
    · exact a3 (h.inj.inj _ _ _ hy q)
    · exact a4 (h.inj.inj _ _ _ hy q)
  have hvd' : ∀ x, blkOf vd = some x → (w.heap.size ≤ x ∧ x < w'.heap.size) ∨ blkOf (V .vd) = some x := fun x hx => by
    rcases hvd with q | ⟨z, q1, q2⟩
    · exact .inr (by rw [← q]; exact hx)
    · rw [q1] at hx; cases hx; exact .inl q2
  have hok := h.ok.commit hk
  have hst : ∀ a, ofT t.id a = false → a ≠ .vd → (∀ p, a ≠ .pg p) → (∀ j, a ≠ .dn j) → comV V t S.done.length vd a = V a := fun a h1 h2 h3 h4 => by
    cases a <;> simp [ofT, comV] at * <;> simp_all
  refine ⟨comV V t S.done.length vd, ⟨h.vg, hb, hpgs, fun p p0 p1 => ?_, ⟨bo, hbo, Mp.of ho ((hT.del t.id).congr fun j => ?_) ?_⟩, fun x hx => ?_, ?_, fun j l hj => ?_, comV_inj h.inj t _ kk.size hvd', hok, h.ok2.erase k _ _⟩, fun a y ha => ?_, X.filter (fun z => decide (z < w.heap.size)), ?_, fun z hz => ?_⟩
  · show ∃ b, (if p ∈ t.pages then V (.ow t.id p) else V (.pg p)) = .map (some b) ∧ Vm w' b (pgD c ⟨S.done ++ [t.chs], S.opn.eraseIdx k, S.used + 66⟩ p)
    rw [pgD_commit]
    by_cases q : p ∈ t.pages
    · obtain ⟨o, e, ho'⟩ := hT1.own p q
      exact ⟨o, by rw [if_pos q]; exact e, ho'.kept kk (out (.ow t.id p) o (by simp) (by simp) (by simp) (by simp) (by rw [e]; rfl))⟩
    · obtain ⟨b, e, hb'⟩ := h.pg p p0 p1
      rw [pgT_new (h.ok2.on t hm) q]
      exact ⟨b, by rw [if_neg q]; exact e, hb'.kept kk (out (.pg p) b (by simp) (by simp) (by simp) (by simp) (by rw [e]; rfl))⟩
  · show _ = fO (comV V t S.done.length vd) (S.opn.eraseIdx k) j
    unfold fO
    rw [ids_erase h.ok.dif hk]
    by_cases q : j = t.id
    · rw [if_pos q, q]; simp
    · rw [if_neg q, show comV V t S.done.length vd (.tx j) = V (.tx j) by simp [comV, q]]; simp [q]
  · refine ⟨List.pairwise_map.2 hok.dif, fun j => ?_, fun j hj => ?_⟩
    · show j ∈ (S.opn.eraseIdx k).map Tn.id ↔ _
      rw [← findO_mem]
      unfold fO
      split <;> simp_all
    · obtain ⟨x, hx, rfl⟩ := List.mem_map.1 hj
      exact h.id64 (mem_erase h.ok.dif hk hx).1
  · have hx' := mem_erase h.ok.dif hk hx
    have q := (h.txs x hx'.1).kept kk (fun a y ha hy => out a y (by intro e; subst e; cases ha) (by intro e; subst e; cases ha) (by intro e; subst e; cases ha) (by intro e; subst e; cases ha) hy)
    exact q.congr (fun a ha => hst a (ofT_other ha hx'.2) (by intro e; subst e; cases ha) (by intro p e; subst e; cases ha) (by intro p e; subst e; cases ha)) (fun p hp => pgT_commit h.ok2 hm hx'.1 (Ne.symm hx'.2) hp)
  · show Row w' 0 1 vd (S.done ++ [t.chs]).length ((List.range (S.done ++ [t.chs]).length).map fun j => comV V t S.done.length vd (.dn j))
    rw [List.length_append, show [t.chs].length = 1 from rfl, List.range_succ, List.map_append]
    have e : (List.range S.done.length).map (fun j => comV V t S.done.length vd (.dn j)) = (List.range S.done.length).map (fun j => V (.dn j)) := List.map_congr_left fun j hj => by
      have := List.mem_range.1 hj
      simp [comV]; omega
    rw [e]
    simpa [comV] using hdn
  · show Cs w' 0 (if j = S.done.length then V (.ch t.id) else V (.dn j)) l
    by_cases q : j = S.done.length
    · rw [if_pos q]
      have el : l = t.chs := by
        have hj' : (S.done ++ [t.chs])[j]? = some l := hj
        rw [q, List.getElem?_append_right (Nat.le_refl _)] at hj'
        simpa using hj'.symm
      rw [el]
      exact hT1.chs.kept kk (fun y hy => out (.ch t.id) y (by simp) (by simp) (by simp) (by simp) (by rw [Row.blkOf hT1.chs]; exact hy))
    · rw [if_neg q]
      have hj' : (S.done ++ [t.chs])[j]? = some l := hj
      have hlt : j < S.done.length := by
        have := (List.getElem?_eq_some_iff.1 hj').1
        simp at this
        omega
      rw [List.getElem?_append_left hlt] at hj'
      have r := h.dns j l hj'
      exact r.kept kk (fun y hy => out (.dn j) y (by simp) (by simp) (by simp) (by simp) (by rw [Row.blkOf r]; exact hy))
  · by_cases e1 : a = .vd
    · rw [e1] at ha
      rcases hvd' y ha with r | r
      · exact .inr r.1
      · exact .inl ⟨_, r⟩
    · obtain ⟨a', h1, -, -⟩ := comV_from V t _ vd ha e1
      exact .inl ⟨_, h1⟩
  · refine ⟨kk.os, kk.tape, kk.output, kk.size, fun z hz hn => kk.block z hz (fun q => hn (List.mem_filter.2 ⟨q, by simpa using hz⟩))⟩
  · obtain ⟨q1, q2⟩ := List.mem_filter.1 hz
    have hlt : z < w.heap.size := by simpa using q2
    rcases hX z q1 with r | r | r | r | r
    · omega
    · exact ⟨_, r⟩
    · exact ⟨_, r⟩
    · exact ⟨_, r⟩
    · exact ⟨_, r⟩
end Go.Proofs.YtocpagpkpibmaaaDoor

/-
  OWN WORK (by mkpp7.py). The landed plain (layer 18): commit.
-/
namespace Go.Proofs.YtocpagpkpibmaaaDoor
open Go.RowKit Go.Maps
set_option linter.unusedVariables false
set_option linter.unusedSimpArgs false
section
variable {P : Program} (w : World) {ops : Array Oper} {rest : List Oper} {o : Oper} {a : Act} {Q : Exit → Act → World → Prop}
/-- the next map of a map of maps, none of them nil -/
theorem wpList_next_map (hg : o.guard = none) (it : Operand) (hop : o.op = Op.next it false) (k : TypeId) (K : Keyed P k) (hk : P.underlying k = some (.int .i64))
    (b r n : Nat) (D : DataW Unit) (left : Lit → Bool) (cnt : Nat) (hit : a.eval it = .pointer (some ⟨r, 0, none⟩)) (h : w.ranges P k mapElem b r n D left cnt)
    (hne : ∀ x, I64 x → left (.int .i64 x) = true → D.atKey (.int .i64 x) (.lit (.int .i64 0)) ≠ .lit (.int .i64 0))
    (hDone : cnt = 0 → (∀ kl, left kl = false) → wpList P ops Q rest (a.put o.dst (.tuple #[.bool false])) w)
    (hMore : ∀ (x : Int) (s : Nat) (w' : World) (cnt' : Nat), I64 x → left (.int .i64 x) = true → D.atKey (.int .i64 x) (.lit (.int .i64 0)) = .lit (.int .i64 ((s : Int) + 1)) → w'.ranges P k mapElem b r n D (fun z => left z && !z.sameKey (.int .i64 x)) cnt' → cnt' < cnt →
      w.grownBy w' (some r) → w'.heap.size = w.heap.size → (Instr.entry (.pointer (some ⟨r, 0, none⟩))).run P w' = .ok (.tuple #[.int .i64 x, .map (some s)]) w' → wpList P ops Q rest (a.put o.dst (.tuple #[.bool true, .int .i64 x, .map (some s)])) w') :
    wpList P ops Q (o :: rest) a w :=
  wpList_next_ranges w hg it hop k K mapElem (Value.int .i64) Value.map (fun key kl hkey => by obtain ⟨x, rfl, _⟩ := Maps.keyOf_int_inv hk hkey; exact ⟨x, rfl⟩) (fun v y hv => by
      unfold mapElem at hv
      split at hv
      · exact ⟨none, rfl⟩
      · rename_i b; exact ⟨some b, rfl⟩
      · cases hv)
    b r n D left cnt hit h hDone (fun x c kl y w' cnt' hkey hlk hv hat hrg hlt hgr hsz hen => by
      obtain ⟨x', ex, rfl, hwx⟩ := Maps.keyOf_int_inv hk hkey
      cases ex
      have hi := i64_wf15 hwx
      cases c with
      | none =>
        have e : y.1 = .lit (.int .i64 0) := by
          rw [mapElem_zero] at hv
          rw [← Option.some.inj hv]
        exact absurd ((hat _).trans e) (hne x hi hlk)
      | some s =>
        have e : y.1 = .lit (.int .i64 ((s : Int) + 1)) := by
          rw [mapElem_some] at hv
          rw [← Option.some.inj hv]
        exact hMore x s w' cnt' hi hlk ((hat _).trans e) hrg hlt hgr hsz hen)
end
/-- the pages' row while a commit goes over what one held -/
def comC (V : Tag → Value) (t : Tn) (left : Lit → Bool) (n : Nat) : List Value := (List.range n).map fun i : Nat => if (i : Int) ∈ t.pages ∧ come left (i : Int) = true then V (.ow t.id (i : Int)) else V (.pg (i : Int))
theorem comC_len (V : Tag → Value) (t : Tn) (left : Lit → Bool) (n : Nat) : (comC V t left n).length = n := by simp [comC]
theorem comC_step {V : Tag → Value} {t : Tn} {left : Lit → Bool} {n j : Nat} (hj : j < n) (hp : (j : Int) ∈ t.pages) : (comC V t left n).set j (V (.ow t.id (j : Int))) = comC V t (fun z => left z && !z.sameKey (.int .i64 (j : Int))) n := by
  apply List.ext_getElem (by simp [comC])
  intro i h1 h2
  rw [List.getElem_set]
  have hi : i < n := by simpa [comC] using h2
  simp only [comC, List.getElem_map, List.getElem_range, come_step]
  by_cases e : j = i
  · subst e
    rw [if_pos rfl, if_pos ⟨hp, by simp⟩]
  · have ne : ((i : Int) == (j : Int)) = false := by simp; omega
    rw [if_neg e]
    simp [ne]
theorem comC_old {V : Tag → Value} {t : Tn} {left : Lit → Bool} {n j : Nat} (hj : j < n) : ∃ v, (comC V t left n)[j]? = some v := ⟨_, List.getElem?_eq_getElem (by rw [comC_len]; exact hj)⟩
theorem srcS {P : Program} (w : World) (t e : TypeId) (ht : P.underlying t = some (.slice e)) (p : Option Addr) (n c : Nat) : Src P 1 t (.slice (some ⟨w.heap.size, 0, none⟩) 1 1) 1 [.slice p n c] (w.alloc (.cells #[.slice p n c] e)) := by
  refine Src.ofSlice _ ht _ _ _ _ rfl (fun j u hj => ?_) (fun u hu => ?_)
  · rw [add_none rfl]
    have q := (Blk.new w e [.slice p n c]).cell hj
    simpa using q
  · simp at hu
    subst hu
    rfl
set_option maxRecDepth 20000 in
set_option maxHeartbeats 6400000 in
theorem qCommit {V : Tag → Value} {g : Nat} {c : Cf} {S : St} (id : Int) (w : World) (h : PpP w V g c S) (hs : S.done.length ≤ 3600000000000) (hi : I64 id) : Calls Tryd.prog 40 #[.pointer (some ⟨g, 0, none⟩), .int .i64 id] w fun e w' => ∃ V' v, e = .returned v ∧ ErOk (endE S id) v ∧ PpP w' V' g c (comS S id) ∧ Nx w w' V V' := by
  have HP := @hideH _ h
  have HF := @hideH _ (qFind id w h hi)
  have HSM := @hideH _ hs
  clear h hs
  go_enter Tryd.func40, Tryd.ntmps40
  go_wp2_with fail
  refine HF.out.mono ?_
  clear HF
  rintro e wf ⟨rfl, ⟨hf, rfl⟩ | ⟨t, x, hf, hx, rfl⟩⟩
  · have HE := @hideH _ (And.intro (abo_none hf).1 (abo_none hf).2.2)
    clear hf
    go_wp2_with fail
    refine (qWrap _ _ _ _).mono ?_
    rintro e wv ⟨rfl, rfl⟩
    go_wp2
    go_ret
    rw [HE.out.1, HE.out.2]
    exact ⟨V, _, by first | rfl | trivial, .inr ⟨by decide, 1, by omega, by first | exact Er.wrap _ (Er.ref 160) | simpa using Er.wrap _ (Er.ref 160)⟩, HP.out, Nx.refl V (Kept.refl _ _)⟩
  obtain ⟨kx, hkx⟩ := HP.out.idx hf
  obtain ⟨hm, hid⟩ := findO_some hf
  have HE := @hideH _ (abo_some HP.out.ok hkx hf)
  have T := HP.out.txs t hm
  obtain ⟨x', ex, hbx⟩ := T.box
  have exx : V (.tx t.id) = .pointer (some ⟨x, 0, none⟩) := by rw [hid]; exact hx
  obtain rfl : x = x' := by rw [exx] at ex; simpa using ex
  obtain ⟨hd, ehd, D, hO, hT, hK⟩ := T.hd
  rw [ehd] at hbx
  have c0 := hbx.cell (j := 0) rfl
  have B := HP.out.box
  obtain ⟨pp, cp, epp, hncp, hcmp⟩ := HP.out.pgs.shape
  have hpgs := HP.out.pgs
  rw [epp] at hpgs
  have hpos : 0 < c.pages.toNat := by have := HP.out.ok.may.1; omega
  obtain ⟨gp, rfl, -, hgpl, -, -⟩ := Row.pos hpgs hpos
  have B' := B
  rw [epp] at B'
  have c6 := B'.cell (j := 6) rfl
  have vbp : blkOf (V .bp) = some gp := by rw [epp]; rfl
  have vg : blkOf (V .g) = some g := by rw [HP.out.vg]; rfl
  have vx : blkOf (V (.tx t.id)) = some x := by rw [exx]; rfl
  have vh : blkOf (V (.hd t.id)) = some hd := by rw [ehd]; rfl
  have ggp : g ≠ gp := fun q => by rw [← q] at vbp; have := HP.out.inj.inj _ _ _ vg vbp; cases this
  have xgp : x ≠ gp := fun q => by rw [← q] at vbp; have := HP.out.inj.inj _ _ _ vx vbp; cases this
  have hgp : hd ≠ gp := fun q => by rw [← q] at vbp; have := HP.out.inj.inj _ _ _ vh vbp; cases this
  have hdl := hO.lt
  have HX := @hideH _ (And.intro hkx (And.intro hm (And.intro hid (And.intro exx (And.intro T (And.intro B (And.intro epp vbp)))))))
  have HTT := @hideH _ (And.intro hT (And.intro hK ehd))
  have HBX := @hideH _ hbx
  have HPG := @hideH _ hpgs
  obtain ⟨N, hN⟩ : ∃ N, N = c.pages.toNat := ⟨_, rfl⟩
  have HN := @hideH _ hN
  have HCP := @hideH _ (show N ≤ cp by rw [hN]; exact hncp)
  rw [← hN] at c6 HPG
  obtain ⟨m, hmm⟩ : ∃ m, m = t.pages.length := ⟨_, rfl⟩
  rw [← hmm] at hO
  clear hf hkx hm exx ex T hT hK B B' hpgs epp vbp vg vx vh hmm hpos hncp hcmp hN hbx hx
  go_wp2_with (at_range; refine wpList_range_own _ rfl _ 79 rfl 3 59 keyL Tryd.underlying79 _ hd m D rfl hO ?_; intro w0 hrg0 hg0 hs0)
  go_frame
  have k0 : Kept [] wf w0 := (Kept.refl [] wf).grown hg0 (fun k hk => by cases hk)
  go_loopw [7] (fun _ wr => ∃ (left : Lit → Bool) (cnt : Nat), Hid (wr.ranges Tryd.prog 3 mapElem hd wf.heap.size m D left cnt ∧ Kept [gp] wf wr ∧ (∀ k, left k = true → Maps.has D k = true) ∧ Row wr 0 1 (.slice (some ⟨gp, 0, none⟩) N cp) N (comC V t left N))) (fun _ wr => wr.rangeLeft hd wf.heap.size)
  case atStart =>
    refine ⟨_, _, hrg0, k0.mono (by simp), fun k hk => hk, ?_⟩
    have e : comC V t (Maps.has D) N = (List.range N).map fun i : Nat => V (.pg (i : Int)) := by
      unfold comC
      refine List.map_congr_left fun i hi => ?_
      rw [if_neg]
      rintro ⟨q1, q2⟩
      have hib := HX.out.2.2.2.2.1.own (i : Int) q1
      have hi64 : I64 (i : Int) := by
        have := ((HP.out.ok.tns t HX.out.2.1).pgs.2 (i : Int) q1)
        have := HP.out.ok.may.1
        exact ⟨by omega, by omega⟩
      unfold come at q2
      rw [HTT.out.1.has (i : Int) hi64, fH_there q1] at q2
      cases q2
    rw [e]
    have q := HPG.out.kept k0 (by simp)
    rw [HN.out] at q ⊢
    exact q
  case round =>
    clear hrg0 hg0 hs0 k0
    obtain ⟨left, cnt, hh⟩ := hrel
    have hrg := hh.out.1
    have hnz : ∀ x, I64 x → left (.int .i64 x) = true → D.atKey (.int .i64 x) (.lit (.int .i64 0)) ≠ .lit (.int .i64 0) := fun x hx hl => by
      have q := hh.out.2.2.1 _ hl
      rw [HTT.out.1.has x hx] at q
      rw [HTT.out.1.atk x hx]
      by_cases r : x ∈ t.pages
      · rw [fH_there r]; simp; omega
      · rw [fH_gone r] at q; cases q
    have HNZ := @hideH _ hnz
    clear hnz
    go_wp2_with (at_next; refine wpList_next_map _ rfl _ rfl 3 keyL Tryd.underlying3 hd wf.heap.size m _ _ _ rfl hrg HNZ.out ?_ ?_)
    rotate_left
    · intro pg s w1 cnt1 hip hlp hat hrg1 hlt1 hg1 hs1 hen
      have hpm : pg ∈ t.pages := Decidable.byContradiction fun r => by
        have q := hh.out.2.2.1 _ hlp
        rw [HTT.out.1.has pg hip, fH_gone r] at q
        cases q
      obtain ⟨o, eo, ho⟩ := HX.out.2.2.2.2.1.own pg hpm
      have hso : o = s := by
        have q := HTT.out.1.atk pg hip
        rw [hat, fH_there hpm, eo] at q
        simp [nOf, blkOf] at q
        omega
      subst hso
      have hpr := (HP.out.ok.tns t HX.out.2.1).pgs.2 pg hpm
      obtain ⟨j, rfl⟩ : ∃ j : Nat, pg = (j : Int) := ⟨pg.toNat, by omega⟩
      have hjN : j < N := by rw [HN.out]; omega
      have hjN' : (j : Int) < (N : Int) := by omega
      have hj0 : (0 : Int) ≤ (j : Int) := by omega
      have k1 : Kept [gp] wf w1 := hh.out.2.1.grown hg1 (fun k hk => .inr (by cases hk; exact Nat.le_refl _))
      have k1b : Kept [wf.heap.size] wr w1 := (Kept.refl _ wr).grown hg1 (fun k hk => .inl (by cases hk; simp))
      have r1 := hh.out.2.2.2.kept k1b (fun z hz hz' => by simp [Value.ownBlock] at hz hz'; omega)
      obtain ⟨r2, k2⟩ := r1.set j (by omega) (.map (some o)) rfl
      obtain ⟨gp', e', -, -, h8, h9⟩ := Row.pos r1 (by omega)
      cases e'
      obtain ⟨ov, hov⟩ := comC_old (V := V) (t := t) (left := left) hjN
      have cj := h8 j ov hov
      have fj := (h9 j (by have := HCP.out; omega)).2
      have c6r := k1.cell c6 (by simpa using ggp)
      obtain ⟨wn, hwn⟩ : ∃ wx, wx = w1.setCell ⟨gp, j, none⟩ (.map (some o)) := ⟨_, rfl⟩
      rw [← hwn] at r2 k2
      have hsetc := comC_step (V := V) (t := t) (left := left) hjN hpm
      rw [eo] at hsetc
      rw [hsetc] at r2
      have hrg2 := ranges_kept hrg1 k2 (by simpa using hgp) (by simp; omega)
      have HA := @hideH _ (And.intro hrg2 (And.intro (k1.trans k2 (fun z hz => .inl hz)) (And.intro r2 hlt1)))
      clear hrg1 hlt1 hg1 hs1 hat hip hlp k1 k1b r1 r2 k2 hsetc hov h8 h9 hrg2 eo ho hpr hpm
      go_wp2
      rw [← hwn]
      try go_wp2
      go_roundw
      case rel => exact ⟨_, cnt1, HA.out.1, HA.out.2.1, fun k hk => hh.out.2.2.1 k (by revert hk; cases left k <;> simp), HA.out.2.2.1⟩
      case measure => rw [HA.out.1.left_eq, hrg.left_eq]; exact HA.out.2.2.2
    intro hc0 hl0
    have hrow := hh.out.2.2.2
    have ecom : comC V t left N = (List.range N).map fun i : Nat => if (i : Int) ∈ t.pages then V (.ow t.id (i : Int)) else V (.pg (i : Int)) := by
      unfold comC
      refine List.map_congr_left fun i hi => ?_
      have : come left (i : Int) = true := by unfold come; rw [hl0]; rfl
      simp [this]
    rw [ecom] at hrow
    have kr := hh.out.2.1
    have HR := @hideH _ (And.intro hrow kr)
    have Br := HX.out.2.2.2.2.2.1.kept kr (by simpa using ggp)
    have bxr := HBX.out.kept kr (by simpa using xgp)
    have Dr : Row wr 0 1 (V .vd) S.done.length ((List.range S.done.length).map fun j => V (.dn j)) := HP.out.done.kept kr (fun z hz hz' => by
      have e : z = gp := by simpa using hz'
      rw [e] at hz
      have := HP.out.inj.inj .vd .bp gp (by rw [Row.blkOf HP.out.done]; exact hz) HX.out.2.2.2.2.2.2.2
      cases this)
    obtain ⟨pd, cd, evd, hncd, hcmd⟩ := Dr.shape
    obtain ⟨pc, cc, evc, hncc, hcmc⟩ := HX.out.2.2.2.2.1.chs.shape
    obtain ⟨q1, hq1⟩ : ∃ q1, q1 = S.done.length := ⟨_, rfl⟩
    obtain ⟨q2, hq2⟩ : ∃ q2, q2 = t.chs.length := ⟨_, rfl⟩
    have Br' := Br
    rw [evd] at Br'
    rw [evc] at bxr
    rw [← hq1] at Br'
    rw [← hq2] at bxr
    have c9 := Br'.cell (j := 9) rfl
    have cx1 := bxr.cell (j := 1) rfl
    have HQ := @hideH _ (show q1 = S.done.length ∧ q1 ≤ 3600000000000 from ⟨hq1, by rw [hq1]; exact HSM.out⟩)
    have HQ2 := @hideH _ hq2
    rw [evd, ← hq1] at Dr
    have HDR := @hideH _ Dr
    have EVD := @hideH _ (show V .vd = .slice pd q1 cd by rw [evd, hq1])
    have EVC := @hideH _ (show V (.ch t.id) = .slice pc q2 cc by rw [evc, hq2])
    obtain ⟨bo, ebo, Do, hOo, hTo, hKo⟩ := HP.out.opn
    have HOO := @hideH _ (And.intro hOo (And.intro hTo ebo))
    have HBR := @hideH _ Br
    obtain ⟨infD, hin1, hin2, hin3, hin4⟩ := info_parts3 (show (Tryd.prog.info? 33).map (fun i => (i.zero, i.size, i.bytes)) = some (some (.slice none 0 0), 1, 24) by kernel_rfl)
    have HID := @hideH _ (And.intro hin1 (And.intro hin2 (And.intro hin3 hin4)))
    clear hin1 hin2 hin3 hin4
    clear hc0 hl0 hrg hrow kr ecom Br Br' bxr Dr hncd hcmd hncc hcmc hq1 hq2 evd evc hOo hTo hKo c0 c6 hO HNZ
    go_upto_region 8 with fail
    obtain ⟨w6, hw6⟩ : ∃ wx, wx = wr.drew := ⟨_, rfl⟩
    have k6 : Kept [] wr w6 := by rw [hw6]; exact (Kept.refl [] wr).drew
    have hS : (fun w' => w'.cell? ⟨g, 9, none⟩ = some (.slice pd q1 cd) ∧ w'.cell? ⟨x, 1, none⟩ = some (.slice pc q2 cc)) w6 := ⟨k6.cell c9 (by simp), k6.cell cx1 (by simp)⟩
    try dsimp only at hS
    obtain ⟨w7, hw7⟩ : ∃ wx, wx = w6.alloc (.cells #[.slice pc q2 cc] 33) := ⟨_, rfl⟩
    have k7 : Kept [] w6 w7 := by rw [hw7]; exact (Kept.refl [] w6).alloc _
    have hS7 := (⟨k7.cell hS.1 (by simp), k7.cell hS.2 (by simp)⟩ : (fun w' => w'.cell? ⟨g, 9, none⟩ = some (.slice pd q1 cd) ∧ w'.cell? ⟨x, 1, none⟩ = some (.slice pc q2 cc)) w7)
    try dsimp only at hS7
    refine wp_region_late (fun w' => w'.cell? ⟨g, 9, none⟩ = some (.slice pd q1 cd) ∧ w'.cell? ⟨x, 1, none⟩ = some (.slice pc q2 cc)) 13 (by kernel_rfl) ?_
    rw [← hw6]
    clear hw6 c9 cx1
    refine wpAnyZ_take 0 (v := ?va0_1) rfl (by kernel_rfl) (by kernel_rfl) (by kernel_rfl) (by kernel_rfl) (fun _ _ _ h => h) (by rfl) ?hya0_1 hS ?resta0_1
    case hya0_1 => (intro wx hSx; obtain ⟨s1, s2⟩ := hSx; go_simp; (try with_reducible rfl))
    (try simp only [Act.put, List.getElem_toArray, List.getElem_cons_zero, List.getElem_cons_succ, List.setIfInBounds_toArray, List.set_cons_zero, List.set_cons_succ])
    refine wpAnyZ_take 1 (v := ?va1_2) rfl (by kernel_rfl) (by kernel_rfl) (by kernel_rfl) (by kernel_rfl) (fun _ _ _ h => h) (by rfl) ?hya1_2 hS ?resta1_2
    case hya1_2 => (intro wx hSx; obtain ⟨s1, s2⟩ := hSx; go_simp; (try with_reducible rfl))
    (try simp only [Act.put, List.getElem_toArray, List.getElem_cons_zero, List.getElem_cons_succ, List.setIfInBounds_toArray, List.set_cons_zero, List.set_cons_succ])
    refine wpAnyZ_take 2 (v := ?va2_3) rfl (by kernel_rfl) (by kernel_rfl) (by kernel_rfl) (by kernel_rfl) (fun _ _ _ h => h) (by rfl) ?hya2_3 hS ?resta2_3
    case hya2_3 => (intro wx hSx; obtain ⟨s1, s2⟩ := hSx; go_simp; (try with_reducible rfl))
    (try simp only [Act.put, List.getElem_toArray, List.getElem_cons_zero, List.getElem_cons_succ, List.setIfInBounds_toArray, List.set_cons_zero, List.set_cons_succ])
    refine wpAnyZ_take 3 (v := ?va3_4) rfl (by kernel_rfl) (by kernel_rfl) (by kernel_rfl) (by kernel_rfl) (fun _ _ _ h => h) (by rfl) ?hya3_4 hS ?resta3_4
    case hya3_4 => (intro wx hSx; obtain ⟨s1, s2⟩ := hSx; go_simp; (try with_reducible rfl))
    (try simp only [Act.put, List.getElem_toArray, List.getElem_cons_zero, List.getElem_cons_succ, List.setIfInBounds_toArray, List.set_cons_zero, List.set_cons_succ])
    refine wpAnyZ_take 4 (v := ?va4_5) rfl (by kernel_rfl) (by kernel_rfl) (by kernel_rfl) (by kernel_rfl) (fun _ _ _ h => h) (by rfl) ?hya4_5 hS ?resta4_5
    case hya4_5 => (intro wx hSx; obtain ⟨s1, s2⟩ := hSx; go_simp; (try with_reducible rfl))
    (try simp only [Act.put, List.getElem_toArray, List.getElem_cons_zero, List.getElem_cons_succ, List.setIfInBounds_toArray, List.set_cons_zero, List.set_cons_succ])
    refine wpAnyZ_take 5 (v := ?va5_6) rfl (by kernel_rfl) (by kernel_rfl) (by kernel_rfl) (by kernel_rfl) (fun _ _ _ h => h) (by rfl) ?hya5_6 hS ?resta5_6
    case hya5_6 => (intro wx hSx; obtain ⟨s1, s2⟩ := hSx; go_simp; (try with_reducible rfl))
    (try simp only [Act.put, List.getElem_toArray, List.getElem_cons_zero, List.getElem_cons_succ, List.setIfInBounds_toArray, List.set_cons_zero, List.set_cons_succ])
    refine wpAnyZ_take 6 (v := ?va6_7) rfl (by kernel_rfl) (by kernel_rfl) (by kernel_rfl) (by kernel_rfl) (fun _ _ _ h => h) (by rfl) ?hya6_7 hS ?resta6_7
    case hya6_7 => (intro wx hSx; obtain ⟨s1, s2⟩ := hSx; go_simp; (try with_reducible rfl))
    (try simp only [Act.put, List.getElem_toArray, List.getElem_cons_zero, List.getElem_cons_succ, List.setIfInBounds_toArray, List.set_cons_zero, List.set_cons_succ])
    refine wpAnyZ_take 7 (v := ?va7_8) rfl (by kernel_rfl) (by kernel_rfl) (by kernel_rfl) (by kernel_rfl) (fun _ _ _ h => h) (by rfl) ?hya7_8 hS ?resta7_8
    case hya7_8 => (intro wx hSx; obtain ⟨s1, s2⟩ := hSx; go_simp; (try with_reducible rfl))
    (try simp only [Act.put, List.getElem_toArray, List.getElem_cons_zero, List.getElem_cons_succ, List.setIfInBounds_toArray, List.set_cons_zero, List.set_cons_succ])
    refine wpAnyZ_take 8 (v := ?va8_9) rfl (by kernel_rfl) (by kernel_rfl) (by kernel_rfl) (by kernel_rfl) (fun _ _ _ h => h) (by rfl) ?hya8_9 hS ?resta8_9
    case hya8_9 => (intro wx hSx; obtain ⟨s1, s2⟩ := hSx; go_simp; (try with_reducible rfl))
    (try simp only [Act.put, List.getElem_toArray, List.getElem_cons_zero, List.getElem_cons_succ, List.setIfInBounds_toArray, List.set_cons_zero, List.set_cons_succ])
    refine wpAnyZ_one 9 rfl (by kernel_rfl) (fun K hK => ?_)
    go_simp
    refine hK _ _ (fun _ => by rw [← hw7]; exact hS7) ?_
    clear hK K
    (try simp only [Act.put, List.getElem_toArray, List.getElem_cons_zero, List.getElem_cons_succ, List.setIfInBounds_toArray, List.set_cons_zero, List.set_cons_succ])
    have hsrc := srcS (P := Tryd.prog) w6 23 33 Tryd.underlying23 pc q2 cc
    rw [← hw7] at hsrc
    rw [← hw7]
    clear hw7
    have k07 := k6.then k7
    have R7 := HDR.out.kept k07 (by simp)
    refine wpAnyZ_one 10 rfl (by kernel_rfl) (fun K hK => ?_)
    refine step_append_row2 rfl (.tmp 40) (.tmp 45) 23 rfl 0 33 infD (.slice none 0 0) 1 24 Tryd.underlying23 HID.out.1 HID.out.2.1 HID.out.2.2.1 HID.out.2.2.2 rfl _ _ _ (by rfl) R7 _ 1 _ (by rfl) hsrc (by have e1 := HQ.out.2; omega) (by have e1 := HQ.out.2; unfold maxLen; omega) (by have e1 := HQ.out.2; omega) (Nat.zero_le _) ?_
    intro v' w8 r8 k8 o8
    obtain ⟨p', c', hv', -⟩ := Row.shape r8
    subst hv'
    have hnot : ∀ z ∈ (Value.slice pd q1 cd).ownBlock.toList, z < wf.heap.size ∧ z ≠ g ∧ z ≠ x ∧ z ≠ gp ∧ z ≠ bo := fun z hz => by
      have ez : blkOf (V .vd) = some z := by rw [EVD.out, blkOf_slice rfl]; exact own_mem.1 hz
      refine ⟨HP.out.inj.lt _ _ ez, fun q => ?_, fun q => ?_, fun q => ?_, fun q => ?_⟩
      · rw [q] at ez; have := HP.out.inj.inj _ .g _ ez (by rw [HP.out.vg]; rfl); cases this
      · rw [q] at ez; have := HP.out.inj.inj _ (.tx t.id) _ ez (by rw [HX.out.2.2.2.1]; rfl); cases this
      · rw [q] at ez; have := HP.out.inj.inj _ .bp _ ez HX.out.2.2.2.2.2.2.2; cases this
      · rw [q] at ez; have := HP.out.inj.inj _ .bo _ ez (by rw [HOO.out.2.2]; rfl); cases this
    have B8 := ((HBR.out.kept k07 (by simp)).kept k8 (fun hm => (hnot _ hm).2.1 rfl))
    have X8 := (((HBX.out.kept HR.out.2 (by simpa using xgp)).kept k07 (by simp)).kept k8 (fun hm => (hnot _ hm).2.2.1 rfl))
    have B8' := B8
    rw [EVD.out] at B8'
    rw [EVC.out] at X8
    have f8 := B8'.free 9
    have hS8 := (⟨B8'.cell (j := 9) rfl, X8.cell (j := 1) rfl⟩ : (fun w' => w'.cell? ⟨g, 9, none⟩ = some (.slice pd q1 cd) ∧ w'.cell? ⟨x, 1, none⟩ = some (.slice pc q2 cc)) w8)
    try dsimp only at hS8
    have HR8 := @hideH _ (And.intro r8 (And.intro k8 (And.intro o8 (And.intro k07 (And.intro B8 hnot)))))
    clear r8 k8 o8 hsrc R7 k07 hS7 k7 hS k6 B8 B8' X8 hnot
    refine hK _ _ (fun _ => hS8) ?_
    clear hK K
    (try simp only [Act.put, List.getElem_toArray, List.getElem_cons_zero, List.getElem_cons_succ, List.setIfInBounds_toArray, List.set_cons_zero, List.set_cons_succ])
    refine wpAnyZ_one 11 rfl (by kernel_rfl) (fun K hK => ?_)
    go_simp
    refine hK _ _ (fun _ => hS8) ?_
    clear hK K
    (try simp only [Act.put, List.getElem_toArray, List.getElem_cons_zero, List.getElem_cons_succ, List.setIfInBounds_toArray, List.set_cons_zero, List.set_cons_succ])
    refine wpAnyZ_one 12 rfl (by kernel_rfl) (fun K hK => ?_)
    go_simp
    refine hK _ _ (fun _ => hS8) ?_
    clear hK K
    (try simp only [Act.put, List.getElem_toArray, List.getElem_cons_zero, List.getElem_cons_succ, List.setIfInBounds_toArray, List.set_cons_zero, List.set_cons_succ])
    refine wpAnyZ_one 13 rfl (by kernel_rfl) (fun K hK => ?_)
    go_simp
    refine hK _ _ (fun h => absurd rfl h) ?_
    clear hK K
    (try simp only [Act.put, List.getElem_toArray, List.getElem_cons_zero, List.getElem_cons_succ, List.setIfInBounds_toArray, List.set_cons_zero, List.set_cons_succ])
    refine wpAnyZ_done (by kernel_rfl) ?_ _
    obtain ⟨w9, hw9⟩ : ∃ wx, wx = w8.setCell ⟨g, 9, none⟩ (.slice p' (q1 + 1) c') := ⟨_, rfl⟩
    obtain ⟨b9, k9⟩ := HR8.out.2.2.2.2.1.set 9 (.slice p' (q1 + 1) c')
    rw [← hw9] at b9 k9
    rw [← hw9]
    clear hw9 hS8 f8
    obtain ⟨u, hu⟩ : ∃ u, u = S.used := ⟨_, rfl⟩
    have b9' := b9
    simp only [List.set_cons_succ, List.set_cons_zero] at b9'
    rw [← hu, HOO.out.2.2] at b9'
    have c89 := b9'.cell (j := 8) rfl
    have f89 := b9'.free 8
    have hup : IntKind.i64.wrap (u + 66) = u + 66 := wrap_i64_of (by have := HP.out.ok.low; omega) (by have := HP.out.ok.kept; omega)
    obtain ⟨w10, hw10⟩ : ∃ wx, wx = w9.setCell ⟨g, 8, none⟩ (.int .i64 (u + 66)) := ⟨_, rfl⟩
    obtain ⟨b10, k10⟩ := b9'.set 8 (.int .i64 (u + 66))
    rw [← hw10] at b10 k10
    have c7 := b10.cell (j := 7) (v := .map (some bo)) rfl
    have hgo : g ≠ bo := fun q => by have := HP.out.inj.inj .g .bo g (by rw [HP.out.vg]; rfl) (by rw [HOO.out.2.2, q]; rfl); cases this
    have hpo : gp ≠ bo := fun q => by have := HP.out.inj.inj .bp .bo gp HX.out.2.2.2.2.2.2.2 (by rw [HOO.out.2.2, q]; rfl); cases this
    have k810 : Kept [g] w8 w10 := k9.trans k10 (fun z hz => .inl hz)
    have o10 := ownsMap_kept (ownsMap_kept (ownsMap_kept (ownsMap_kept HOO.out.1 HR.out.2 (by simpa using Ne.symm hpo)) HR8.out.2.2.2.1 (by simp)) HR8.out.2.1 (fun hm => (HR8.out.2.2.2.2.2 _ hm).2.2.2.2 rfl)) k810 (by simpa using Ne.symm hgo)
    have hkey := keyOf_int_mk (P := Tryd.prog) (k := 3) Tryd.underlying3 (wf_of_i64 hi)
    have HF := @hideH _ (And.intro b10 (And.intro k810 (And.intro hgo (And.intro hpo hu))))
    obtain ⟨no, hno⟩ : ∃ no, no = (S.opn.map Tn.id).length := ⟨_, rfl⟩
    rw [← hno] at o10
    clear b9 b9' b10 k9 k10 k810 hgo hpo hno hu
    go_upto_region 10 with fail
    rw [← hw10]
    clear hw10 c89 f89
    go_wp2_with (at_delete; refine wpList_delete_own _ rfl _ _ 75 3 rfl 78 keyL Tryd.underlying75 _ bo no Do rfl o10 _ _ rfl hkey ?_; intro w11 o11 ht11)
    try go_wp2
    go_ret
    have k11 : Kept [bo] w10 w11 := (Kept.refl _ w10).grown ht11.grown (fun k hk => .inl (by cases hk; simp))
    have hu := HF.out.2.2.2.2
    have hnot := HR8.out.2.2.2.2.2
    obtain ⟨X, hX⟩ : ∃ X, X = gp :: g :: bo :: (Value.slice pd q1 cd).ownBlock.toList := ⟨_, rfl⟩
    have kk : Kept X wf w11 := ((((HR.out.2.mono (T := X) (by intro z hz; rw [hX]; simp at hz; simp [hz])).trans (HR8.out.2.2.2.1.mono (T := X) (by simp)) (fun z hz => .inl hz)).trans (HR8.out.2.1.mono (T := X) (by intro z hz; rw [hX]; simp only [List.mem_cons]; exact .inr (.inr (.inr hz)))) (fun z hz => .inl hz)).trans (HF.out.2.1.mono (T := X) (by intro z hz; rw [hX]; simp at hz; simp [hz])) (fun z hz => .inl hz)).trans (k11.mono (T := X) (by intro z hz; rw [hX]; simp at hz; simp [hz])) (fun z hz => .inl hz)
    have k68 : Kept (g :: bo :: (Value.slice pd q1 cd).ownBlock.toList) wr w11 := (((HR8.out.2.2.2.1.mono (T := g :: bo :: (Value.slice pd q1 cd).ownBlock.toList) (by simp)).trans (HR8.out.2.1.mono (T := g :: bo :: (Value.slice pd q1 cd).ownBlock.toList) (by intro z hz; simp only [List.mem_cons]; exact .inr (.inr hz))) (fun z hz => .inl hz)).trans (HF.out.2.1.mono (T := g :: bo :: (Value.slice pd q1 cd).ownBlock.toList) (by intro z hz; simp at hz; simp [hz])) (fun z hz => .inl hz)).trans (k11.mono (T := g :: bo :: (Value.slice pd q1 cd).ownBlock.toList) (by intro z hz; simp at hz; simp [hz])) (fun z hz => .inl hz)
    have hrow11 := HR.out.1.kept k68 (fun z hz hz' => by
      have ez : z = gp := by simpa [Value.ownBlock] using hz.symm
      rw [ez] at hz'
      rcases List.mem_cons.1 hz' with q | hz'
      · exact ggp q.symm
      · rcases List.mem_cons.1 hz' with q | hz'
        · exact HF.out.2.2.2.1 q
        · exact (hnot _ hz').2.2.2.1 rfl)
    have k8e : Kept [g, bo] w8 w11 := (HF.out.2.1.mono (T := [g, bo]) (by simp)).trans (k11.mono (T := [g, bo]) (by simp)) (fun z hz => .inl hz)
    have vnew : ∀ z, (Value.slice p' (q1 + 1) c').ownBlock = some z → z ≠ g ∧ z ≠ bo := fun z hz => by
      rcases HR8.out.2.2.1 with o | ⟨o, -⟩
      · rw [o] at hz
        have := hnot z (own_mem.2 hz)
        exact ⟨this.2.1, this.2.2.2.2⟩
      · rw [o] at hz
        have ez := (Option.some.inj hz).symm
        have h1 := HR8.out.2.2.2.1.size
        have h2 := HR.out.2.size
        have h3 := HP.out.inj.lt .g g (by rw [HP.out.vg]; rfl)
        have h4 := HP.out.inj.lt .bo bo (by rw [HOO.out.2.2]; rfl)
        exact ⟨by omega, by omega⟩
    have hdn11 := HR8.out.1.kept k8e (fun z hz hz' => by
      rcases List.mem_cons.1 hz' with q | q
      · exact (vnew z hz).1 q
      · exact (vnew z hz).2 (by simpa using q))
    obtain ⟨V', p', n'⟩ := HP.out.com (vd := .slice p' (q1 + 1) c') (X := X) HX.out.1 HOO.out.2.2 kk (fun z hz => by
        rw [hX] at hz
        rcases List.mem_cons.1 hz with q | hz
        · exact .inr (.inr (.inr (.inl (by rw [q]; exact HX.out.2.2.2.2.2.2.2))))
        · rcases List.mem_cons.1 hz with q | hz
          · exact .inr (.inl (by rw [q, HP.out.vg]; rfl))
          · rcases List.mem_cons.1 hz with q | hz
            · exact .inr (.inr (.inl (by rw [q, HOO.out.2.2]; rfl)))
            · exact .inr (.inr (.inr (.inr (by rw [EVD.out, blkOf_slice rfl]; exact own_mem.1 hz)))))
      (by rw [HX.out.2.2.2.2.2.2.1, ← HN.out]; exact hrow11) (by rw [← HQ.out.1, EVC.out]; exact hdn11)
      (by
        rw [EVD.out, blkOf_slice rfl, blkOf_slice rfl]
        rcases HR8.out.2.2.1 with o | ⟨o, -⟩
        · exact .inl o
        · refine .inr ⟨_, o, ?_, ?_⟩
          · have h1 := HR8.out.2.2.2.1.size
            have h2 := HR.out.2.size
            omega
          · have h1 := HR8.out.1.lt _ o
            have := k8e.size
            omega)
      (by rw [← hu, HOO.out.2.2]; exact HF.out.1.kept k11 (by simpa using HF.out.2.2.1)) HOO.out.2.1 (by rw [HX.out.2.2.1]; exact o11)
    rw [HE.out.1, HE.out.2.2]
    exact ⟨V', _, by first | rfl | trivial, .inl ⟨rfl, by first | rfl | trivial⟩, p', n'⟩
end Go.Proofs.YtocpagpkpibmaaaDoor

/-
  OWN WORK (by mkpp8.py). The landed plain (layer 18): the calls of the face.
-/
namespace Go.Proofs.YtocpagpkpibmaaaDoor
open Go.RowKit Go.Maps
set_option linter.unusedVariables false
set_option linter.unusedSimpArgs false
theorem num_of {n : Int} {v : Value} (w : World) (hv : Vr w) (h : ErOk n v) : Calls Tryd.prog 36 #[v] w fun e w' => e = .returned (.int .i64 n) ∧ Kept [] w w' := by
  rcases h with ⟨rfl, rfl⟩ | ⟨-, d, hd, er⟩
  · exact qNumber0 w
  · exact qNumber w hv er hd
theorem Nx.vr {w w' : World} {V V' : Tag → Value} {F : List Nat} (h : Nx w w' V V') (hv : Vr w) (h2 : ∀ a x, blkOf (V a) = some x → x ∈ F) (h4 : 0 ∉ F) : Vr w' := by
  obtain ⟨-, X, k, hX⟩ := h
  exact hv.kept k (fun q => by obtain ⟨b, r⟩ := hX 0 q; exact h4 (h2 b 0 r))
theorem ChR.put {c : Cf} {S : St} {id key v : Int} {b : Bool} {E : Int} {S' : St} (h : ChR c S id ⟨key, v, false⟩ b E S') : E = putE c S id key v ∧ S' = putS c S id key v := by
  rcases h with ⟨ha, h1, h2, -⟩ | ⟨ha, t, k, hf, hk, h⟩
  · have q := put_no (v := v) ha
    exact ⟨by rw [h1, q.1], by rw [h2, q.2.1]⟩
  · by_cases hb : full c S t key = true
    · obtain ⟨h1, h2, -⟩ := h.full rfl hb
      have q := put_full (v := v) ha hf hb
      exact ⟨by rw [h1, q.1], by rw [h2, q.2]⟩
    · obtain ⟨h1, h2, -⟩ := h.fits (fun q => hb q.2)
      have q := put_chg (v := v) ha hf (by simpa using hb)
      exact ⟨by rw [h1, q.1], by rw [h2, q.2]⟩
theorem ChR.del {c : Cf} {S : St} (ok : OkS c S) {id key : Int} {b : Bool} {E : Int} {S' : St} (h : ChR c S id ⟨key, 0, true⟩ b E S') : E = delE c S id key ∧ S' = delS c S id key ∧ b = delB c S id key := by
  rcases h with ⟨ha, h1, h2, h3⟩ | ⟨ha, t, k, hf, hk, h⟩
  · have q := put_no (v := 0) ha
    exact ⟨by rw [h1, q.2.2.1], by rw [h2, q.2.2.2.2], by rw [h3, q.2.2.2.1]⟩
  · obtain ⟨h1, h2, h3⟩ := h.fits (fun q => by cases q.1)
    cases hb : (seesT S t key).2 with
    | true =>
      have q := del_chg ha hf hb
      rw [hb] at h3
      exact ⟨by rw [h1, q.1], by rw [h2, q.2.2], by rw [h3, q.2.1, h1]; simp⟩
    | false =>
      have q := del_none ok hk ha hf hb
      have hl : ¬ 0 < lenC S t ⟨key, 0, true⟩ := by
        have e : lenC S t ⟨key, 0, true⟩ = 0 := by
          unfold lenC
          dsimp only
          rw [hb]
          exact lengthL_same rfl
        omega
      have e := chg_zero (page := key % c.pages) ok hk rfl hl
      rw [hb] at h3
      exact ⟨by rw [h1, q.1, e.1], by rw [h2, q.2.2, e.2], by rw [h3, q.2.1]; rfl⟩
set_option maxHeartbeats 1600000 in
theorem fBegin {g : Nat} {F : List Nat} {c : Cf} {S : St} (id : Int) (w : World) (hv : Vr w) (h : Pz w g F c S) (hi : I64 id) : Calls Tryd.prog 21 #[.pointer (some ⟨g, 0, none⟩), .int .i64 id] w fun e w' => ∃ F', e = .returned (.int .i64 (begE c S id)) ∧ Pz w' g F' c (begS c S id) ∧ Fr w F F' ∧ Kept F w w' := by
  obtain ⟨V, hp, h2, h3, h4⟩ := h
  have HQ := @hideH _ (qBegin id w hp hi)
  have HV := @hideH _ (And.intro hv (And.intro h2 (And.intro h3 h4)))
  clear hp hv h2 h3 h4
  go_enter Tryd.func21, Tryd.ntmps21
  go_wp2_with fail
  refine HQ.out.mono ?_
  clear HQ
  rintro e w1 ⟨V', v', rfl, he, hp, hn⟩
  have HE := @hideH _ (And.intro hp hn)
  have HN := @hideH _ (num_of w1 (hn.vr HV.out.1 HV.out.2.1 HV.out.2.2.2) he)
  clear hp hn he
  go_wp2_with fail
  refine HN.out.mono ?_
  clear HN
  rintro e w2 ⟨rfl, k2⟩
  have HK := @hideH _ k2
  clear k2
  go_wp2
  go_ret
  obtain ⟨F', q1, q2, q3⟩ := Nx.face (S := S) (F := F) HV.out.2.1 HV.out.2.2.1 HV.out.2.2.2 HV.out.1.lt (HE.out.1.then HK.out) (HE.out.2.then HK.out)
  exact ⟨F', by first | rfl | trivial, q1, q2, q3⟩
set_option maxHeartbeats 1600000 in
theorem fCommit {g : Nat} {F : List Nat} {c : Cf} {S : St} (id : Int) (w : World) (hv : Vr w) (h : Pz w g F c S) (hs : small S) (hi : I64 id) : Calls Tryd.prog 24 #[.pointer (some ⟨g, 0, none⟩), .int .i64 id] w fun e w' => ∃ F', e = .returned (.int .i64 (endE S id)) ∧ Pz w' g F' c (comS S id) ∧ Fr w F F' ∧ Kept F w w' := by
  obtain ⟨V, hp, h2, h3, h4⟩ := h
  have HQ := @hideH _ (qCommit id w hp (by unfold small cnt at hs; omega) hi)
  have HV := @hideH _ (And.intro hv (And.intro h2 (And.intro h3 h4)))
  clear hp hv h2 h3 h4
  go_enter Tryd.func24, Tryd.ntmps24
  go_wp2_with fail
  refine HQ.out.mono ?_
  clear HQ
  rintro e w1 ⟨V', v', rfl, he, hp, hn⟩
  have HE := @hideH _ (And.intro hp hn)
  have HN := @hideH _ (num_of w1 (hn.vr HV.out.1 HV.out.2.1 HV.out.2.2.2) he)
  clear hp hn he
  go_wp2_with fail
  refine HN.out.mono ?_
  clear HN
  rintro e w2 ⟨rfl, k2⟩
  have HK := @hideH _ k2
  clear k2
  go_wp2
  go_ret
  obtain ⟨F', q1, q2, q3⟩ := Nx.face (S := S) (F := F) HV.out.2.1 HV.out.2.2.1 HV.out.2.2.2 HV.out.1.lt (HE.out.1.then HK.out) (HE.out.2.then HK.out)
  exact ⟨F', by first | rfl | trivial, q1, q2, q3⟩
set_option maxHeartbeats 1600000 in
theorem fAbort {g : Nat} {F : List Nat} {c : Cf} {S : St} (id : Int) (w : World) (hv : Vr w) (h : Pz w g F c S) (hi : I64 id) : Calls Tryd.prog 29 #[.pointer (some ⟨g, 0, none⟩), .int .i64 id] w fun e w' => ∃ F', e = .returned (.int .i64 (endE S id)) ∧ Pz w' g F' c (aboS S id) ∧ Fr w F F' ∧ Kept F w w' := by
  obtain ⟨V, hp, h2, h3, h4⟩ := h
  have HQ := @hideH _ (qAbort id w hp hi)
  have HV := @hideH _ (And.intro hv (And.intro h2 (And.intro h3 h4)))
  clear hp hv h2 h3 h4
  go_enter Tryd.func29, Tryd.ntmps29
  go_wp2_with fail
  refine HQ.out.mono ?_
  clear HQ
  rintro e w1 ⟨V', v', rfl, he, hp, hn⟩
  have HE := @hideH _ (And.intro hp hn)
  have HN := @hideH _ (num_of w1 (hn.vr HV.out.1 HV.out.2.1 HV.out.2.2.2) he)
  clear hp hn he
  go_wp2_with fail
  refine HN.out.mono ?_
  clear HN
  rintro e w2 ⟨rfl, k2⟩
  have HK := @hideH _ k2
  clear k2
  go_wp2
  go_ret
  obtain ⟨F', q1, q2, q3⟩ := Nx.face (S := S) (F := F) HV.out.2.1 HV.out.2.2.1 HV.out.2.2.2 HV.out.1.lt (HE.out.1.then HK.out) (HE.out.2.then HK.out)
  exact ⟨F', by first | rfl | trivial, q1, q2, q3⟩
set_option maxHeartbeats 1600000 in
theorem fPut {g : Nat} {F : List Nat} {c : Cf} {S : St} (id key v : Int) (w : World) (hv : Vr w) (h : Pz w g F c S) (hs : small S) (hi : I64 id) (hk : I64 key) (hu : u64 v) : Calls Tryd.prog 22 #[.pointer (some ⟨g, 0, none⟩), .int .i64 id, .int .i64 key, .int .u64 v] w fun e w' => ∃ F', e = .returned (.int .i64 (putE c S id key v)) ∧ Pz w' g F' c (putS c S id key v) ∧ Fr w F F' ∧ Kept F w w' := by
  obtain ⟨V, hp, h2, h3, h4⟩ := h
  have HQ := @hideH _ (qChange id ⟨key, v, false⟩ w hp hs hi hk hu)
  have HV := @hideH _ (And.intro hv (And.intro h2 (And.intro h3 h4)))
  clear hp hv h2 h3 h4
  go_enter Tryd.func22, Tryd.ntmps22
  go_wp2_with fail
  refine HQ.out.mono ?_
  clear HQ
  rintro e w1 ⟨V', bb, v', E, S', rfl, he, hp, hn, hch⟩
  obtain ⟨rfl, rfl⟩ := hch.put
  have HE := @hideH _ (And.intro hp hn)
  have HN := @hideH _ (num_of w1 (hn.vr HV.out.1 HV.out.2.1 HV.out.2.2.2) he)
  clear hp hn he hch
  go_wp2_with fail
  refine HN.out.mono ?_
  clear HN
  rintro e w2 ⟨rfl, k2⟩
  have HK := @hideH _ k2
  clear k2
  go_wp2
  go_ret
  obtain ⟨F', q1, q2, q3⟩ := Nx.face (S := S) (F := F) HV.out.2.1 HV.out.2.2.1 HV.out.2.2.2 HV.out.1.lt (HE.out.1.then HK.out) (HE.out.2.then HK.out)
  exact ⟨F', by first | rfl | trivial, q1, q2, q3⟩
set_option maxHeartbeats 1600000 in
theorem fDelete {g : Nat} {F : List Nat} {c : Cf} {S : St} (id key : Int) (w : World) (hv : Vr w) (h : Pz w g F c S) (hs : small S) (hi : I64 id) (hk : I64 key) : Calls Tryd.prog 28 #[.pointer (some ⟨g, 0, none⟩), .int .i64 id, .int .i64 key] w fun e w' => ∃ F', e = .returned (.tuple #[.bool (delB c S id key), .int .i64 (delE c S id key)]) ∧ Pz w' g F' c (delS c S id key) ∧ Fr w F F' ∧ Kept F w w' := by
  obtain ⟨V, hp, h2, h3, h4⟩ := h
  have HQ := @hideH _ (qChange id ⟨key, 0, true⟩ w hp hs hi hk (show u64 0 from ⟨Int.le_refl _, by decide⟩))
  have HOK := @hideH _ hp.ok
  have HV := @hideH _ (And.intro hv (And.intro h2 (And.intro h3 h4)))
  clear hp hv h2 h3 h4
  go_enter Tryd.func28, Tryd.ntmps28
  go_wp2_with fail
  refine HQ.out.mono ?_
  clear HQ
  rintro e w1 ⟨V', bb, v', E, S', rfl, he, hp, hn, hch⟩
  obtain ⟨rfl, rfl, rfl⟩ := hch.del HOK.out
  have HE := @hideH _ (And.intro hp hn)
  have HN := @hideH _ (num_of w1 (hn.vr HV.out.1 HV.out.2.1 HV.out.2.2.2) he)
  clear hp hn he hch
  go_wp2_with fail
  refine HN.out.mono ?_
  clear HN
  rintro e w2 ⟨rfl, k2⟩
  have HK := @hideH _ k2
  clear k2
  go_wp2
  go_ret2
  obtain ⟨F', q1, q2, q3⟩ := Nx.face (S := S) (F := F) HV.out.2.1 HV.out.2.2.1 HV.out.2.2.2 HV.out.1.lt (HE.out.1.then HK.out) (HE.out.2.then HK.out)
  exact ⟨F', by first | rfl | trivial, q1, q2, q3⟩
set_option maxHeartbeats 1600000 in
theorem fGet {g : Nat} {F : List Nat} {c : Cf} {S : St} (id key : Int) (w : World) (hv : Vr w) (h : Pz w g F c S) (hs : small S) (hi : I64 id) (hk : I64 key) : Calls Tryd.prog 23 #[.pointer (some ⟨g, 0, none⟩), .int .i64 id, .int .i64 key] w fun e w' => ∃ F', e = .returned (.tuple #[.int .u64 (getA c S id key).1, .bool (getA c S id key).2.1, .int .i64 (getA c S id key).2.2]) ∧ Pz w' g F' c (getS c S id key) ∧ Fr w F F' ∧ Kept F w w' := by
  obtain ⟨V, hp, h2, h3, h4⟩ := h
  obtain ⟨A, hA⟩ : ∃ A, A = getA c S id key := ⟨_, rfl⟩
  have HQ := @hideH _ (qGet id key w hp hs hi hk)
  rw [← hA] at HQ ⊢
  have HV := @hideH _ (And.intro hv (And.intro h2 (And.intro h3 h4)))
  clear hp hv h2 h3 h4 hA
  obtain ⟨a1, a2, a3⟩ := A
  dsimp only at HQ ⊢
  go_enter Tryd.func23, Tryd.ntmps23
  go_wp2_with fail
  refine HQ.out.mono ?_
  clear HQ
  rintro e w1 ⟨V', v', rfl, he, hp, hn⟩
  have HE := @hideH _ (And.intro hp hn)
  have HN := @hideH _ (num_of w1 (hn.vr HV.out.1 HV.out.2.1 HV.out.2.2.2) he)
  clear hp hn he
  go_wp2_with fail
  refine HN.out.mono ?_
  clear HN
  rintro e w2 ⟨rfl, k2⟩
  have HK := @hideH _ k2
  clear k2
  go_wp2
  go_ret3
  obtain ⟨F', q1, q2, q3⟩ := Nx.face (S := S) (F := F) HV.out.2.1 HV.out.2.2.1 HV.out.2.2.2 HV.out.1.lt (HE.out.1.then HK.out) (HE.out.2.then HK.out)
  exact ⟨F', by first | rfl | trivial, q1, q2, q3⟩
theorem fUsed {g : Nat} {F : List Nat} {c : Cf} {S : St} (w : World) (h : Pz w g F c S) : Calls Tryd.prog 13 #[.pointer (some ⟨g, 0, none⟩)] w fun e w' => e = .returned (.tuple #[.int .i64 S.used, .int .i64 (keptO S.opn)]) ∧ Kept [] w w' := by
  obtain ⟨V, hp, -⟩ := h
  exact qUsed w hp
set_option maxRecDepth 20000 in
set_option maxHeartbeats 1600000 in
theorem fCheck {g : Nat} {F : List Nat} {c : Cf} {S : St} (d : Int) (w : World) (hv : Vr w) (h : Pz w g F c S) : Calls Tryd.prog 30 #[.pointer (some ⟨g, 0, none⟩), .int .i64 d] w fun e w' => ∃ F', e = .returned (.int .i64 (chkE c S d)) ∧ Pz w' g F' c (chkS c S d) ∧ Fr w F F' ∧ Kept F w w' := by
  obtain ⟨V, hp, h2, h3, h4⟩ := h
  obtain ⟨dd, hdd⟩ : ∃ dd, dd = dirtyC c d := ⟨_, rfl⟩
  have hmay := hp.ok.may
  have hmm : min (max d 0) c.pages = dd := by rw [hdd]; unfold dirtyC; have := hmay.1; split; omega; split <;> omega
  have hd1 : 0 ≤ dd ∧ dd ≤ 16 := by rw [hdd]; unfold dirtyC; have := hmay.1; split; omega; split <;> omega
  obtain ⟨bo, n, D, e1, hO, hz⟩ := hp.openSize
  obtain ⟨m, hm⟩ : ∃ m, m = S.opn.length := ⟨_, rfl⟩
  rw [← hm] at hz
  have hm8 : m ≤ 8 := by rw [hm]; exact hp.ok.lenN
  have B := hp.box
  rw [e1] at B
  have c0 := B.cell (j := 0) rfl
  have c7 := B.cell (j := 7) rfl
  have v1 : IntKind.i64.wrap (26 * (m : Int)) = 26 * (m : Int) := wrap_i64_of (by omega) (by omega)
  have v2 : IntKind.i64.wrap (35 + 26 * (m : Int)) = 35 + 26 * (m : Int) := wrap_i64_of (by omega) (by omega)
  have v3 : IntKind.i64.wrap (9 * dd) = 9 * dd := wrap_i64_of (by omega) (by omega)
  have v4 : IntKind.i64.wrap (35 + 26 * (m : Int) + 9 * dd) = 35 + 26 * (m : Int) + 9 * dd := wrap_i64_of (by omega) (by omega)
  have HQ := @hideH _ (qLog (35 + 26 * (m : Int) + 9 * dd) 0 w hp (by omega) (by omega))
  have HC := @hideH _ (show chkN c S d = 35 + 26 * (m : Int) + 9 * dd by unfold chkN; rw [hm, hdd])
  have HP := @hideH _ hp
  have HV := @hideH _ (And.intro hv (And.intro h2 (And.intro h3 h4)))
  have hcase : (d < 0 ∧ dd = 0) ∨ (¬ d < 0 ∧ c.pages < d ∧ dd = c.pages) ∨ (¬ d < 0 ∧ ¬ c.pages < d ∧ dd = d) := by
    rw [hdd]; unfold dirtyC
    by_cases q1 : d < 0
    · exact .inl ⟨q1, by rw [if_pos q1]⟩
    · by_cases q2 : c.pages < d
      · exact .inr (.inl ⟨q1, q2, by rw [if_neg q1, if_pos q2]⟩)
      · exact .inr (.inr ⟨q1, q2, by rw [if_neg q1, if_neg q2]⟩)
  have hpg0 : (0 : Int) < c.pages := by have := hmay.1; omega
  clear hp hv h2 h3 h4 B hdd hmay hd1 hm hm8 hmm
  rcases hcase with ⟨q1, rfl⟩ | ⟨q1, q2, rfl⟩ | ⟨q1, q2, rfl⟩
  · have q3 : ¬ 0 < d := by omega
    have q4 : ¬ c.pages < 0 := by omega
    have q5 : ¬ 0 ≤ d := by omega
    have q6 : (0 : Int) ≤ c.pages := by omega
    have z0 : IntKind.i64.wrap 0 = 0 := by decide
    rw [show (35 + 26 * (m : Int) + 9 * 0) = 35 + 26 * (m : Int) by omega] at *
    go_enter Tryd.func30, Tryd.ntmps30
    go_wp2_with (at_len; refine wpList_len_own _ rfl _ 75 rfl 3 78 Tryd.underlying75 _ bo n D rfl hO ?_; rw [hz])
    refine HQ.out.mono ?_
    clear HQ
    rintro e w1 (⟨hf, rfl, hp, k1⟩ | ⟨hf, rfl, k1⟩)
    · have HE := @hideH _ (show chkE c S d = 0 ∧ chkS c S d = ⟨S.done, S.opn, S.used + (35 + 26 * (m : Int))⟩ by unfold chkE chkS; rw [HC.out, if_pos hf, if_pos hf]; exact ⟨rfl, rfl⟩)
      have nx : Nx w w1 V V := Nx.same k1 (fun x hx => ⟨.g, by rw [HP.out.vg]; simp at hx; rw [hx]; rfl⟩)
      have HN := @hideH _ (And.intro hp nx)
      clear hp k1 hf
      go_wp2_with fail
      refine (qNumber0 _).mono ?_
      rintro e w2 ⟨rfl, k2⟩
      have HK := @hideH _ k2
      clear k2 nx
      go_wp2
      go_ret
      obtain ⟨F', q1, q2, q3⟩ := Nx.face (S := S) (F := F) HV.out.2.1 HV.out.2.2.1 HV.out.2.2.2 HV.out.1.lt (HN.out.1.then HK.out) (HN.out.2.then HK.out)
      rw [HE.out.1, HE.out.2]
      exact ⟨F', by first | rfl | trivial, q1, q2, q3⟩
    · have HE := @hideH _ (show chkE c S d = 170 ∧ chkS c S d = S by unfold chkE chkS; rw [HC.out, if_neg (by rw [hf]; decide), if_neg (by rw [hf]; decide)]; exact ⟨rfl, rfl⟩)
      have HK1 := @hideH _ k1
      have HN := @hideH _ (qNumber w1 (HV.out.1.kept k1 (by simp)) (Er.ref 170) (by omega))
      clear k1 hf
      go_wp2_with fail
      refine HN.out.mono ?_
      rintro e w2 ⟨rfl, k2⟩
      have HK := @hideH _ k2
      clear k2 HN
      go_wp2
      go_ret
      obtain ⟨F', q1, q2, q3⟩ := Nx.face (S := S) (F := F) HV.out.2.1 HV.out.2.2.1 HV.out.2.2.2 HV.out.1.lt (HP.out.then (HK1.out.then HK.out)) (Nx.refl V (HK1.out.then HK.out))
      rw [HE.out.1, HE.out.2]
      exact ⟨F', by first | rfl | trivial, q1, q2, q3⟩
  · have q3 : (0 : Int) ≤ d := by omega
    have q4 : ¬ d < c.pages := by omega
    have q5 : c.pages ≤ d := by omega
    have q6 : ¬ d ≤ c.pages := by omega
    go_enter Tryd.func30, Tryd.ntmps30
    go_wp2_with (at_len; refine wpList_len_own _ rfl _ 75 rfl 3 78 Tryd.underlying75 _ bo n D rfl hO ?_; rw [hz])
    refine HQ.out.mono ?_
    clear HQ
    rintro e w1 (⟨hf, rfl, hp, k1⟩ | ⟨hf, rfl, k1⟩)
    · have HE := @hideH _ (show chkE c S d = 0 ∧ chkS c S d = ⟨S.done, S.opn, S.used + (35 + 26 * (m : Int) + 9 * c.pages)⟩ by unfold chkE chkS; rw [HC.out, if_pos hf, if_pos hf]; exact ⟨rfl, rfl⟩)
      have nx : Nx w w1 V V := Nx.same k1 (fun x hx => ⟨.g, by rw [HP.out.vg]; simp at hx; rw [hx]; rfl⟩)
      have HN := @hideH _ (And.intro hp nx)
      clear hp k1 hf
      go_wp2_with fail
      refine (qNumber0 _).mono ?_
      rintro e w2 ⟨rfl, k2⟩
      have HK := @hideH _ k2
      clear k2 nx
      go_wp2
      go_ret
      obtain ⟨F', q1, q2, q3⟩ := Nx.face (S := S) (F := F) HV.out.2.1 HV.out.2.2.1 HV.out.2.2.2 HV.out.1.lt (HN.out.1.then HK.out) (HN.out.2.then HK.out)
      rw [HE.out.1, HE.out.2]
      exact ⟨F', by first | rfl | trivial, q1, q2, q3⟩
    · have HE := @hideH _ (show chkE c S d = 170 ∧ chkS c S d = S by unfold chkE chkS; rw [HC.out, if_neg (by rw [hf]; decide), if_neg (by rw [hf]; decide)]; exact ⟨rfl, rfl⟩)
      have HK1 := @hideH _ k1
      have HN := @hideH _ (qNumber w1 (HV.out.1.kept k1 (by simp)) (Er.ref 170) (by omega))
      clear k1 hf
      go_wp2_with fail
      refine HN.out.mono ?_
      rintro e w2 ⟨rfl, k2⟩
      have HK := @hideH _ k2
      clear k2 HN
      go_wp2
      go_ret
      obtain ⟨F', q1, q2, q3⟩ := Nx.face (S := S) (F := F) HV.out.2.1 HV.out.2.2.1 HV.out.2.2.2 HV.out.1.lt (HP.out.then (HK1.out.then HK.out)) (Nx.refl V (HK1.out.then HK.out))
      rw [HE.out.1, HE.out.2]
      exact ⟨F', by first | rfl | trivial, q1, q2, q3⟩
  · have q3 : (0 : Int) ≤ dd := by omega
    have q5 : dd ≤ c.pages := by omega
    go_enter Tryd.func30, Tryd.ntmps30
    go_wp2_with (at_len; refine wpList_len_own _ rfl _ 75 rfl 3 78 Tryd.underlying75 _ bo n D rfl hO ?_; rw [hz])
    refine HQ.out.mono ?_
    clear HQ
    rintro e w1 (⟨hf, rfl, hp, k1⟩ | ⟨hf, rfl, k1⟩)
    · have HE := @hideH _ (show chkE c S dd = 0 ∧ chkS c S dd = ⟨S.done, S.opn, S.used + (35 + 26 * (m : Int) + 9 * dd)⟩ by unfold chkE chkS; rw [HC.out, if_pos hf, if_pos hf]; exact ⟨rfl, rfl⟩)
      have nx : Nx w w1 V V := Nx.same k1 (fun x hx => ⟨.g, by rw [HP.out.vg]; simp at hx; rw [hx]; rfl⟩)
      have HN := @hideH _ (And.intro hp nx)
      clear hp k1 hf
      go_wp2_with fail
      refine (qNumber0 _).mono ?_
      rintro e w2 ⟨rfl, k2⟩
      have HK := @hideH _ k2
      clear k2 nx
      go_wp2
      go_ret
      obtain ⟨F', q1, q2, q3⟩ := Nx.face (S := S) (F := F) HV.out.2.1 HV.out.2.2.1 HV.out.2.2.2 HV.out.1.lt (HN.out.1.then HK.out) (HN.out.2.then HK.out)
      rw [HE.out.1, HE.out.2]
      exact ⟨F', by first | rfl | trivial, q1, q2, q3⟩
    · have HE := @hideH _ (show chkE c S dd = 170 ∧ chkS c S dd = S by unfold chkE chkS; rw [HC.out, if_neg (by rw [hf]; decide), if_neg (by rw [hf]; decide)]; exact ⟨rfl, rfl⟩)
      have HK1 := @hideH _ k1
      have HN := @hideH _ (qNumber w1 (HV.out.1.kept k1 (by simp)) (Er.ref 170) (by omega))
      clear k1 hf
      go_wp2_with fail
      refine HN.out.mono ?_
      rintro e w2 ⟨rfl, k2⟩
      have HK := @hideH _ k2
      clear k2 HN
      go_wp2
      go_ret
      obtain ⟨F', q1, q2, q3⟩ := Nx.face (S := S) (F := F) HV.out.2.1 HV.out.2.2.1 HV.out.2.2.2 HV.out.1.lt (HP.out.then (HK1.out.then HK.out)) (Nx.refl V (HK1.out.then HK.out))
      rw [HE.out.1, HE.out.2]
      exact ⟨F', by first | rfl | trivial, q1, q2, q3⟩
set_option maxHeartbeats 1600000 in
theorem fRenew {g : Nat} {F : List Nat} {c : Cf} {S : St} (w : World) (hv : Vr w) (h : Pz w g F c S) : Calls Tryd.prog 31 #[.pointer (some ⟨g, 0, none⟩)] w fun e w' => ∃ F', e = .returned (.int .i64 (renE S)) ∧ Pz w' g F' c (renS S) ∧ Fr w F F' ∧ Kept F w w' := by
  obtain ⟨V, hp, h2, h3, h4⟩ := h
  have HQ := @hideH _ (qIdle w hp)
  have HP := @hideH _ hp
  have B := hp.box
  have c8 := B.cell (j := 8) rfl
  have f8 := B.free 8
  obtain ⟨w1, hw1⟩ : ∃ wx, wx = w.setCell ⟨g, 8, none⟩ (.int .i64 0) := ⟨_, rfl⟩
  obtain ⟨B1, k1⟩ := B.set 8 (.int .i64 0)
  rw [← hw1] at B1 k1
  have HB := @hideH _ (And.intro B1 k1)
  have HV := @hideH _ (And.intro hv (And.intro h2 (And.intro h3 h4)))
  clear hp hv h2 h3 h4 B B1 k1
  go_enter Tryd.func31, Tryd.ntmps31
  go_wp2_with fail
  refine HQ.out.mono ?_
  clear HQ
  rintro e wi ⟨rfl, ⟨ho, rfl⟩ | ⟨ho, rfl⟩⟩
  · have HE := @hideH _ (show renE S = 0 ∧ renS S = ⟨S.done, S.opn, 0⟩ by unfold renE renS; rw [if_pos ho, if_pos ho]; exact ⟨rfl, rfl⟩)
    have ok' : OkS c ⟨S.done, S.opn, 0⟩ := by have q := HP.out.ok.ren; rw [HE.out.2] at q; exact q
    have p1 := HP.out.useT HB.out.2 HB.out.1 ok'
    have nx : Nx wi w1 V V := Nx.same HB.out.2 (fun x hx => ⟨.g, by rw [HP.out.vg]; simp at hx; rw [hx]; rfl⟩)
    have HN := @hideH _ (And.intro p1 nx)
    clear p1 nx ok' ho
    go_upto_region 4 with fail
    rw [← hw1]
    clear hw1
    go_wp2_with fail
    refine (qNumber0 _).mono ?_
    rintro e w2 ⟨rfl, k2⟩
    have HK := @hideH _ k2
    clear k2
    go_wp2
    go_ret
    obtain ⟨F', q1, q2, q3⟩ := Nx.face (S := S) (F := F) HV.out.2.1 HV.out.2.2.1 HV.out.2.2.2 HV.out.1.lt (HN.out.1.then HK.out) (HN.out.2.then HK.out)
    rw [HE.out.1, HE.out.2]
    exact ⟨F', by first | rfl | trivial, q1, q2, q3⟩
  · have HE := @hideH _ (show renE S = 210 ∧ renS S = S by unfold renE renS; rw [if_neg ho, if_neg ho]; exact ⟨rfl, rfl⟩)
    have HN := @hideH _ (qNumber wi HV.out.1 (Er.ref 210) (by omega))
    clear ho
    go_wp2_with fail
    refine HN.out.mono ?_
    rintro e w2 ⟨rfl, k2⟩
    have HK := @hideH _ k2
    clear k2 HN
    go_wp2
    go_ret
    obtain ⟨F', q1, q2, q3⟩ := Nx.face (S := S) (F := F) HV.out.2.1 HV.out.2.2.1 HV.out.2.2.2 HV.out.1.lt (HP.out.then HK.out) (Nx.refl V HK.out)
    rw [HE.out.1, HE.out.2]
    exact ⟨F', by first | rfl | trivial, q1, q2, q3⟩
end Go.Proofs.YtocpagpkpibmaaaDoor

/-
  OWN WORK. The landed plain (layer 18): its State is what the laws ask for.
-/
namespace Go.Proofs.YtocpagpkpibmaaaDoor
open Go.RowKit
theorem fIds {g : Nat} {F : List Nat} {c : Cf} {S : St} (w : World) (h : Pz w g F c S) : Calls Tryd.prog 14 #[.pointer (some ⟨g, 0, none⟩)] w fun e w' => ∃ vi, e = .returned vi ∧ Ns w' w.heap.size vi (idsS S) ∧ Kept [] w w' := by
  obtain ⟨V, hp, -⟩ := h
  exact qIds w hp
theorem pnOps : PnOps [0] Vr Pz where
  kept h k hX := h.kept k hX
  lt h x hx := by
    obtain ⟨V, -, -, h3, -⟩ := h
    exact h3 x hx
  ok h := by
    obtain ⟨V, hp, -⟩ := h
    exact hp.ok
  vkept hv k hX := hv.kept k (hX 0 (by simp))
  vlt hv x hx := by
    have e : x = 0 := by simpa using hx
    rw [e]; exact hv.lt
  knot h x hx := by
    have e : x = 0 := by simpa using hx
    obtain ⟨V, -, -, -, h4⟩ := h
    rw [e]; exact h4
  new c w hv := fNew c w hv
  begin_ id w hv h _ hi := fBegin id w hv h hi
  get id key w hv h hs hi hk := fGet id key w hv h hs hi hk
  put id key v w hv h hs hi hk hu := fPut id key v w hv h hs hi hk hu
  delete id key w hv h hs hi hk := fDelete id key w hv h hs hi hk
  commit id w hv h hs hi := fCommit id w hv h hs hi
  abort id w hv h _ hi := fAbort id w hv h hi
  check d w hv h _ _ := fCheck d w hv h
  renew w hv h _ := fRenew w hv h
  ids w _ h := fIds w h
  used w _ h := fUsed w h
end Go.Proofs.YtocpagpkpibmaaaDoor

/-
  OWN WORK. THE STATEMENT, out of the walk.
-/
namespace Go.Proofs.YtocpagpkpibmaaaDoor.plainSums
open Go.ChangeShapes Go.WideShapes Go.ChangeAt Go.RowKit
set_option linter.unusedVariables false
set_option maxRecDepth 100000 in
theorem contract (H : Type) (enc : TypeId × Value → H) (W : World) (base : Nat) (args : Array Value) (ds gs : List (DataW H)) (before : List MemPlace)
    (hval : ∀ (j : Nat) t v, Tryd.f4.params[j]? = some t → args[j]? = some v → Value.okWide Tryd.prog W .any base t v)
    (hW : DataW.Whole enc Tryd.prog Tryd.f4.params.toList Rows.plainSumsSpec.vars false W args.toList ds gs before) (hsz : (DataW.weightsEach Tryd.prog (Tryd.f4.params.toList ++ Rows.plainSumsSpec.plain.varTypes Tryd.prog) (ds ++ gs)).all (· ≤ reachBytes) = true) (hv : Vr W) :
    Calls Tryd.prog 4 args W fun e W' => ∃ v, e = .returned v ∧ Rows.plainSumsSpec.post enc Tryd.prog Tryd.f4 false true false false W args v W' := by
  have hW' := hW
  obtain ⟨p, q, hA0, hV, rfl, hfz, hnd⟩ := hW
  have hA : DataW.TrodAll enc Tryd.prog W 0 (fun _ => true) true Tryd.f4.params.toList args.toList ds p := hA0
  rw [Tryd.params4] at hA hval hsz
  obtain ⟨v0, vs0, d0, ds0, p0, q0, hargs, rfl, rfl, h0, r0⟩ := trodAll_cons hA
  obtain ⟨v1, vs1, d1, ds1, p1, q1, rfl, rfl, rfl, h1, r1⟩ := trodAll_cons r0
  obtain ⟨rfl, rfl, rfl⟩ := trodAll_nil r1
  obtain rfl : args = #[v0, v1] := by cases args; simp_all
  obtain ⟨rfl, rfl⟩ := trodVars_none hV
  have hv0 : Value.okWide Tryd.prog W .any base 39 v0 := hval 0 39 v0 (by rfl) (by rfl)
  obtain ⟨cs0, rfl, sz0⟩ := okWide_struct (P := Tryd.prog) (t := 39) Tryd.underlying39 hv0
  clear hv0
  have lt0 : ∀ x ∈ p0, x.block < W.heap.size := by obtain ⟨m, hm⟩ := h0; exact DataW.trod_lt m _ _ _ hm
  obtain ⟨c0, hag0, ri0⟩ := conf_open (sz0.trans (by kernel_rfl)) h0
  rw [hag0] at h0 hW' ⊢
  obtain ⟨ao1, len1, cap1, rfl⟩ := okWide_slice Tryd.underlying40 (hval 1 40 v1 rfl rfl)
  have lt1 : ∀ x ∈ p1, x.block < W.heap.size := by obtain ⟨m, hm⟩ := h1; exact DataW.trod_lt m _ _ _ hm
  obtain ⟨l1, hl1, B1, dd1⟩ := ops_open h1
  clear hA0
  have szl1 : l1.length ≤ 3600000000000 := by
    rcases dd1 with ⟨_, e⟩ | ⟨el, sp, rfl, e⟩
    · rw [hl1, e]; omega
    · have := sized_slice hsz (j := 1) (t := 40) rfl rfl Tryd.underlying40
      rw [show Tryd.prog.bytesOf 51 = 40 by kernel_rfl] at this
      simp only [reachBytes] at this
      rw [hl1, ← e]
      omega
  refine (plainSums_walk pnOps c0 _ l1 W hv B1 szl1).mono fun e W' ⟨he, kp⟩ => ?_
  subst he
  have bel := kp.below
  exact ⟨_, rfl, _, _, _, [], _, [], hW', trodAll_mk1 (shut_bool Tryd.underlying4 _), (trodAll_cons_mk (Below.trod laidOut (by kernel_rfl) (of_decide_eq_true (by kernel_rfl)) h0 bel lt0) (trodAll_cons_mk (Below.trod laidOut (by kernel_rfl) (of_decide_eq_true (by kernel_rfl)) h1 bel lt1) trodAll_mk0)), rfl, bel.frame _, fun h => by cases h⟩

set_option maxRecDepth 100000 in
theorem lifted (os : Os) (started : os.Started) (H : Type) (enc : TypeId × Value → H) :
    ReturnsInHanded {} Tryd.checked os 4 .any (fun w args => (Rows.plainSumsSpec.pre enc Tryd.prog Tryd.f4 [] false w args ∧ laidMetH Tryd.prog laidL w) ∧ sizedMet enc Tryd.prog Tryd.f4 (OpenSpec.ofChange Rows.plainSumsSpec) false w args)
      (Rows.plainSumsSpec.post enc Tryd.prog Tryd.f4 false true false false) := by
  refine returnsInHanded_of_change_and (C := Tryd.checked) (X := fun w _ => laidMetH Tryd.prog laidL w) (fun _ _ _ hh h => h.of_heap hh) own started (by kernel_rfl) Tryd.func4
    (ChangeSpec.witness_at (enc := enc) (C := Tryd.checked) (os := os) (X := fun w _ => laidMetH Tryd.prog laidL w) false (laidWorld os) #[.agg #[.int .i64 0, .int .i64 0, .int .i64 0, .int .i64 0, .int .i64 0, .int .i64 0], .slice none 0 0] 8 rfl (by kernel_rfl) (by kernel_rfl) (by kernel_rfl) (by kernel_rfl) (by kernel_rfl) (laidWorld_met os _)) ?_
  intro W base args ds gs before hval hW _ hsz hL _
  exact contract H enc W base args ds gs before hval hW hsz (vr_of_laid hL)

theorem proved : Rows.PlainSumsSaid :=
  OpenClaim.holds_of_wide 4 Tryd.f4 rfl rfl rfl rfl rfl rfl rfl ⟨rfl, rfl, rfl, rfl, rfl⟩ rfl rfl rfl rfl rfl (by kernel_rfl) Tryd.func4 (by kernel_rfl)
    (of_decide_eq_true (by kernel_rfl)) (by unfold Func.isWrapper; first | (rw [if_pos (by decide +kernel)]; kernel_rfl) | (rw [if_neg (by decide +kernel)]; exact ⟨rfl, rfl⟩))
    (fun os started H enc _ => lifted os started H enc)

theorem card : Rows.PlainSumsCardSaid :=
  Claim7.holds_tied_plain_at .later [] [.handle] true Rows.plainSumsCard.stood.harness true
    (proved) (fun _ h => by cases h) (by kernel_rfl) (fun _ h => by cases h) plainSums_row_tie rfl ⟨rfl, rfl⟩ (by kernel_rfl) rfl
    (fun f fn hf hfn => by
      obtain rfl : f = 4 := Option.some.inj ((show Tryd.prog.funcNamed "tidemark/tidemarklaw18.PlainSums" = some 4 by kernel_rfl).symm.trans hf) |>.symm
      obtain rfl : fn = Tryd.f4 := (Option.some.inj (Tryd.func4.symm.trans hfn)).symm
      exact ⟨by kernel_rfl, fun j t ht => by
        rw [Tryd.params4] at ht
        rcases j with _ | _ | j
        · obtain rfl : t = 39 := by simpa using ht.symm
          exact (show Tryd.prog.wantsStandIn 39 = false by kernel_rfl)
        · obtain rfl : t = 40 := by simpa using ht.symm
          exact (show Tryd.prog.wantsStandIn 40 = false by kernel_rfl)
        · simp at ht⟩)
    (by kernel_rfl)
#print axioms card
end Go.Proofs.YtocpagpkpibmaaaDoor.plainSums

