import Derived.Test.YtnjfahgmebmakaaGreatDoorC10
/-
  OWN WORK (by mkpp5.py). The landed plain (layer 18): how its State lies behind a change.
-/
namespace Go.Proofs.YtnjfahgmebmakaaGreatDoor
open Go.RowKit Go.Maps
set_option linter.unusedVariables false
set_option linter.unusedSimpArgs false
/-- the page's own map is no other part of the State -/
theorem own_apart {w : World} {V : Tag → Value} {g : Nat} {c : Cf} {S : St} (h : PpP w V g c S) {t : Tn} {p : Int} {b : Nat} (hb : (p ∈ t.pages ∧ V (.ow t.id p) = .map (some b)) ∨ (p ∉ t.pages ∧ w.heap.size ≤ b)) {a : Tag} {z : Nat} (ha : a ≠ .ow t.id p) (hz : blkOf (V a) = some z) : b ≠ z := fun e => by
  subst e
  rcases hb with ⟨-, q⟩ | ⟨-, q⟩
  · exact ha (h.inj.inj _ _ _ hz (by rw [q]; rfl))
  · have := h.inj.lt _ _ hz; omega
theorem own_part {w : World} {V : Tag → Value} {t : Tn} {p : Int} {b : Nat} (hb : (p ∈ t.pages ∧ V (.ow t.id p) = .map (some b)) ∨ (p ∉ t.pages ∧ w.heap.size ≤ b)) : w.heap.size ≤ b ∨ blkOf (V (.ow t.id p)) = some b := by
  rcases hb with ⟨-, q⟩ | ⟨-, q⟩
  · exact .inr (by rw [q]; rfl)
  · exact .inl q
section
variable {w1 w6 w7 w8 : World} {V : Tag → Value} {g : Nat} {c : Cf} {S : St} {t : Tn} {kx x hd b m : Nat} {pg : Int} {D : DataW Unit} {y : Chg}
/-- .. one that changes nothing -/
theorem PpP.chg0 (P1 : PpP w1 V g c S) (hkx : S.opn[kx]? = some t) (exx : V (.tx t.id) = .pointer (some ⟨x, 0, none⟩)) (ehd : V (.hd t.id) = .map (some hd)) (hpg : pg = y.key % c.pages) (hpr : 0 ≤ pg ∧ pg < c.pages) (hbu : busy S.opn t.id (y.key % c.pages) = false) (hy : okC c y) (hl : ¬ 0 < lenC S t y)
    (hbb : (pg ∈ t.pages ∧ V (.ow t.id pg) = .map (some b)) ∨ (pg ∉ t.pages ∧ w1.heap.size ≤ b)) (k16 : Kept [] w1 w6) (hb6 : b < w6.heap.size) (v7 : Vm w7 b (layE y y.gone (pgT c S t pg))) (k7 : Kept [b] w6 w7) (hT : Tel D (.int .i64 0) (fH V t)) (hD : Maps.IsMap D) (k8 : Kept [hd] w7 w8) (o8 : w8.ownsMap Tryz.prog 3 mapElem hd m (D.put (.int .i64 pg) (.lit (.int .i64 ((b : Int) + 1))))) :
    ∃ V', PpP w8 V' g c (chgS c S t (y.key % c.pages) y) ∧ Nx w1 w8 V V' := by
  have hm := List.mem_of_getElem? hkx
  have e := (chg_zero (page := y.key % c.pages) P1.ok hkx rfl hl).2
  rw [← hpg] at e
  have bg := own_apart P1 hbb (a := .g) (z := g) (by simp) (by rw [P1.vg]; rfl)
  have bx := own_apart P1 hbb (a := .tx t.id) (z := x) (by simp) (by rw [exx]; rfl)
  have bh := own_apart P1 hbb (a := .hd t.id) (z := hd) (by simp) (by rw [ehd]; rfl)
  have gh : g ≠ hd := fun q => by have := P1.inj.inj .g (.hd t.id) g (by rw [P1.vg]; rfl) (by rw [ehd, q]; rfl); cases this
  have xh : x ≠ hd := fun q => by have := P1.inj.inj (.tx t.id) (.hd t.id) x (by rw [exx]; rfl) (by rw [ehd, q]; rfl); cases this
  have kk : Kept [b, hd] w1 w8 := (((k16.mono (T := [b, hd]) (by simp)).trans (k7.mono (T := [b, hd]) (by simp)) (fun z hz => .inl hz)).trans (k8.mono (T := [b, hd]) (by simp)) (fun z hz => .inl hz))
  have T1 := P1.txs t hm
  obtain ⟨x', ex, hbx⟩ := T1.box
  obtain rfl : x = x' := by rw [exx] at ex; simpa using ex
  rw [ehd] at hbx
  have hs := lay_same hy (sees_u64 P1.ok hm y.key) hl
  rw [← hpg] at hs
  rw [hs] at v7
  obtain ⟨V', p', n'⟩ := P1.hold (w' := w8) (t' := heldT t pg) (p := pg) (x := x) (hd := hd) (b := b) (N1 := w6.heap.size) (vc := V (.ch t.id)) (X := [b, hd]) (u := S.used) hkx (heldT_id t pg).1 rfl exx ehd
    (hbb.imp id (fun q => ⟨q.1, q.2, hb6⟩)) ⟨k16.size, Nat.le_trans k7.size k8.size⟩ kk (P1.box.kept kk (by simp [Ne.symm bg, gh]))
    (fun z hz => by
      rcases List.mem_cons.1 hz with q | hz
      · rw [q]; rcases own_part hbb with r | r
        · exact .inl r
        · exact .inr (.inr (.inr (.inr (.inr r))))
      · exact .inr (.inr (.inr (.inl (by rw [ehd, show z = hd by simpa using hz]; rfl))))) (fun z hz => .inr hz)
    (by rw [(heldT_id t pg).2.1]; exact hbx.kept kk (by simp [Ne.symm bx, xh]))
    (by
      rw [(heldT_id t pg).2.2.1]
      exact T1.chs.kept kk (fun z hz hm' => by
        have ez : blkOf (V (.ch t.id)) = some z := by rw [Row.blkOf T1.chs]; exact hz
        rcases List.mem_cons.1 hm' with q | hm'
        · exact own_apart P1 hbb (a := .ch t.id) (z := z) (by simp) ez q.symm
        · have q : z = hd := by simpa using hm'
          rw [q] at ez
          have := P1.inj.inj (.ch t.id) (.hd t.id) hd ez (by rw [ehd]; rfl)
          cases this))
    hT hD o8 (by rw [pgT_held]; exact v7.kept k8 (by simpa using bh)) (fun q _ _ => pgT_held c S t q pg)
    (P1.ok.hold hkx hpr) (P1.ok2.hold P1.ok hkx (by rw [hpg]; exact hbu) S.used)
  rw [hpg] at *
  rw [e]
  refine ⟨V', p', n', [b, hd].filter (fun z => decide (z < w1.heap.size)), ?_, fun z hz => ?_⟩
  · refine ⟨kk.os, kk.tape, kk.output, kk.size, fun z hz hn => kk.block z hz (fun q => hn (List.mem_filter.2 ⟨q, by simpa using hz⟩))⟩
  · obtain ⟨q1, q2⟩ := List.mem_filter.1 hz
    have hlt : z < w1.heap.size := by simpa using q2
    rcases List.mem_cons.1 q1 with q | q
    · rcases own_part hbb with r | r
      · omega
      · exact ⟨_, by rw [q]; exact r⟩
    · exact ⟨.hd t.id, by rw [ehd, show z = hd by simpa using q]; rfl⟩
/-- .. one that is an update -/
theorem PpP.chg1 {w5 wL : World} {n : Int} {vc : Value} (P1 : PpP w1 V g c S) (hkx : S.opn[kx]? = some t) (exx : V (.tx t.id) = .pointer (some ⟨x, 0, none⟩)) (ehd : V (.hd t.id) = .map (some hd)) (hpg : pg = y.key % c.pages) (hpr : 0 ≤ pg ∧ pg < c.pages) (hbu : busy S.opn t.id (y.key % c.pages) = false) (hy : okC c y) (hn : n = lenC S t y) (hl : 0 < n) (hfit : fitsS c S (38 + 2 * n) (46 + n) = true)
    (hbb : (pg ∈ t.pages ∧ V (.ow t.id pg) = .map (some b)) ∨ (pg ∉ t.pages ∧ w1.heap.size ≤ b)) (k15 : Kept [] w1 w5) (hb5 : b < w5.heap.size) (PL : PpP wL V g c ⟨S.done, S.opn, S.used + (38 + 2 * n)⟩) (k5L : Kept [g] w5 wL) (kL6 : Kept (x :: (V (.ch t.id)).ownBlock.toList) wL w6) (bx6 : Blk w6 x 116 [V (.hd t.id), vc, .int .i64 (t.kept + (46 + n))]) (cs6 : Cs w6 0 vc (t.chs ++ [y])) (hvc : blkOf vc = blkOf (V (.ch t.id)) ∨ ∃ z, blkOf vc = some z ∧ wL.heap.size ≤ z ∧ z < w6.heap.size)
    (v7 : Vm w7 b (layE y y.gone (pgT c S t pg))) (k7 : Kept [b] w6 w7) (hT : Tel D (.int .i64 0) (fH V t)) (hD : Maps.IsMap D) (k8 : Kept [hd] w7 w8) (o8 : w8.ownsMap Tryz.prog 3 mapElem hd m (D.put (.int .i64 pg) (.lit (.int .i64 ((b : Int) + 1))))) :
    ∃ V', PpP w8 V' g c (chgS c S t (y.key % c.pages) y) ∧ Nx w1 w8 V V' := by
  have hm := List.mem_of_getElem? hkx
  have e := (chg_fit (page := y.key % c.pages) P1.ok hkx hn hl hfit).2
  rw [← hpg] at e
  have n16 : n ≤ 16 := by rw [hn]; exact lenC_le S t y
  have T1 := P1.txs t hm
  have hch := Row.blkOf T1.chs
  have bg := own_apart P1 hbb (a := .g) (z := g) (by simp) (by rw [P1.vg]; rfl)
  have bx := own_apart P1 hbb (a := .tx t.id) (z := x) (by simp) (by rw [exx]; rfl)
  have bh := own_apart P1 hbb (a := .hd t.id) (z := hd) (by simp) (by rw [ehd]; rfl)
  have vg : blkOf (V .g) = some g := by rw [P1.vg]; rfl
  have vx : blkOf (V (.tx t.id)) = some x := by rw [exx]; rfl
  have vh : blkOf (V (.hd t.id)) = some hd := by rw [ehd]; rfl
  have gh : g ≠ hd := fun q => by rw [← q] at vh; have := P1.inj.inj _ _ _ vg vh; cases this
  have xh : x ≠ hd := fun q => by rw [← q] at vh; have := P1.inj.inj _ _ _ vx vh; cases this
  have gx : g ≠ x := fun q => by rw [← q] at vx; have := P1.inj.inj _ _ _ vg vx; cases this
  have chn : ∀ z ∈ (V (.ch t.id)).ownBlock.toList, blkOf (V (.ch t.id)) = some z ∧ z ≠ g ∧ z ≠ x ∧ z ≠ hd ∧ b ≠ z := fun z hz => by
    have ez : blkOf (V (.ch t.id)) = some z := by rw [hch]; exact own_mem.1 hz
    refine ⟨ez, fun q => ?_, fun q => ?_, fun q => ?_, own_apart P1 hbb (a := .ch t.id) (by simp) ez⟩
    · rw [q] at ez; have := P1.inj.inj _ _ _ ez vg; cases this
    · rw [q] at ez; have := P1.inj.inj _ _ _ ez vx; cases this
    · rw [q] at ez; have := P1.inj.inj _ _ _ ez vh; cases this
  obtain ⟨X, hX⟩ : ∃ X, X = g :: x :: b :: hd :: (V (.ch t.id)).ownBlock.toList := ⟨_, rfl⟩
  have k1L : Kept X w1 wL := (k15.mono (T := X) (by simp)).trans (k5L.mono (T := X) (by intro z hz; rw [hX]; simp at hz; simp [hz])) (fun z hz => .inl hz)
  have k16 : Kept X w1 w6 := k1L.trans (kL6.mono (T := X) (by intro z hz; rw [hX]; rcases List.mem_cons.1 hz with q | q; simp [q]; simp only [List.mem_cons]; exact .inr (.inr (.inr (.inr q))))) (fun z hz => .inl hz)
  have k17 : Kept X w1 w7 := k16.trans (k7.mono (T := X) (by intro z hz; rw [hX]; simp at hz; simp [hz])) (fun z hz => .inl hz)
  have kk : Kept X w1 w8 := k17.trans (k8.mono (T := X) (by intro z hz; rw [hX]; simp at hz; simp [hz])) (fun z hz => .inl hz)
  have hbL : b < wL.heap.size := Nat.lt_of_lt_of_le hb5 k5L.size
  have hgL : g ∉ x :: (V (.ch t.id)).ownBlock.toList := fun q => by
    rcases List.mem_cons.1 q with q | q
    · exact gx q
    · exact (chn _ q).2.1 rfl
  have sz6 : wL.heap.size ≤ w6.heap.size := kL6.size
  have sz8 : w6.heap.size ≤ w8.heap.size := Nat.le_trans k7.size k8.size
  have hxL : hd < wL.heap.size := Nat.lt_of_lt_of_le (P1.inj.lt _ _ vh) k1L.size
  have vcb : ∀ z, blkOf vc = some z → z ≠ b ∧ z ≠ hd := fun z hz => by
    rcases hvc with q | ⟨z', q1, q2, -⟩
    · rw [q] at hz
      have r := chn z (own_mem.2 (by rw [← hch]; exact hz))
      exact ⟨fun s => r.2.2.2.2 s.symm, r.2.2.2.1⟩
    · rw [q1] at hz
      have ez : z' = z := Option.some.inj hz
      omega
  have hbg := ((PL.box.kept kL6 hgL).kept k7 (by simpa using Ne.symm bg)).kept k8 (by simpa using gh)
  have hok := P1.ok.chg hkx hy hpr (n := n) ⟨by omega, n16⟩ hfit
  have hok2 := P1.ok2.chg P1.ok hkx (x := y) n hbu (S.used + 38 + 2 * n)
  rw [← hpg] at hok2
  obtain ⟨V', p', n'⟩ := P1.hold (w' := w8) (t' := heldT ⟨t.id, t.pages, t.chs ++ [y], t.lens ++ [n]⟩ pg) (p := pg) (x := x) (hd := hd) (b := b) (N1 := wL.heap.size) (vc := vc) (X := X) (u := S.used + 38 + 2 * n) hkx (heldT_id ⟨t.id, t.pages, t.chs ++ [y], t.lens ++ [n]⟩ pg).1
    (by unfold heldT; dsimp only; split <;> rfl) exx ehd
    (hbb.imp id (fun q => ⟨q.1, q.2, hbL⟩)) ⟨k1L.size, Nat.le_trans sz6 sz8⟩ kk (by rw [show S.used + 38 + 2 * n = S.used + (38 + 2 * n) by omega]; exact hbg)
    (fun z hz => by
      rw [hX] at hz
      rcases List.mem_cons.1 hz with q | hz
      · exact .inr (.inl q)
      · rcases List.mem_cons.1 hz with q | hz
        · exact .inr (.inr (.inl (by rw [q]; exact vx)))
        · rcases List.mem_cons.1 hz with q | hz
          · rw [q]; rcases own_part hbb with r | r
            · exact .inl r
            · exact .inr (.inr (.inr (.inr (.inr r))))
          · rcases List.mem_cons.1 hz with q | hz
            · exact .inr (.inr (.inr (.inl (by rw [q]; exact vh))))
            · exact .inr (.inr (.inr (.inr (.inl (chn z hz).1)))))
    (fun z hz => by
      rcases hvc with q | ⟨z', q1, q2, q3⟩
      · exact .inr (by rw [← q]; exact hz)
      · rw [q1] at hz
        have ez : z' = z := Option.some.inj hz
        exact .inl (by omega))
    (by
      rw [(heldT_id ⟨t.id, t.pages, t.chs ++ [y], t.lens ++ [n]⟩ pg).2.1, show (⟨t.id, t.pages, t.chs ++ [y], t.lens ++ [n]⟩ : Tn).kept = t.kept + (46 + n) by simp only [Tn.kept, sumL_append, sumL]; omega]
      rw [ehd] at bx6
      exact (bx6.kept k7 (by simpa using Ne.symm bx)).kept k8 (by simpa using xh))
    (by
      rw [(heldT_id ⟨t.id, t.pages, t.chs ++ [y], t.lens ++ [n]⟩ pg).2.2.1]
      have q := cs6.kept k7 (fun z hz hzb => (vcb z (by rw [Row.blkOf cs6]; exact hz)).1 (by simpa using hzb))
      exact q.kept k8 (fun z hz hzb => (vcb z (by rw [Row.blkOf cs6]; exact hz)).2 (by simpa using hzb)))
    hT hD o8 (by rw [pgT_held, pgT_chg, if_pos hpg.symm]; exact v7.kept k8 (by simpa using bh))
    (fun q _ hq => by rw [pgT_held, pgT_chg, if_neg (fun r => hq (by rw [hpg]; exact r.symm))]) hok hok2
  rw [hpg] at *
  rw [e]
  refine ⟨V', p', n', X.filter (fun z => decide (z < w1.heap.size)), ?_, fun z hz => ?_⟩
  · refine ⟨kk.os, kk.tape, kk.output, kk.size, fun z hz hn => kk.block z hz (fun q => hn (List.mem_filter.2 ⟨q, by simpa using hz⟩))⟩
  · obtain ⟨q1, q2⟩ := List.mem_filter.1 hz
    have hlt : z < w1.heap.size := by simpa using q2
    rw [hX] at q1
    rcases List.mem_cons.1 q1 with q | q1
    · exact ⟨.g, by rw [q]; exact vg⟩
    · rcases List.mem_cons.1 q1 with q | q1
      · exact ⟨.tx t.id, by rw [q]; exact vx⟩
      · rcases List.mem_cons.1 q1 with q | q1
        · rcases own_part hbb with r | r
          · omega
          · exact ⟨_, by rw [q]; exact r⟩
        · rcases List.mem_cons.1 q1 with q | q1
          · exact ⟨.hd t.id, by rw [q]; exact vh⟩
          · exact ⟨.ch t.id, (chn z q1).1⟩
end
end Go.Proofs.YtnjfahgmebmakaaGreatDoor

