import Derived.Test.YtocpagpkpibmaaaGreatDoorC10
/-
  OWN WORK. The landed plain (layer 18): how its State lies behind a page that one holds, and behind a change; get.
-/
namespace Go.Proofs.YtocpagpkpibmaaaGreatDoor
open Go.RowKit Go.Maps
set_option linter.unusedVariables false
set_option linter.unusedSimpArgs false
theorem PpP.hold {w w' : World} {V : Tag → Value} {g : Nat} {c : Cf} {S : St} (h : PpP w V g c S) {k : Nat} {t t' : Tn} (hk : S.opn[k]? = some t) {p : Int} (hid : t'.id = t.id) (hpg : t'.pages = (heldT t p).pages) {x hd b n N1 : Nat} {D : DataW Unit} {vc : Value} {X : List Nat}
    (ex : V (.tx t.id) = .pointer (some ⟨x, 0, none⟩)) (ehd : V (.hd t.id) = .map (some hd)) (hb : (p ∈ t.pages ∧ V (.ow t.id p) = .map (some b)) ∨ (p ∉ t.pages ∧ w.heap.size ≤ b ∧ b < N1)) (hN : w.heap.size ≤ N1 ∧ N1 ≤ w'.heap.size)
    (kk : Kept X w w') {u : Int} (hbg : Blk w' g 80 [.int .i64 c.pages, .int .i64 c.slots, .int .i64 c.log, .int .i64 c.frames, .int .i64 c.table, .int .i64 c.keys, V .bp, V .bo, .int .i64 u, V .vd]) (hX : ∀ y ∈ X, w.heap.size ≤ y ∨ y = g ∨ blkOf (V (.tx t.id)) = some y ∨ blkOf (V (.hd t.id)) = some y ∨ blkOf (V (.ch t.id)) = some y ∨ blkOf (V (.ow t.id p)) = some y)
    (hvc : ∀ y, blkOf vc = some y → (N1 ≤ y ∧ y < w'.heap.size) ∨ blkOf (V (.ch t.id)) = some y) (hbx : Blk w' x 116 [.map (some hd), vc, .int .i64 t'.kept]) (hcs : Cs w' 0 vc t'.chs)
    (hT : Tel D (.int .i64 0) (fH V t)) (hD : Maps.IsMap D) (ho : w'.ownsMap Tryz.prog 3 mapElem hd n (D.put (.int .i64 p) (.lit (.int .i64 ((b : Int) + 1))))) (hv : Vm w' b (pgT c S t' p)) (hq : ∀ q ∈ t.pages, q ≠ p → pgT c S t' q = pgT c S t q)
    (hok : OkS c ⟨S.done, S.opn.set k t', u⟩) (hok2 : Ok2 c ⟨S.done, S.opn.set k t', u⟩) : ∃ V', PpP w' V' g c ⟨S.done, S.opn.set k t', u⟩ ∧ ∀ a y, blkOf (V' a) = some y → (∃ d, blkOf (V d) = some y) ∨ w.heap.size ≤ y := by
  have hm := List.mem_of_getElem? hk
  have hmem' : t' ∈ S.opn.set k t' := List.mem_set (List.getElem?_eq_some_iff.1 hk).1 _
  obtain ⟨V', hV'⟩ : ∃ V', V' = upd (upd V (.ow t.id p) (.map (some b))) (.ch t.id) vc := ⟨_, rfl⟩
  have hother : ∀ a, a ≠ .ow t.id p → a ≠ .ch t.id → V' a = V a := fun a h1 h2 => by rw [hV', upd_other h2, upd_other h1]
  have eow : V' (.ow t.id p) = .map (some b) := by rw [hV', upd_other (by simp), upd_same]
  have ech : V' (.ch t.id) = vc := by rw [hV', upd_same]
  have i1 : Inj N1 (upd V (.ow t.id p) (.map (some b))) := h.inj.upd hN.1 (fun y hy => by
    cases hy
    rcases hb with ⟨-, e⟩ | ⟨-, e⟩
    · exact .inr (by rw [e]; rfl)
    · exact .inl e)
  have hinj : Inj w'.heap.size V' := by
    rw [hV']
    refine i1.upd hN.2 (fun y hy => ?_)
    rcases hvc y hy with q | q
    · exact .inl q
    · exact .inr (by rw [upd_other (by simp)]; exact q)
  have hTx : TxP w' V' c S t' := by
    have e1 : V' (.tx t'.id) = V (.tx t.id) := by rw [hid]; exact hother _ (by simp) (by simp)
    have e2 : V' (.hd t'.id) = V (.hd t.id) := by rw [hid]; exact hother _ (by simp) (by simp)
    have mem' : ∀ q, q ∈ t'.pages ↔ q ∈ t.pages ∨ q = p := fun q => by rw [hpg]; exact mem_held
    refine ⟨⟨x, by rw [e1]; exact ex, by rw [e2, ehd, hid, ech]; exact hbx⟩, ⟨hd, by rw [e2]; exact ehd, Mp.of ho ((hT.put hD p (.int .i64 ((b : Int) + 1))).congr fun q => ?_) ?_⟩, by rw [hid, ech]; exact hcs, fun q hq' => ?_⟩
    · unfold fH
      by_cases e : q = p
      · rw [if_pos e, if_pos ((mem' q).2 (.inr e)), e, hid, eow]; rfl
      · rw [if_neg e, hid, hother (.ow t.id q) (by simp [e]) (by simp)]
        by_cases r : q ∈ t.pages
        · rw [if_pos r, if_pos ((mem' q).2 (.inl r))]
        · rw [if_neg r, if_neg (fun s => by rcases (mem' q).1 s with s | s; exact r s; exact e s)]
    · have ot := hok.tns t' hmem'
      refine ⟨ot.pgs.1, fun q => ?_, fun q hq' => ?_⟩
      · unfold fH
        split <;> simp_all
      · have := ot.pgs.2 q hq'; have := h.ok.may.1; exact ⟨by omega, by omega⟩
    · by_cases e : q = p
      · subst e
        exact ⟨b, by rw [hid]; exact eow, hv⟩
      · rcases (mem' q).1 hq' with r | r
        · obtain ⟨o, e3, h3⟩ := (h.txs t hm).own q r
          refine ⟨o, by rw [hid, hother (.ow t.id q) (by simp [e]) (by simp)]; exact e3, ?_⟩
          rw [hq q r e]
          refine h3.kept kk (fun hy => ?_)
          have e4 : blkOf (V (.ow t.id q)) = some o := by rw [e3]; rfl
          rcases hX o hy with s | s | s | s | s | s
          · have := h3.lt; omega
          · rw [s] at e4; have := h.inj.inj _ _ _ e4 (show blkOf (V .g) = some g by rw [h.vg]; rfl); cases this
          · have := h.inj.inj _ _ _ e4 s; cases this
          · have := h.inj.inj _ _ _ e4 s; cases this
          · have := h.inj.inj _ _ _ e4 s; cases this
          · have := h.inj.inj _ _ _ e4 s; simp at this; exact e this
        · exact absurd r e
  refine ⟨V', h.setT hk hid kk (fun y hy => ?_) (fun a ha => hother a (by intro e; subst e; simp [ofT] at ha) (by intro e; subst e; simp [ofT] at ha)) (hbg := hbg) (hother _ (by simp) (by simp)) hTx hinj hok hok2, fun a y ha => ?_⟩
  · rcases hX y hy with s | s | s | s | s | s
    · exact .inl s
    · exact .inr (.inl s)
    · exact .inr (.inr ⟨.tx t.id, by simp [ofT], s⟩)
    · exact .inr (.inr ⟨.hd t.id, by simp [ofT], s⟩)
    · exact .inr (.inr ⟨.ch t.id, by simp [ofT], s⟩)
    · exact .inr (.inr ⟨.ow t.id p, by simp [ofT], s⟩)
  · rw [hV'] at ha
    unfold upd at ha
    split at ha
    · rcases hvc y ha with q | q
      · exact .inr (by omega)
      · exact .inl ⟨_, q⟩
    · split at ha
      · cases ha
        rcases hb with ⟨-, e⟩ | ⟨-, e⟩
        · exact .inl ⟨.ow t.id p, by rw [e]; rfl⟩
        · exact .inr e.1
      · exact .inl ⟨a, ha⟩
theorem ask_busy {c : Cf} {S : St} {id key : Int} (h : askE c S id key = 0) : busy S.opn id (key % c.pages) = false := by
  unfold askE at h
  split at h
  · cases h
  · split at h
    · cases h
    · split at h
      · cases h
      · rename_i q; simpa using q
theorem pgT_len {c : Cf} {S : St} {k : Nat} {t : Tn} (hk : S.opn[k]? = some t) (p : Int) (hs : small S) : (pgT c S t p).length ≤ 3600000000000 := by
  have e1 : (pgT c S t p).length ≤ (foldE (foldL S.done) t.chs).length := List.length_filter_le _ _
  have e2 := foldE_len t.chs (foldL S.done)
  have e3 := foldL_len S.done []
  have e4 := chsN_at hk
  unfold small cnt at hs
  have e5 : (foldL S.done).length ≤ S.done.flatten.length := by unfold foldL; simpa using e3
  omega
theorem zeroMap (w : World) : (zeroValue 88).run Tryz.prog w = .ok (.map none) w := by
  go_simp
  try rfl
theorem zeroU64 (w : World) : (zeroValue 45).run Tryz.prog w = .ok (.int .u64 0) w := by
  go_simp
  try rfl
/-- what a map of values tells of a key -/
theorem Vm.look {w : World} {b : Nat} {l : List (Int × Int)} (h : Vm w b l) {key : Int} (hi : I64 key) : ∃ (n : Nat) (D : DataW Unit), w.ownsMap Tryz.prog 3 (plainElem Tryz.prog 45) b n D ∧ Maps.has D (.int .i64 key) = (pairO (lookE l key)).2 ∧ D.atKey (.int .i64 key) (.lit (.int .u64 0)) = .lit (.int .u64 (pairO (lookE l key)).1) ∧ Maps.size D = l.length := by
  obtain ⟨⟨D, hO, hT, hK⟩, hr⟩ := h
  refine ⟨_, D, hO, ?_, ?_, by rw [(size_ks hO hT hK).2, List.length_map]⟩
  · rw [hT.has key hi, fV_isSome]
    cases lookE l key <;> rfl
  · rw [hT.atk key hi]
    unfold fV
    cases lookE l key <;> rfl
set_option maxRecDepth 20000 in
set_option maxHeartbeats 3200000 in
theorem qGet {V : Tag → Value} {g : Nat} {c : Cf} {S : St} (id key : Int) (w : World) (h : PpP w V g c S) (hs : small S) (hi : I64 id) (hk : I64 key) : Calls Tryz.prog 42 #[.pointer (some ⟨g, 0, none⟩), .int .i64 id, .int .i64 key] w fun e w' => ∃ V' v, e = .returned (.tuple #[.int .u64 (getA c S id key).1, .bool (getA c S id key).2.1, v]) ∧ ErOk (getA c S id key).2.2 v ∧ PpP w' V' g c (getS c S id key) ∧ Nx w w' V V' := by
  have HP := @hideH _ h
  have HQ := @hideH _ (qAsk id key w h hi hk)
  have HS := @hideH _ hs
  have hkey := keyOf_int_mk (P := Tryz.prog) (k := 3) Tryz.underlying3 (wf_of_i64 hk)
  clear h hs
  go_enter Tryz.func42, Tryz.ntmps42
  go_wp2_with fail
  refine HQ.out.mono ?_
  clear HQ
  rintro e w1 ⟨k1, ⟨ha, rfl⟩ | ⟨ha, t, x, hf, hx, rfl⟩⟩
  · have HE := @hideH _ (And.intro ha (get_no ha))
    have HK := @hideH _ k1
    clear ha k1
    obtain ⟨E, hE⟩ : ∃ E, E = askE c S id key := ⟨_, rfl⟩
    rw [← hE] at HE
    have HEE := @hideH _ hE
    simp only [← hE]
    clear hE
    go_wp2_with fail
    refine (qWrap _ _ _ _).mono ?_
    rintro e wv ⟨rfl, rfl⟩
    go_wp2
    go_ret3
    rw [HE.out.2.1, HE.out.2.2]
    exact ⟨V, _, by first | rfl | trivial, .inr ⟨HE.out.1, 1, by omega, Er.wrap _ (Er.ref E)⟩, HP.out.then HK.out, Nx.refl V HK.out⟩
  · obtain ⟨kx, hkx⟩ := HP.out.idx hf
    obtain ⟨hm, hid⟩ := findO_some hf
    have hpr := ask_page HP.out.ok ha
    have P1 := HP.out.then k1
    obtain ⟨pg, hpg⟩ : ∃ pg, pg = key % c.pages := ⟨_, rfl⟩
    have HSN := @hideH _ (qSeen (x := x) pg w1 P1 hm (by rw [hid]; exact hx) (by rw [hpg]; exact hpr.2) (pgT_len hkx pg HS.out))
    have HG := @hideH _ (get_yes HP.out.ok ha hkx hf)
    have HB := @hideH _ (ask_busy ha)
    have HX := @hideH _ (And.intro hkx (And.intro hm (And.intro hid (And.intro hx (And.intro hpg (And.intro k1 (And.intro hpr hf)))))))
    have hpi : I64 pg := by have := HP.out.ok.may.1; exact ⟨by omega, by omega⟩
    have hkeyp := keyOf_int_mk (P := Tryz.prog) (k := 3) Tryz.underlying3 (wf_of_i64 hpi)
    rw [← hpg]
    clear ha hkx hm hid hx k1 hpr hf P1 hpg
    go_wp2_with fail
    refine HSN.out.mono ?_
    clear HSN
    rintro e w2 ⟨k2, b, rfl, hv, hbb⟩
    have k12 := HX.out.2.2.2.2.2.1.then k2
    have P2 := HP.out.then k12
    have T2 := P2.txs t HX.out.2.1
    obtain ⟨x', ex, hbx⟩ := T2.box
    obtain ⟨hd, ehd, D, hO, hT, hK⟩ := T2.hd
    have exx : V (.tx t.id) = .pointer (some ⟨x, 0, none⟩) := by rw [HX.out.2.2.1]; exact HX.out.2.2.2.1
    obtain rfl : x = x' := by rw [exx] at ex; simpa using ex
    rw [ehd] at hbx
    have c0 := hbx.cell (j := 0) rfl
    have hn : t.pages.length < maxLen := by have := (HP.out.ok.few HX.out.1).2.2; unfold maxLen; omega
    have hval := mapElem_some b
    have hne : b ≠ hd := fun e => by
      subst e
      rcases hbb with ⟨q1, q2⟩ | ⟨q1, q2⟩
      · have := HP.out.inj.inj (.ow t.id pg) (.hd t.id) b (by rw [q2]; rfl) (by rw [ehd]; rfl)
        cases this
      · have := (HP.out.then HX.out.2.2.2.2.2.1).inj.lt (.hd t.id) b (by rw [ehd]; rfl); omega
    have HA := @hideH _ (And.intro P2 (And.intro hbx (And.intro hv (And.intro hbb (And.intro k2 (And.intro hT (And.intro hK (And.intro ehd (And.intro T2 (And.intro k12 exx))))))))))
    have HO := @hideH _ hO
    obtain ⟨m, hmm⟩ : ∃ m, m = t.pages.length := ⟨_, rfl⟩
    have hO' : w2.ownsMap Tryz.prog 3 mapElem hd m D := by rw [hmm]; exact hO
    rw [← hmm] at hn
    clear P2 hbx hv hbb k2 hT hK T2 ex k12 ehd hO hmm
    go_upto_region 6 with (at_mapUpdate; refine wpList_mapUpdate_own _ rfl _ _ _ 114 rfl 3 88 keyL Tryz.underlying114 _ hd m D rfl hO' hn _ _ _ rfl rfl hkeyp _ [] hval ?_; intro w3 o3 hg3)
    have k3 : Kept [hd] w2 w3 := (Kept.refl _ w2).grown hg3 (fun k hk => .inl (by cases hk; simp))
    have v3 := HA.out.2.2.1.kept k3 (by simpa using hne)
    obtain ⟨n4, D4, hO4, h4, h5, -⟩ := v3.look hk
    have HR := @hideH _ (show pairO (lookE (pgT c S t pg) key) = seesT S t key by rw [HX.out.2.2.2.2.1]; exact look_pgT)
    rw [HR.out] at h4 h5
    obtain ⟨q, hq⟩ : ∃ q, q = seesT S t key := ⟨_, rfl⟩
    rw [← hq] at h4 h5
    have HQQ := @hideH _ hq
    have HK3 := @hideH _ (And.intro k3 (And.intro v3 (And.intro o3 hne)))
    clear k3 v3 o3 hg3 hne hq c0
    go_wp2_with (at_lookup; refine wpList_lookup_own_ok_int _ rfl _ _ 88 rfl 3 45 .u64 keyL Tryz.underlying88 Tryz.underlying45 (zeroU64 _) b n4 D4 rfl hO4 _ _ rfl hkey ?_; intro cc hcc hwc; (obtain rfl : q.1 = cc := (by rw [h5] at hcc; simpa using hcc)); rw [h4])
    try go_wp2
    go_ret3
    have b3 := HA.out.2.1.kept HK3.out.1 (by
      have : x ≠ hd := fun e => by
        have := HP.out.inj.inj (.tx t.id) (.hd t.id) x (by rw [HA.out.2.2.2.2.2.2.2.2.2.2]; rfl) (by rw [HA.out.2.2.2.2.2.2.2.1, e]; rfl)
        cases this
      simpa using this)
    have hk3 := HK3.out.1
    have hcs3 := HA.out.2.2.2.2.2.2.2.2.1.chs.kept hk3 (fun y hy hyX => by
      have e : y = hd := by simpa using hyX
      rw [e] at hy
      have := HA.out.1.inj.inj (.ch t.id) (.hd t.id) hd (by rw [Row.blkOf HA.out.2.2.2.2.2.2.2.2.1.chs]; exact hy) (by rw [HA.out.2.2.2.2.2.2.2.1]; rfl)
      cases this)
    have hok3 := HP.out.ok.hold HX.out.1 (p := pg) (by rw [HX.out.2.2.2.2.1]; exact HX.out.2.2.2.2.2.2.1.2)
    have hok23 := HP.out.ok2.hold HP.out.ok HX.out.1 (p := pg) (by rw [HX.out.2.2.1, HX.out.2.2.2.2.1]; exact HB.out) S.used
    have k1 := HX.out.2.2.2.2.2.1
    have k2 := HA.out.2.2.2.2.1
    have kk : Kept [hd] w1 w3 := (k2.mono (T := [hd]) (by simp)).trans hk3 (fun x hx => .inl hx)
    obtain ⟨V', p', n'⟩ := (HP.out.then k1).hold (t' := heldT t pg) (p := pg) (x := x) (hd := hd) (b := b) (N1 := w2.heap.size) (vc := V (.ch t.id)) HX.out.1 (heldT_id t pg).1 rfl HA.out.2.2.2.2.2.2.2.2.2.2 HA.out.2.2.2.2.2.2.2.1
      (by
        rcases HA.out.2.2.2.1 with q | ⟨q1, q2⟩
        · exact .inl q
        · exact .inr ⟨q1, q2, HA.out.2.2.1.lt⟩) ⟨k2.size, hk3.size⟩ kk (u := S.used) (hbg := HP.out.box.kept (k1.then k2) (by simp) |>.kept hk3 (by have : g ≠ hd := fun e => (by have := HP.out.inj.inj .g (.hd t.id) g (by rw [HP.out.vg]; rfl) (by rw [HA.out.2.2.2.2.2.2.2.1, e]; rfl); cases this); simpa using this)) (fun y hy => .inr (.inr (.inr (.inl (by have e : y = hd := (by simpa using hy); rw [HA.out.2.2.2.2.2.2.2.1, e]; rfl))))) (fun y hy => .inr hy)
      (by rw [(heldT_id t pg).2.1]; exact b3) (by rw [(heldT_id t pg).2.2.1]; exact hcs3) HA.out.2.2.2.2.2.1 HO.out.isMap HK3.out.2.2.1 (by rw [pgT_held]; exact HK3.out.2.1) (fun q _ _ => pgT_held c S t q pg) hok3 hok23
    rw [HG.out.1, HG.out.2, ← HQQ.out, ← HX.out.2.2.2.2.1]
    refine ⟨V', .nilIface, by first | rfl | simp, .inl ⟨rfl, rfl⟩, p', (Nx.refl V k1).trans ⟨n', [hd], kk, fun y hy => ⟨.hd t.id, by have e : y = hd := (by simpa using hy); rw [HA.out.2.2.2.2.2.2.2.1, e]; rfl⟩⟩⟩
end Go.Proofs.YtocpagpkpibmaaaGreatDoor

/-
  OWN WORK (by mkpp4.py). The landed plain (layer 18): update.
-/
namespace Go.Proofs.YtocpagpkpibmaaaGreatDoor
open Go.RowKit Go.Maps
set_option linter.unusedVariables false
set_option linter.unusedSimpArgs false
theorem snocC (l : List Chg) (x : Chg) : ccells (l ++ [x]) = ccells l ++ [.int .i64 x.key, .int .u64 x.val, .bool x.gone] := by rw [ccells_append]; rfl
theorem srcC {P : Program} (w : World) (t e : TypeId) (ht : P.underlying t = some (.slice e)) (x : Chg) : Src P 3 t (.slice (some ⟨w.heap.size, 0, none⟩) 1 1) 1 [.int .i64 x.key, .int .u64 x.val, .bool x.gone] (w.alloc (.cells #[.int .i64 x.key, .int .u64 x.val, .bool x.gone] e)) := by
  refine Src.ofSlice _ ht _ _ _ _ rfl (fun j u hj => ?_) (fun u hu => ?_)
  · rw [add_none rfl]
    have q := (Blk.new w e [.int .i64 x.key, .int .u64 x.val, .bool x.gone]).cell hj
    simpa using q
  · simp at hu
    rcases hu with rfl | rfl | rfl <;> rfl
set_option maxRecDepth 20000 in
set_option maxHeartbeats 6400000 in
theorem qUpdate {V : Tag → Value} {g : Nat} {c : Cf} {S : St} {k : Nat} {t : Tn} {x : Nat} (y : Chg) (n : Int) (w : World) (h : PpP w V g c S) (hk : S.opn[k]? = some t) (hx : V (.tx t.id) = .pointer (some ⟨x, 0, none⟩)) (hn : 1 ≤ n ∧ n ≤ 16) : Calls Tryz.prog 78 #[.pointer (some ⟨g, 0, none⟩), .pointer (some ⟨x, 0, none⟩), .agg #[.int .i64 y.key, .int .u64 y.val, .bool y.gone], .int .i64 n] w fun e w' => (fitsS c S (38 + 2 * n) (46 + n) = false ∧ (∃ s, e = .returned (.iface 169 (.agg #[.string s, .iface 119 (.int .i64 170)]))) ∧ Kept [] w w') ∨ (fitsS c S (38 + 2 * n) (46 + n) = true ∧ e = .returned .nilIface ∧ ∃ w1 vc, PpP w1 V g c ⟨S.done, S.opn, S.used + (38 + 2 * n)⟩ ∧ Kept [g] w w1 ∧ Kept (x :: (V (.ch t.id)).ownBlock.toList) w1 w' ∧ Blk w' x 116 [V (.hd t.id), vc, .int .i64 (t.kept + (46 + n))] ∧ Cs w' 0 vc (t.chs ++ [y]) ∧ (blkOf vc = blkOf (V (.ch t.id)) ∨ ∃ z, blkOf vc = some z ∧ w1.heap.size ≤ z ∧ z < w'.heap.size)) := by
  have hm := List.mem_of_getElem? hk
  obtain ⟨w0, hw0⟩ : ∃ wx, wx = w.alloc (.cells #[.int .i64 y.key, .int .u64 y.val, .bool y.gone] 50) := ⟨_, rfl⟩
  have k0 : Kept [] w w0 := by rw [hw0]; exact (Kept.refl [] w).alloc _
  have B0 : Blk w0 w.heap.size 50 [.int .i64 y.key, .int .u64 y.val, .bool y.gone] := by rw [hw0]; exact Blk.new w _ _
  have hv1 : IntKind.i64.wrap (2 * n) = 2 * n := wrap_i64_of (by omega) (by omega)
  have hv2 : IntKind.i64.wrap (38 + 2 * n) = 38 + 2 * n := wrap_i64_of (by omega) (by omega)
  have hv3 : IntKind.i64.wrap (46 + n) = 46 + n := wrap_i64_of (by omega) (by omega)
  have HQ := @hideH _ (qLog (38 + 2 * n) (46 + n) w0 (h.then k0) (by omega) (by omega))
  have HP := @hideH _ h
  have HK0 := @hideH _ (And.intro k0 B0)
  have HN := @hideH _ hn
  have HM := @hideH _ (And.intro hm hk)
  clear h k0 B0 hn hm hk
  go_enter Tryz.func78, Tryz.ntmps78
  go_upto_region 1 with fail
  rw [← hw0]
  clear hw0
  go_wp2_with fail
  refine HQ.out.mono ?_
  clear HQ
  rintro e w1 (⟨hfit, rfl, P1, k1⟩ | ⟨hfit, rfl, k1⟩)
  rotate_left
  · have HK := @hideH _ (And.intro hfit (HK0.out.1.then k1))
    clear k1 hfit
    go_wp2_with fail
    refine (qWrap _ _ _ _).mono ?_
    rintro e wv ⟨rfl, rfl⟩
    go_wp2
    go_ret
    exact .inl ⟨HK.out.1, ⟨_, by first | rfl | trivial⟩, HK.out.2⟩
  have T1 := P1.txs t HM.out.1
  obtain ⟨x', ex, hbx⟩ := T1.box
  obtain rfl : x = x' := by rw [hx] at ex; simpa using ex
  have hch := T1.chs
  have hfew := (HP.out.ok.few HM.out.2).2.1
  have hone := HP.out.ok.one HM.out.2
  have hkp := HP.out.ok.kept
  have hkv : t.kept = 99 + sumL t.lens := rfl
  obtain ⟨pc, cc, evc, hnc, hcm⟩ := hch.shape
  have hge : g < w.heap.size := HP.out.box.lt
  have B1 := HK0.out.2.kept k1 (by simp; omega)
  have hxl : x < w.heap.size := HP.out.inj.lt (.tx t.id) x (by rw [hx]; rfl)
  have hxB : x ≠ w.heap.size := by omega
  have hchlt : ∀ z, (V (.ch t.id)).ownBlock = some z → z < w.heap.size ∧ z ≠ x := fun z hz => by
    have e : blkOf (V (.ch t.id)) = some z := by rw [Row.blkOf hch]; exact hz
    refine ⟨HP.out.inj.lt (.ch t.id) z e, fun q => ?_⟩
    rw [q] at e
    have := HP.out.inj.inj _ _ _ e (show blkOf (V (.tx t.id)) = some x by rw [hx]; rfl)
    cases this
  rw [evc] at hbx hch hchlt
  obtain ⟨q, hq⟩ : ∃ q, q = t.chs.length := ⟨_, rfl⟩
  obtain ⟨kt, hkt⟩ : ∃ kt, kt = t.kept := ⟨_, rfl⟩
  rw [← hkt] at hkv hbx
  rw [← hq] at hbx hch hchlt
  have hqs : q ≤ 1400 := by rw [hq]; exact hfew
  have wk : IntKind.i64.wrap (kt + (46 + n)) = kt + (46 + n) := wrap_i64_of (by have := HN.out; omega) (by have := HN.out; omega)
  have c1 := hbx.cell (j := 1) rfl
  have c2 := hbx.cell (j := 2) rfl
  have y0 := B1.cell (j := 0) rfl
  have y1 := B1.cell (j := 1) rfl
  have y2 := B1.cell (j := 2) rfl
  have HQQ := @hideH _ (And.intro hq hqs)
  have HKT := @hideH _ hkt
  have HCS := @hideH _ hch
  have HBX := @hideH _ (And.intro hbx (And.intro B1 (And.intro hchlt (And.intro hxB hxl))))
  have HP1 := @hideH _ (And.intro P1 (And.intro ((HK0.out.1.mono (T := [g]) (by simp)).trans k1 (fun x hx => .inl hx)) (And.intro hfit k1.size)))
  have EV := @hideH _ evc
  obtain ⟨infC, hin1, hin2, hin3, hin4⟩ := info_parts3 (show (Tryz.prog.info? 50).map (fun i => (i.zero, i.size, i.bytes)) = some (some (.agg #[.int .i64 0, .int .u64 0, .bool false]), 3, 24) by kernel_rfl)
  have HIC := @hideH _ (And.intro hin1 (And.intro hin2 (And.intro hin3 hin4)))
  clear hin1 hin2 hin3 hin4
  clear P1 k1 T1 ex hch hfew hone hkp hkv hnc hcm B1 hbx hchlt hxB hxl hq hqs hkt evc hfit
  go_upto_region 4 with fail
  obtain ⟨w6, hw6⟩ : ∃ wx, wx = w1.drew := ⟨_, rfl⟩
  have k6 : Kept [] w1 w6 := by rw [hw6]; exact (Kept.refl [] w1).drew
  have hS : (fun w' => w'.cell? ⟨x, 1, none⟩ = some (.slice pc q cc) ∧ w'.cell? ⟨w.heap.size, 0, none⟩ = some (.int .i64 y.key) ∧ w'.cell? ⟨w.heap.size, 1, none⟩ = some (.int .u64 y.val) ∧ w'.cell? ⟨w.heap.size, 2, none⟩ = some (.bool y.gone)) w6 := ⟨k6.cell c1 (by simp), k6.cell y0 (by simp), k6.cell y1 (by simp), k6.cell y2 (by simp)⟩
  try dsimp only at hS
  obtain ⟨w7, hw7⟩ : ∃ wx, wx = w6.alloc (.cells #[.int .i64 y.key, .int .u64 y.val, .bool y.gone] 50) := ⟨_, rfl⟩
  have k7 : Kept [] w6 w7 := by rw [hw7]; exact (Kept.refl [] w6).alloc _
  have hS7 := (⟨k7.cell hS.1 (by simp), k7.cell hS.2.1 (by simp), k7.cell hS.2.2.1 (by simp), k7.cell hS.2.2.2 (by simp)⟩ : (fun w' => w'.cell? ⟨x, 1, none⟩ = some (.slice pc q cc) ∧ w'.cell? ⟨w.heap.size, 0, none⟩ = some (.int .i64 y.key) ∧ w'.cell? ⟨w.heap.size, 1, none⟩ = some (.int .u64 y.val) ∧ w'.cell? ⟨w.heap.size, 2, none⟩ = some (.bool y.gone)) w7)
  try dsimp only at hS7
  refine wp_region_late (fun w' => w'.cell? ⟨x, 1, none⟩ = some (.slice pc q cc) ∧ w'.cell? ⟨w.heap.size, 0, none⟩ = some (.int .i64 y.key) ∧ w'.cell? ⟨w.heap.size, 1, none⟩ = some (.int .u64 y.val) ∧ w'.cell? ⟨w.heap.size, 2, none⟩ = some (.bool y.gone)) 10 (by kernel_rfl) ?_
  rw [← hw6]
  clear hw6 c1 c2 y0 y1 y2
  refine wpAnyZ_take 0 (v := ?va0_1) rfl (by kernel_rfl) (by kernel_rfl) (by kernel_rfl) (by kernel_rfl) (fun _ _ _ h => h) (by rfl) ?hya0_1 hS ?resta0_1
  case hya0_1 => (intro wx hSx; obtain ⟨s1, s2, s3, s4⟩ := hSx; go_simp; (try with_reducible rfl))
  (try simp only [Act.put, List.getElem_toArray, List.getElem_cons_zero, List.getElem_cons_succ, List.setIfInBounds_toArray, List.set_cons_zero, List.set_cons_succ])
  refine wpAnyZ_take 1 (v := ?va1_2) rfl (by kernel_rfl) (by kernel_rfl) (by kernel_rfl) (by kernel_rfl) (fun _ _ _ h => h) (by rfl) ?hya1_2 hS ?resta1_2
  case hya1_2 => (intro wx hSx; obtain ⟨s1, s2, s3, s4⟩ := hSx; go_simp; (try with_reducible rfl))
  (try simp only [Act.put, List.getElem_toArray, List.getElem_cons_zero, List.getElem_cons_succ, List.setIfInBounds_toArray, List.set_cons_zero, List.set_cons_succ])
  refine wpAnyZ_take 2 (v := ?va2_3) rfl (by kernel_rfl) (by kernel_rfl) (by kernel_rfl) (by kernel_rfl) (fun _ _ _ h => h) (by rfl) ?hya2_3 hS ?resta2_3
  case hya2_3 => (intro wx hSx; obtain ⟨s1, s2, s3, s4⟩ := hSx; go_simp; (try with_reducible rfl))
  (try simp only [Act.put, List.getElem_toArray, List.getElem_cons_zero, List.getElem_cons_succ, List.setIfInBounds_toArray, List.set_cons_zero, List.set_cons_succ])
  refine wpAnyZ_take 3 (v := ?va3_4) rfl (by kernel_rfl) (by kernel_rfl) (by kernel_rfl) (by kernel_rfl) (fun _ _ _ h => h) (by rfl) ?hya3_4 hS ?resta3_4
  case hya3_4 => (intro wx hSx; obtain ⟨s1, s2, s3, s4⟩ := hSx; go_simp; (try with_reducible rfl))
  (try simp only [Act.put, List.getElem_toArray, List.getElem_cons_zero, List.getElem_cons_succ, List.setIfInBounds_toArray, List.set_cons_zero, List.set_cons_succ])
  refine wpAnyZ_take 4 (v := ?va4_5) rfl (by kernel_rfl) (by kernel_rfl) (by kernel_rfl) (by kernel_rfl) (fun _ _ _ h => h) (by rfl) ?hya4_5 hS ?resta4_5
  case hya4_5 => (intro wx hSx; obtain ⟨s1, s2, s3, s4⟩ := hSx; go_simp; (try with_reducible rfl))
  (try simp only [Act.put, List.getElem_toArray, List.getElem_cons_zero, List.getElem_cons_succ, List.setIfInBounds_toArray, List.set_cons_zero, List.set_cons_succ])
  refine wpAnyZ_take 5 (v := ?va5_6) rfl (by kernel_rfl) (by kernel_rfl) (by kernel_rfl) (by kernel_rfl) (fun _ _ _ h => h) (by rfl) ?hya5_6 hS ?resta5_6
  case hya5_6 => (intro wx hSx; obtain ⟨s1, s2, s3, s4⟩ := hSx; go_simp; (try with_reducible rfl))
  (try simp only [Act.put, List.getElem_toArray, List.getElem_cons_zero, List.getElem_cons_succ, List.setIfInBounds_toArray, List.set_cons_zero, List.set_cons_succ])
  refine wpAnyZ_one 6 rfl (by kernel_rfl) (fun K hK => ?_)
  go_simp
  refine hK _ _ (fun _ => by rw [← hw7]; exact hS7) ?_
  clear hK K
  (try simp only [Act.put, List.getElem_toArray, List.getElem_cons_zero, List.getElem_cons_succ, List.setIfInBounds_toArray, List.set_cons_zero, List.set_cons_succ])
  have hsrc := srcC (P := Tryz.prog) w6 48 50 Tryz.underlying48 y
  rw [← hw7] at hsrc
  rw [← hw7]
  clear hw7
  have k07 := k6.then k7
  have R7 := HCS.out.kept k07 (by simp)
  unfold Cs at R7
  rw [← HQQ.out.1] at R7
  refine wpAnyZ_one 7 rfl (by kernel_rfl) (fun K hK => ?_)
  refine step_append_row2 rfl (.tmp 25) (.tmp 27) 48 rfl 0 50 infC (.agg #[.int .i64 0, .int .u64 0, .bool false]) 3 24 Tryz.underlying48 HIC.out.1 HIC.out.2.1 HIC.out.2.2.1 HIC.out.2.2.2 rfl _ _ _ (by rfl) R7 _ 1 _ (by rfl) hsrc (by have e1 := HQQ.out.2; omega) (by have e1 := HQQ.out.2; unfold maxLen; omega) (by have e1 := HQQ.out.2; omega) (Nat.zero_le _) ?_
  intro v' w8 r8 k8 o8
  obtain ⟨p', c', hv', -⟩ := Row.shape r8
  subst hv'
  have hnot : ∀ z ∈ (Value.slice pc q cc).ownBlock.toList, z < w.heap.size ∧ z ≠ x := fun z hz => HBX.out.2.2.1 z (own_mem.1 hz)
  have b8x := ((HBX.out.1.kept k07 (by simp)).kept k8 (fun hm => (hnot x hm).2 rfl))
  have B8 := ((HBX.out.2.1.kept k07 (by simp)).kept k8 (fun hm => by have := (hnot _ hm).1; omega))
  have f8 := b8x.free 1
  have hS8 := (⟨b8x.cell (j := 1) rfl, B8.cell (j := 0) rfl, B8.cell (j := 1) rfl, B8.cell (j := 2) rfl⟩ : (fun w' => w'.cell? ⟨x, 1, none⟩ = some (.slice pc q cc) ∧ w'.cell? ⟨w.heap.size, 0, none⟩ = some (.int .i64 y.key) ∧ w'.cell? ⟨w.heap.size, 1, none⟩ = some (.int .u64 y.val) ∧ w'.cell? ⟨w.heap.size, 2, none⟩ = some (.bool y.gone)) w8)
  try dsimp only at hS8
  have HR8 := @hideH _ (And.intro r8 (And.intro k8 (And.intro o8 (And.intro k07 (And.intro b8x hnot)))))
  clear r8 k8 o8 hsrc R7 k07 hS7 k7 hS k6 b8x B8 hnot
  refine hK _ _ (fun _ => hS8) ?_
  clear hK K
  (try simp only [Act.put, List.getElem_toArray, List.getElem_cons_zero, List.getElem_cons_succ, List.setIfInBounds_toArray, List.set_cons_zero, List.set_cons_succ])
  refine wpAnyZ_one 8 rfl (by kernel_rfl) (fun K hK => ?_)
  go_simp
  refine hK _ _ (fun _ => hS8) ?_
  clear hK K
  (try simp only [Act.put, List.getElem_toArray, List.getElem_cons_zero, List.getElem_cons_succ, List.setIfInBounds_toArray, List.set_cons_zero, List.set_cons_succ])
  refine wpAnyZ_one 9 rfl (by kernel_rfl) (fun K hK => ?_)
  go_simp
  refine hK _ _ (fun _ => hS8) ?_
  clear hK K
  (try simp only [Act.put, List.getElem_toArray, List.getElem_cons_zero, List.getElem_cons_succ, List.setIfInBounds_toArray, List.set_cons_zero, List.set_cons_succ])
  refine wpAnyZ_one 10 rfl (by kernel_rfl) (fun K hK => ?_)
  go_simp
  refine hK _ _ (fun h => absurd rfl h) ?_
  clear hK K
  (try simp only [Act.put, List.getElem_toArray, List.getElem_cons_zero, List.getElem_cons_succ, List.setIfInBounds_toArray, List.set_cons_zero, List.set_cons_succ])
  refine wpAnyZ_done (by kernel_rfl) ?_ _
  obtain ⟨w9, hw9⟩ : ∃ wx, wx = w8.setCell ⟨x, 1, none⟩ (.slice p' (q + 1) c') := ⟨_, rfl⟩
  obtain ⟨b9, k9⟩ := HR8.out.2.2.2.2.1.set 1 (.slice p' (q + 1) c')
  rw [← hw9] at b9 k9
  rw [← hw9]
  clear hw9 hS8 f8
  have c29 := b9.cell (j := 2) (v := .int .i64 kt) rfl
  have f29 := b9.free 2
  obtain ⟨w10, hw10⟩ : ∃ wx, wx = w9.setCell ⟨x, 2, none⟩ (.int .i64 (kt + (46 + n))) := ⟨_, rfl⟩
  obtain ⟨b10, k10⟩ := b9.set 2 (.int .i64 (kt + (46 + n)))
  rw [← hw10] at b10 k10
  have HF := @hideH _ (And.intro b10 (And.intro k9 k10))
  clear b9 b10 k9 k10
  go_wp2
  rw [← hw10]
  try go_wp2
  go_ret
  have kx : Kept [x] w8 w10 := HF.out.2.1.trans HF.out.2.2 (fun z hz => .inl hz)
  have hnot := HR8.out.2.2.2.2.2
  have k18 : Kept (Value.slice pc q cc).ownBlock.toList w1 w8 := (HR8.out.2.2.2.1.mono (T := (Value.slice pc q cc).ownBlock.toList) (by simp)).trans HR8.out.2.1 (fun z hz => .inl hz)
  have kall : Kept (x :: (Value.slice pc q cc).ownBlock.toList) w1 w10 := (k18.mono (T := x :: (Value.slice pc q cc).ownBlock.toList) (fun z hz => List.mem_cons_of_mem _ hz)).trans kx (fun z hz => .inl (by simp at hz; simp [hz]))
  have ev : V (.ch t.id) = .slice pc q cc := by rw [EV.out, HQQ.out.1]
  refine .inr ⟨HP1.out.2.2.1, by first | rfl | trivial, w1, .slice p' (q + 1) c', HP1.out.1, HP1.out.2.1, by rw [ev]; exact kall, ?_, ?_, ?_⟩
  · rw [HKT.out] at HF; exact HF.out.1
  · have r := HR8.out.1
    have r2 : Row w10 0 3 (.slice p' (q + 1) c') (q + 1) (ccells t.chs ++ [.int .i64 y.key, .int .u64 y.val, .bool y.gone]) := r.kept kx (fun z hz hzx => by
      have ez : z = x := by simpa using hzx
      rcases HR8.out.2.2.1 with o | ⟨o, -⟩
      · rw [o] at hz
        exact (hnot z (own_mem.2 hz)).2 ez
      · rw [o] at hz
        have e2 : z = _ := (Option.some.inj hz).symm
        have := HR8.out.2.2.2.1.size
        have := HP1.out.2.2.2
        have := HBX.out.2.2.2.2
        have := HP1.out.2.1.size
        omega)
    unfold Cs
    rw [List.length_append, snocC, ← HQQ.out.1]
    exact r2
  · rw [ev]
    rcases HR8.out.2.2.1 with o | ⟨o, -⟩
    · refine .inl ?_
      rw [blkOf_slice rfl, blkOf_slice rfl]
      exact o
    · refine .inr ⟨_, by rw [blkOf_slice rfl]; exact o, ?_, ?_⟩
      · exact HR8.out.2.2.2.1.size
      · have h1 := HR8.out.1.lt _ o
        have := kx.size
        omega
end Go.Proofs.YtocpagpkpibmaaaGreatDoor

/-
  OWN WORK (by mkpp5.py). The landed plain (layer 18): how its State lies behind a change.
-/
namespace Go.Proofs.YtocpagpkpibmaaaGreatDoor
open Go.RowKit Go.Maps
set_option linter.unusedVariables false
set_option linter.unusedSimpArgs false
/-- the page's own map is no other part of the State -/
theorem own_apart {w : World} {V : Tag → Value} {g : Nat} {c : Cf} {S : St} (h : PpP w V g c S) {t : Tn} {p : Int} {b : Nat} (hb : (p ∈ t.pages ∧ V (.ow t.id p) = .map (some b)) ∨ (p ∉ t.pages ∧ w.heap.size ≤ b)) {a : Tag} {z : Nat} (ha : a ≠ .ow t.id p) (hz : blkOf (V a) = some z) : b ≠ z := fun e => by
  subst e
  rcases hb with ⟨-, q⟩ | ⟨-, q⟩
  · exact ha (h.inj.inj _ _ _ hz (by rw [q]; rfl))
  · have := h.inj.lt _ _ hz; omega
theorem own_part {w : World} {V : Tag → Value} {t : Tn} {p : Int} {b : Nat} (hb : (p ∈ t.pages ∧ V (.ow t.id p) = .map (some b)) ∨ (p ∉ t.pages ∧ w.heap.size ≤ b)) : w.heap.size ≤ b ∨ blkOf (V (.ow t.id p)) = some b := by
  rcases hb with ⟨-, q⟩ | ⟨-, q⟩
  · exact .inr (by rw [q]; rfl)
  · exact .inl q
section
variable {w1 w6 w7 w8 : World} {V : Tag → Value} {g : Nat} {c : Cf} {S : St} {t : Tn} {kx x hd b m : Nat} {pg : Int} {D : DataW Unit} {y : Chg}
/-- .. one that changes nothing -/
theorem PpP.chg0 (P1 : PpP w1 V g c S) (hkx : S.opn[kx]? = some t) (exx : V (.tx t.id) = .pointer (some ⟨x, 0, none⟩)) (ehd : V (.hd t.id) = .map (some hd)) (hpg : pg = y.key % c.pages) (hpr : 0 ≤ pg ∧ pg < c.pages) (hbu : busy S.opn t.id (y.key % c.pages) = false) (hy : okC c y) (hl : ¬ 0 < lenC S t y)
    (hbb : (pg ∈ t.pages ∧ V (.ow t.id pg) = .map (some b)) ∨ (pg ∉ t.pages ∧ w1.heap.size ≤ b)) (k16 : Kept [] w1 w6) (hb6 : b < w6.heap.size) (v7 : Vm w7 b (layE y y.gone (pgT c S t pg))) (k7 : Kept [b] w6 w7) (hT : Tel D (.int .i64 0) (fH V t)) (hD : Maps.IsMap D) (k8 : Kept [hd] w7 w8) (o8 : w8.ownsMap Tryz.prog 3 mapElem hd m (D.put (.int .i64 pg) (.lit (.int .i64 ((b : Int) + 1))))) :
    ∃ V', PpP w8 V' g c (chgS c S t (y.key % c.pages) y) ∧ Nx w1 w8 V V' := by
  have hm := List.mem_of_getElem? hkx
  have e := (chg_zero (page := y.key % c.pages) P1.ok hkx rfl hl).2
  rw [← hpg] at e
  have bg := own_apart P1 hbb (a := .g) (z := g) (by simp) (by rw [P1.vg]; rfl)
  have bx := own_apart P1 hbb (a := .tx t.id) (z := x) (by simp) (by rw [exx]; rfl)
  have bh := own_apart P1 hbb (a := .hd t.id) (z := hd) (by simp) (by rw [ehd]; rfl)
  have gh : g ≠ hd := fun q => by have := P1.inj.inj .g (.hd t.id) g (by rw [P1.vg]; rfl) (by rw [ehd, q]; rfl); cases this
  have xh : x ≠ hd := fun q => by have := P1.inj.inj (.tx t.id) (.hd t.id) x (by rw [exx]; rfl) (by rw [ehd, q]; rfl); cases this
  have kk : Kept [b, hd] w1 w8 := (((k16.mono (T := [b, hd]) (by simp)).trans (k7.mono (T := [b, hd]) (by simp)) (fun z hz => .inl hz)).trans (k8.mono (T := [b, hd]) (by simp)) (fun z hz => .inl hz))
  have T1 := P1.txs t hm
  obtain ⟨x', ex, hbx⟩ := T1.box
  obtain rfl : x = x' := by rw [exx] at ex; simpa using ex
  rw [ehd] at hbx
  have hs := lay_same hy (sees_u64 P1.ok hm y.key) hl
  rw [← hpg] at hs
  rw [hs] at v7
  obtain ⟨V', p', n'⟩ := P1.hold (w' := w8) (t' := heldT t pg) (p := pg) (x := x) (hd := hd) (b := b) (N1 := w6.heap.size) (vc := V (.ch t.id)) (X := [b, hd]) (u := S.used) hkx (heldT_id t pg).1 rfl exx ehd
    (hbb.imp id (fun q => ⟨q.1, q.2, hb6⟩)) ⟨k16.size, Nat.le_trans k7.size k8.size⟩ kk (P1.box.kept kk (by simp [Ne.symm bg, gh]))
    (fun z hz => by
      rcases List.mem_cons.1 hz with q | hz
      · rw [q]; rcases own_part hbb with r | r
        · exact .inl r
        · exact .inr (.inr (.inr (.inr (.inr r))))
      · exact .inr (.inr (.inr (.inl (by rw [ehd, show z = hd by simpa using hz]; rfl))))) (fun z hz => .inr hz)
    (by rw [(heldT_id t pg).2.1]; exact hbx.kept kk (by simp [Ne.symm bx, xh]))
    (by
      rw [(heldT_id t pg).2.2.1]
      exact T1.chs.kept kk (fun z hz hm' => by
        have ez : blkOf (V (.ch t.id)) = some z := by rw [Row.blkOf T1.chs]; exact hz
        rcases List.mem_cons.1 hm' with q | hm'
        · exact own_apart P1 hbb (a := .ch t.id) (z := z) (by simp) ez q.symm
        · have q : z = hd := by simpa using hm'
          rw [q] at ez
          have := P1.inj.inj (.ch t.id) (.hd t.id) hd ez (by rw [ehd]; rfl)
          cases this))
    hT hD o8 (by rw [pgT_held]; exact v7.kept k8 (by simpa using bh)) (fun q _ _ => pgT_held c S t q pg)
    (P1.ok.hold hkx hpr) (P1.ok2.hold P1.ok hkx (by rw [hpg]; exact hbu) S.used)
  rw [hpg] at *
  rw [e]
  refine ⟨V', p', n', [b, hd].filter (fun z => decide (z < w1.heap.size)), ?_, fun z hz => ?_⟩
  · refine ⟨kk.os, kk.tape, kk.output, kk.size, fun z hz hn => kk.block z hz (fun q => hn (List.mem_filter.2 ⟨q, by simpa using hz⟩))⟩
  · obtain ⟨q1, q2⟩ := List.mem_filter.1 hz
    have hlt : z < w1.heap.size := by simpa using q2
    rcases List.mem_cons.1 q1 with q | q
    · rcases own_part hbb with r | r
      · omega
      · exact ⟨_, by rw [q]; exact r⟩
    · exact ⟨.hd t.id, by rw [ehd, show z = hd by simpa using q]; rfl⟩
/-- .. one that is an update -/
theorem PpP.chg1 {w5 wL : World} {n : Int} {vc : Value} (P1 : PpP w1 V g c S) (hkx : S.opn[kx]? = some t) (exx : V (.tx t.id) = .pointer (some ⟨x, 0, none⟩)) (ehd : V (.hd t.id) = .map (some hd)) (hpg : pg = y.key % c.pages) (hpr : 0 ≤ pg ∧ pg < c.pages) (hbu : busy S.opn t.id (y.key % c.pages) = false) (hy : okC c y) (hn : n = lenC S t y) (hl : 0 < n) (hfit : fitsS c S (38 + 2 * n) (46 + n) = true)
    (hbb : (pg ∈ t.pages ∧ V (.ow t.id pg) = .map (some b)) ∨ (pg ∉ t.pages ∧ w1.heap.size ≤ b)) (k15 : Kept [] w1 w5) (hb5 : b < w5.heap.size) (PL : PpP wL V g c ⟨S.done, S.opn, S.used + (38 + 2 * n)⟩) (k5L : Kept [g] w5 wL) (kL6 : Kept (x :: (V (.ch t.id)).ownBlock.toList) wL w6) (bx6 : Blk w6 x 116 [V (.hd t.id), vc, .int .i64 (t.kept + (46 + n))]) (cs6 : Cs w6 0 vc (t.chs ++ [y])) (hvc : blkOf vc = blkOf (V (.ch t.id)) ∨ ∃ z, blkOf vc = some z ∧ wL.heap.size ≤ z ∧ z < w6.heap.size)
    (v7 : Vm w7 b (layE y y.gone (pgT c S t pg))) (k7 : Kept [b] w6 w7) (hT : Tel D (.int .i64 0) (fH V t)) (hD : Maps.IsMap D) (k8 : Kept [hd] w7 w8) (o8 : w8.ownsMap Tryz.prog 3 mapElem hd m (D.put (.int .i64 pg) (.lit (.int .i64 ((b : Int) + 1))))) :
    ∃ V', PpP w8 V' g c (chgS c S t (y.key % c.pages) y) ∧ Nx w1 w8 V V' := by
  have hm := List.mem_of_getElem? hkx
  have e := (chg_fit (page := y.key % c.pages) P1.ok hkx hn hl hfit).2
  rw [← hpg] at e
  have n16 : n ≤ 16 := by rw [hn]; exact lenC_le S t y
  have T1 := P1.txs t hm
  have hch := Row.blkOf T1.chs
  have bg := own_apart P1 hbb (a := .g) (z := g) (by simp) (by rw [P1.vg]; rfl)
  have bx := own_apart P1 hbb (a := .tx t.id) (z := x) (by simp) (by rw [exx]; rfl)
  have bh := own_apart P1 hbb (a := .hd t.id) (z := hd) (by simp) (by rw [ehd]; rfl)
  have vg : blkOf (V .g) = some g := by rw [P1.vg]; rfl
  have vx : blkOf (V (.tx t.id)) = some x := by rw [exx]; rfl
  have vh : blkOf (V (.hd t.id)) = some hd := by rw [ehd]; rfl
  have gh : g ≠ hd := fun q => by rw [← q] at vh; have := P1.inj.inj _ _ _ vg vh; cases this
  have xh : x ≠ hd := fun q => by rw [← q] at vh; have := P1.inj.inj _ _ _ vx vh; cases this
  have gx : g ≠ x := fun q => by rw [← q] at vx; have := P1.inj.inj _ _ _ vg vx; cases this
  have chn : ∀ z ∈ (V (.ch t.id)).ownBlock.toList, blkOf (V (.ch t.id)) = some z ∧ z ≠ g ∧ z ≠ x ∧ z ≠ hd ∧ b ≠ z := fun z hz => by
    have ez : blkOf (V (.ch t.id)) = some z := by rw [hch]; exact own_mem.1 hz
    refine ⟨ez, fun q => ?_, fun q => ?_, fun q => ?_, own_apart P1 hbb (a := .ch t.id) (by simp) ez⟩
    · rw [q] at ez; have := P1.inj.inj _ _ _ ez vg; cases this
    · rw [q] at ez; have := P1.inj.inj _ _ _ ez vx; cases this
    · rw [q] at ez; have := P1.inj.inj _ _ _ ez vh; cases this
  obtain ⟨X, hX⟩ : ∃ X, X = g :: x :: b :: hd :: (V (.ch t.id)).ownBlock.toList := ⟨_, rfl⟩
  have k1L : Kept X w1 wL := (k15.mono (T := X) (by simp)).trans (k5L.mono (T := X) (by intro z hz; rw [hX]; simp at hz; simp [hz])) (fun z hz => .inl hz)
  have k16 : Kept X w1 w6 := k1L.trans (kL6.mono (T := X) (by intro z hz; rw [hX]; rcases List.mem_cons.1 hz with q | q; simp [q]; simp only [List.mem_cons]; exact .inr (.inr (.inr (.inr q))))) (fun z hz => .inl hz)
  have k17 : Kept X w1 w7 := k16.trans (k7.mono (T := X) (by intro z hz; rw [hX]; simp at hz; simp [hz])) (fun z hz => .inl hz)
  have kk : Kept X w1 w8 := k17.trans (k8.mono (T := X) (by intro z hz; rw [hX]; simp at hz; simp [hz])) (fun z hz => .inl hz)
  have hbL : b < wL.heap.size := Nat.lt_of_lt_of_le hb5 k5L.size
  have hgL : g ∉ x :: (V (.ch t.id)).ownBlock.toList := fun q => by
    rcases List.mem_cons.1 q with q | q
    · exact gx q
    · exact (chn _ q).2.1 rfl
  have sz6 : wL.heap.size ≤ w6.heap.size := kL6.size
  have sz8 : w6.heap.size ≤ w8.heap.size := Nat.le_trans k7.size k8.size
  have hxL : hd < wL.heap.size := Nat.lt_of_lt_of_le (P1.inj.lt _ _ vh) k1L.size
  have vcb : ∀ z, blkOf vc = some z → z ≠ b ∧ z ≠ hd := fun z hz => by
    rcases hvc with q | ⟨z', q1, q2, -⟩
    · rw [q] at hz
      have r := chn z (own_mem.2 (by rw [← hch]; exact hz))
      exact ⟨fun s => r.2.2.2.2 s.symm, r.2.2.2.1⟩
    · rw [q1] at hz
      have ez : z' = z := Option.some.inj hz
      omega
  have hbg := ((PL.box.kept kL6 hgL).kept k7 (by simpa using Ne.symm bg)).kept k8 (by simpa using gh)
  have hok := P1.ok.chg hkx hy hpr (n := n) ⟨by omega, n16⟩ hfit
  have hok2 := P1.ok2.chg P1.ok hkx (x := y) n hbu (S.used + 38 + 2 * n)
  rw [← hpg] at hok2
  obtain ⟨V', p', n'⟩ := P1.hold (w' := w8) (t' := heldT ⟨t.id, t.pages, t.chs ++ [y], t.lens ++ [n]⟩ pg) (p := pg) (x := x) (hd := hd) (b := b) (N1 := wL.heap.size) (vc := vc) (X := X) (u := S.used + 38 + 2 * n) hkx (heldT_id ⟨t.id, t.pages, t.chs ++ [y], t.lens ++ [n]⟩ pg).1
    (by unfold heldT; dsimp only; split <;> rfl) exx ehd
    (hbb.imp id (fun q => ⟨q.1, q.2, hbL⟩)) ⟨k1L.size, Nat.le_trans sz6 sz8⟩ kk (by rw [show S.used + 38 + 2 * n = S.used + (38 + 2 * n) by omega]; exact hbg)
    (fun z hz => by
      rw [hX] at hz
      rcases List.mem_cons.1 hz with q | hz
      · exact .inr (.inl q)
      · rcases List.mem_cons.1 hz with q | hz
        · exact .inr (.inr (.inl (by rw [q]; exact vx)))
        · rcases List.mem_cons.1 hz with q | hz
          · rw [q]; rcases own_part hbb with r | r
            · exact .inl r
            · exact .inr (.inr (.inr (.inr (.inr r))))
          · rcases List.mem_cons.1 hz with q | hz
            · exact .inr (.inr (.inr (.inl (by rw [q]; exact vh))))
            · exact .inr (.inr (.inr (.inr (.inl (chn z hz).1)))))
    (fun z hz => by
      rcases hvc with q | ⟨z', q1, q2, q3⟩
      · exact .inr (by rw [← q]; exact hz)
      · rw [q1] at hz
        have ez : z' = z := Option.some.inj hz
        exact .inl (by omega))
    (by
      rw [(heldT_id ⟨t.id, t.pages, t.chs ++ [y], t.lens ++ [n]⟩ pg).2.1, show (⟨t.id, t.pages, t.chs ++ [y], t.lens ++ [n]⟩ : Tn).kept = t.kept + (46 + n) by simp only [Tn.kept, sumL_append, sumL]; omega]
      rw [ehd] at bx6
      exact (bx6.kept k7 (by simpa using Ne.symm bx)).kept k8 (by simpa using xh))
    (by
      rw [(heldT_id ⟨t.id, t.pages, t.chs ++ [y], t.lens ++ [n]⟩ pg).2.2.1]
      have q := cs6.kept k7 (fun z hz hzb => (vcb z (by rw [Row.blkOf cs6]; exact hz)).1 (by simpa using hzb))
      exact q.kept k8 (fun z hz hzb => (vcb z (by rw [Row.blkOf cs6]; exact hz)).2 (by simpa using hzb)))
    hT hD o8 (by rw [pgT_held, pgT_chg, if_pos hpg.symm]; exact v7.kept k8 (by simpa using bh))
    (fun q _ hq => by rw [pgT_held, pgT_chg, if_neg (fun r => hq (by rw [hpg]; exact r.symm))]) hok hok2
  rw [hpg] at *
  rw [e]
  refine ⟨V', p', n', X.filter (fun z => decide (z < w1.heap.size)), ?_, fun z hz => ?_⟩
  · refine ⟨kk.os, kk.tape, kk.output, kk.size, fun z hz hn => kk.block z hz (fun q => hn (List.mem_filter.2 ⟨q, by simpa using hz⟩))⟩
  · obtain ⟨q1, q2⟩ := List.mem_filter.1 hz
    have hlt : z < w1.heap.size := by simpa using q2
    rw [hX] at q1
    rcases List.mem_cons.1 q1 with q | q1
    · exact ⟨.g, by rw [q]; exact vg⟩
    · rcases List.mem_cons.1 q1 with q | q1
      · exact ⟨.tx t.id, by rw [q]; exact vx⟩
      · rcases List.mem_cons.1 q1 with q | q1
        · rcases own_part hbb with r | r
          · omega
          · exact ⟨_, by rw [q]; exact r⟩
        · rcases List.mem_cons.1 q1 with q | q1
          · exact ⟨.hd t.id, by rw [q]; exact vh⟩
          · exact ⟨.ch t.id, (chn z q1).1⟩
end
end Go.Proofs.YtocpagpkpibmaaaGreatDoor

