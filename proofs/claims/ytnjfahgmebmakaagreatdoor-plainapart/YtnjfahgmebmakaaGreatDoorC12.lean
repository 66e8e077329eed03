import Derived.Deep.RegionHeld3
import Derived.Test.YtnjfahgmebmakaaGreatDoorC11
/-
  OWN WORK (by mkpp6.py). The landed plain (layer 18): change.
-/
namespace Go.Proofs.YtnjfahgmebmakaaGreatDoor
open Go.RowKit Go.Maps
set_option linter.unusedVariables false
set_option linter.unusedSimpArgs false
/-- what a change by one that may ask answers and leaves -/
structure Chd (c : Cf) (S : St) (t : Tn) (y : Chg) (b : Bool) (E : Int) (S' : St) : Prop where
  full : y.gone = false → full c S t y.key = true → E = 42 ∧ S' = S ∧ b = false
  fits : ¬ (y.gone = false ∧ Go.Proofs.YtnjfahgmebmakaaGreatDoor.full c S t y.key = true) → E = chgE c S t y ∧ S' = chgS c S t (y.key % c.pages) y ∧ b = ((seesT S t y.key).2 && decide (E = 0))
def ChR (c : Cf) (S : St) (id : Int) (y : Chg) (b : Bool) (E : Int) (S' : St) : Prop := (askE c S id y.key ≠ 0 ∧ E = askE c S id y.key ∧ S' = S ∧ b = false) ∨ (askE c S id y.key = 0 ∧ ∃ (t : Tn) (k : Nat), findO S.opn id = some t ∧ S.opn[k]? = some t ∧ Chd c S t y b E S')
set_option maxRecDepth 20000 in
set_option maxHeartbeats 12800000 in
theorem qChange {V : Tag → Value} {g : Nat} {c : Cf} {S : St} (id : Int) (y : Chg) (w : World) (h : PpP w V g c S) (hs : small S) (hi : I64 id) (hk : I64 y.key) (hv : u64 y.val) : Calls Tryz.prog 43 #[.pointer (some ⟨g, 0, none⟩), .int .i64 id, .agg #[.int .i64 y.key, .int .u64 y.val, .bool y.gone]] w fun e w' => ∃ V' b v E S', e = .returned (.tuple #[.bool b, v]) ∧ ErOk E v ∧ PpP w' V' g c S' ∧ Nx w w' V V' ∧ ChR c S id y b E S' := by
  obtain ⟨w0, hw0⟩ : ∃ wx, wx = w.alloc (.cells #[.int .i64 y.key, .int .u64 y.val, .bool y.gone] 50) := ⟨_, rfl⟩
  have k0 : Kept [] w w0 := by rw [hw0]; exact (Kept.refl [] w).alloc _
  have B0 : Blk w0 w.heap.size 50 [.int .i64 y.key, .int .u64 y.val, .bool y.gone] := by rw [hw0]; exact Blk.new w _ _
  have P0 := h.then k0
  have y0 := B0.cell (j := 0) rfl
  have HP := @hideH _ h
  have HQ := @hideH _ (qAsk id y.key w0 P0 hi hk)
  have HS := @hideH _ (And.intro hs (And.intro hk hv))
  have hkey := keyOf_int_mk (P := Tryz.prog) (k := 3) Tryz.underlying3 (wf_of_i64 hk)
  have HB0 := @hideH _ (And.intro B0 k0)
  clear h hs B0 P0 k0
  go_enter Tryz.func43, Tryz.ntmps43
  go_upto_region 1 with fail
  rw [← hw0]
  clear hw0
  go_wp2_with fail
  refine HQ.out.mono ?_
  clear HQ
  rintro e w1 ⟨k1, ⟨ha, rfl⟩ | ⟨ha, t, x, hf, hx, rfl⟩⟩
  · have HK := @hideH _ (And.intro ha (HB0.out.2.then k1))
    clear k1
    obtain ⟨E, hE⟩ : ∃ E, E = askE c S id y.key := ⟨_, rfl⟩
    have HEE := @hideH _ hE
    simp only [← hE]
    clear hE ha
    go_wp2_with fail
    refine (qWrap _ _ _ _).mono ?_
    rintro e wv ⟨rfl, rfl⟩
    go_wp2
    go_ret2
    exact ⟨V, false, _, E, S, by first | rfl | trivial, .inr ⟨by rw [HEE.out]; exact HK.out.1, 1, by omega, Er.wrap _ (Er.ref E)⟩, HP.out.then HK.out.2, Nx.refl V HK.out.2, Or.inl ⟨HK.out.1, HEE.out, rfl, rfl⟩⟩
  obtain ⟨kx', hkx⟩ := HP.out.idx hf
  obtain ⟨hm, hid⟩ := findO_some hf
  have hpr := ask_page HP.out.ok ha
  have k01 := HB0.out.2.then k1
  have P1 := HP.out.then k01
  obtain ⟨pg, hpg⟩ : ∃ pg, pg = y.key % c.pages := ⟨_, rfl⟩
  have hlen := pgT_len (c := c) hkx pg HS.out.1
  have exx : V (.tx t.id) = .pointer (some ⟨x, 0, none⟩) := by rw [hid]; exact hx
  have HSN := @hideH _ (qSeen (x := x) pg w1 P1 hm exx (by rw [hpg]; exact hpr.2) hlen)
  have HB := @hideH _ (show busy S.opn t.id (y.key % c.pages) = false by rw [hid]; exact ask_busy ha)
  have HX := @hideH _ (And.intro hkx (And.intro hm (And.intro exx (And.intro hpg (And.intro k01 (And.intro hpr (And.intro hf (And.intro ha (And.intro hlen (And.intro P1 (HB0.out.1.kept k1 (by simp))))))))))))
  have hpi : I64 pg := by have := HP.out.ok.may.1; exact ⟨by omega, by omega⟩
  have hkeyp := keyOf_int_mk (P := Tryz.prog) (k := 3) Tryz.underlying3 (wf_of_i64 hpi)
  rw [← hpg]
  clear ha hkx hm hx k1 hpr hf P1 hpg exx k01 hlen
  go_wp2_with fail
  refine HSN.out.mono ?_
  clear HSN
  rintro e w2 ⟨k2, b, rfl, hvm, hbb⟩
  have B2 := HX.out.2.2.2.2.2.2.2.2.2.2.kept k2 (by simp)
  replace y0 := B2.cell (j := 0) rfl
  have y2 := B2.cell (j := 2) rfl
  obtain ⟨n4, D4, hO4, h4, h5, h6⟩ := hvm.look HS.out.2.1
  have HR := @hideH _ (show pairO (lookE (pgT c S t pg) y.key) = seesT S t y.key by rw [HX.out.2.2.2.1]; exact look_pgT)
  rw [HR.out] at h4 h5
  obtain ⟨q, hq⟩ : ∃ q, q = seesT S t y.key := ⟨_, rfl⟩
  rw [← hq] at h4 h5
  have P2 := HX.out.2.2.2.2.2.2.2.2.2.1.then k2
  have BS := P2.box
  have c1 := BS.cell (j := 1) rfl
  have HA := @hideH _ (And.intro k2 (And.intro hvm (And.intro hbb (And.intro B2 (And.intro P2 hq)))))
  have HD := @hideH _ hO4
  have hq64 : u64 q.1 := by rw [hq]; exact sees_u64 HP.out.ok HX.out.2.1 _
  have HQ64 := @hideH _ hq64
  obtain ⟨v1, th⟩ := q
  dsimp only at h4 h5
  clear k2 hvm hbb B2 P2 BS hq hq64
  have hlen : ∀ q, (Builtin.len_ #[88] 3 #[.map (some b)]).run Tryz.prog (w2.drewN q) = .ok (.int .i64 ((pgT c S t pg).length : Int)) (w2.drewN q) := fun q => by
    have r := (ownsMap_kept hO4 ((Kept.refl [] w2).drewN' q) (by simp)).len Tryz.underlying88 3
    rw [h6] at r
    exact r
  obtain ⟨ln, hln⟩ : ∃ ln, ln = (pgT c S t pg).length := ⟨_, rfl⟩
  rw [← hln] at hlen
  have HLN0 := @hideH _ hln
  have HCN := @hideH _ (show countS c S t (y.key % c.pages) = (ln : Int) by rw [count_len, ← HX.out.2.2.2.1, hln])
  clear hln h6
  go_upto_region 6 with (at_lookup; refine wpList_lookup_own_ok_int _ rfl _ _ 88 rfl 3 45 .u64 keyL Tryz.underlying88 Tryz.underlying45 (zeroU64 _) b n4 D4 rfl hO4 _ _ rfl hkey ?_; intro cc hcc hwc; (obtain rfl : v1 = cc := (by rw [h5] at hcc; simpa using hcc)); rw [h4])
  cases hth : th with
  | true =>
    subst hth
    have hfa : ¬ (y.gone = false ∧ full c S t y.key = true) := fun q => by
      rw [full_there (by rw [← HA.out.2.2.2.2.2])] at q
      cases q.2
    go_quiet (fail)
    obtain ⟨wd, hwd⟩ : ∃ wx, wx = w2.drewN nq := ⟨_, rfl⟩
    have kd : Kept [] w2 wd := by rw [hwd]; exact (Kept.refl [] w2).drewN' nq
    rw [← hwd]
    clear hwd
    have Bd := HA.out.2.2.2.1.kept kd (by simp)
    have d0 := Bd.cell (j := 0) rfl
    have d1 := Bd.cell (j := 1) rfl
    have d2 := Bd.cell (j := 2) rfl
    have vd := HA.out.2.1.kept kd (by simp)
    obtain ⟨A, hA⟩ : ∃ A : List Int, A = slotL y.key v1 true := ⟨_, rfl⟩
    obtain ⟨Bq, hBq⟩ : ∃ Bq : List Int, Bq = slotL y.key y.val (!y.gone) := ⟨_, rfl⟩
    have hkr : 0 ≤ y.key ∧ y.key < 4294967296 := by have h1 := HX.out.2.2.2.2.2.1.1; have h2 := HP.out.ok.may.2.2.2.2.2; omega
    have hSV : ∀ wx, Kept [] wd wx → Calls Tryz.prog 76 #[.map (some b), .int .i64 y.key] wx fun e w' => e = .returned (.agg (b8 A).toArray) ∧ Kept [] wx w' := fun wx kx => by
      have q := qSlotV y.key wx (vd.kept kx (by simp)) hkr (by rw [HR.out, ← HA.out.2.2.2.2.2]; exact HQ64.out)
      rw [HR.out, ← HA.out.2.2.2.2.2] at q
      rw [hA]
      exact q
    have hSC : ∀ wx, Calls Tryz.prog 77 #[.agg #[.int .i64 y.key, .int .u64 y.val, .bool y.gone]] wx fun e w' => e = .returned (.agg (b8 Bq).toArray) ∧ Kept [] wx w' := fun wx => by
      rw [hBq]
      exact qSlot y wx hkr HS.out.2.2
    obtain ⟨n, hn⟩ : ∃ n, n = lengthL A Bq := ⟨_, rfl⟩
    have hLN : ∀ wx, Calls Tryz.prog 75 #[.agg (b8 A).toArray, .agg (b8 Bq).toArray] wx fun e w' => e = .returned (.int .i64 n) ∧ Kept [] wx w' := fun wx => by
      rw [hn]
      exact qLength A Bq (by rw [hA]; exact slot_len _ _ _) (by rw [hBq]; exact slot_len _ _ _) wx
    have HNN := @hideH _ (show n = lenC S t y by
      rw [hn, hA, hBq]
      unfold lenC
      rw [← HA.out.2.2.2.2.2])
    have HSV := @hideH _ hSV
    have HSC := @hideH _ hSC
    have HLN := @hideH _ hLN
    have HVD := @hideH _ (And.intro vd (And.intro kd Bd))
    clear hSV hSC hLN hn hA hBq vd kd Bd hkr
    go_upto_region 8 with fail
    have kx : Kept [] wd wd.drew := (Kept.refl [] wd).drew
    go_region_held3 (fun w' => w'.cell? ⟨w.heap.size, 0, none⟩ = some (.int .i64 y.key) ∧ w'.cell? ⟨w.heap.size, 1, none⟩ = some (.int .u64 y.val) ∧ w'.cell? ⟨w.heap.size, 2, none⟩ = some (.bool y.gone))
      (first | (with_reducible exact ⟨kx.cell d0 (by simp), kx.cell d1 (by simp), kx.cell d2 (by simp)⟩) | fail)
      (first
        | (go_at_call 76; refine (HSV.out _ kx).mono ?_; rintro r wa ⟨rfl, kn⟩; replace kx := kx.then kn)
        | (go_at_call 77; refine (HSC.out _).mono ?_; rintro r wb ⟨rfl, kn⟩; replace kx := kx.then kn)
        | (go_at_call 75; refine (HLN.out _).mono ?_; rintro r wc ⟨rfl, kn⟩; replace kx := kx.then kn)
        | fail)
    have k15 : Kept [] w1 wc := HA.out.1.then (HVD.out.2.1.then kx)
    have P5 := HX.out.2.2.2.2.2.2.2.2.2.1.then k15
    have B5 := HX.out.2.2.2.2.2.2.2.2.2.2.kept k15 (by simp)
    have v5 := HVD.out.1.kept kx (by simp)
    replace d0 := B5.cell (j := 0) rfl
    replace d1 := B5.cell (j := 1) rfl
    replace d2 := B5.cell (j := 2) rfl
    have hy : okC c y := ⟨HX.out.2.2.2.2.2.1.1, HS.out.2.2⟩
    have hb5 : b < wc.heap.size := v5.lt
    have H5 := @hideH _ (And.intro k15 (And.intro P5 (And.intro B5 (And.intro v5 (And.intro hy hb5)))))
    have hprg : 0 ≤ pg ∧ pg < c.pages := by rw [HX.out.2.2.2.1]; exact HX.out.2.2.2.2.2.1.2
    have HPRG := @hideH _ hprg
    have T1 := HX.out.2.2.2.2.2.2.2.2.2.1.txs t HX.out.2.1
    obtain ⟨hd, ehd, D, hOh, hTh, hKh⟩ := T1.hd
    have HTH := @hideH _ (And.intro hTh (And.intro hOh ehd))
    have hm8 : t.pages.length < maxLen := by have := (HP.out.ok.few HX.out.1).2.2; unfold maxLen; omega
    have hval := mapElem_some b
    have HFA := @hideH _ hfa
    clear k15 P5 B5 v5 kx hy T1 hTh hKh hOh hprg hb5 HSV HSC HLN hfa
    by_cases hn0 : 0 < n
    · have hn16 : n ≤ 16 := by rw [HNN.out]; exact lenC_le S t y
      have HU := @hideH _ (qUpdate (x := x) y n wc H5.out.2.1 HX.out.1 HX.out.2.2.1 ⟨by omega, hn16⟩)
      go_wp2_with fail
      refine HU.out.mono ?_
      clear HU
      rintro e w6 (⟨hfit, ⟨ss, rfl⟩, k6⟩ | ⟨hfit, rfl, wL, vc, PL, k5L, kL6, bx6, cs6, hvc⟩)
      · have P6 := H5.out.2.1.then k6
        have HQF := @hideH _ (qForget (x := x) w6 P6 HX.out.1 HX.out.2.2.1)
        have hidd := (findO_some HX.out.2.2.2.2.2.2.1).2
        rw [hidd] at HQF
        have HK6 := @hideH _ (And.intro k6 (And.intro hfit hn0))
        clear k6 P6 hfit
        go_wp2_with fail
        refine HQF.out.mono ?_
        clear HQF
        rintro e w7 ⟨rfl, p7, n7⟩
        have H7 := @hideH _ (And.intro p7 n7)
        clear p7 n7
        go_wp2_with fail
        refine (qWrap _ _ _ _).mono ?_
        rintro e wv ⟨rfl, rfl⟩
        go_wp2
        go_ret2
        have ec := chg_not (page := y.key % c.pages) HP.out.ok HX.out.1 HNN.out HK6.out.2.2 HK6.out.2.1
        refine ⟨V, false, _, 170, chgS c S t (y.key % c.pages) y, by first | rfl | trivial, .inr ⟨by decide, 2, by omega, Er.wrap _ (Er.wrap _ (Er.ref 170))⟩, by rw [ec.2]; exact H7.out.1, ((Nx.refl V HX.out.2.2.2.2.1).trans (Nx.refl V (H5.out.1.then HK6.out.1))).trans H7.out.2, Or.inr ⟨HX.out.2.2.2.2.2.2.2.1, t, kx', HX.out.2.2.2.2.2.2.1, HX.out.1, ?_⟩⟩
        exact ⟨fun q1 q2 => absurd ⟨q1, q2⟩ HFA.out, fun _ => ⟨ec.1.symm, rfl, by simp⟩⟩
      · have k16 : Kept [g] wc w6 → True := fun _ => trivial
        have hbg6 : ∀ z ∈ x :: (V (.ch t.id)).ownBlock.toList, b ≠ z ∧ w.heap.size ≠ z ∧ hd ≠ z := fun z hz => by
          have P1 := HX.out.2.2.2.2.2.2.2.2.2.1
          have hch := Row.blkOf (P1.txs t HX.out.2.1).chs
          have ez : ∃ a, (a = .tx t.id ∨ a = .ch t.id) ∧ blkOf (V a) = some z := by
            rcases List.mem_cons.1 hz with q | q
            · exact ⟨.tx t.id, .inl rfl, by rw [HX.out.2.2.1, q]; rfl⟩
            · exact ⟨.ch t.id, .inr rfl, by rw [hch]; exact own_mem.1 q⟩
          obtain ⟨a, ha, ez⟩ := ez
          refine ⟨own_apart P1 HA.out.2.2.1 (a := a) (by rcases ha with q | q <;> rw [q] <;> simp) ez, fun q => ?_, fun q => ?_⟩
          · have := HP.out.inj.lt a z ez; omega
          · rw [← q] at ez
            have := HP.out.inj.inj a (.hd t.id) hd ez (by rw [HTH.out.2.2]; rfl)
            rcases ha with r | r <;> rw [r] at this <;> cases this
        have hbg5 : b ≠ g ∧ w.heap.size ≠ g ∧ hd ≠ g := by
          have P1 := HX.out.2.2.2.2.2.2.2.2.2.1
          have hg : blkOf (V .g) = some g := by rw [HP.out.vg]; rfl
          refine ⟨own_apart P1 HA.out.2.2.1 (a := .g) (by simp) hg, fun q => ?_, fun q => ?_⟩
          · have := HP.out.inj.lt _ _ hg; omega
          · rw [← q] at hg
            have := HP.out.inj.inj _ (.hd t.id) hd hg (by rw [HTH.out.2.2]; rfl)
            cases this
        have B6 := (H5.out.2.2.1.kept k5L (by simpa using hbg5.2.1)).kept kL6 (fun q => (hbg6 _ q).2.1 rfl)
        have v6 := (H5.out.2.2.2.1.kept k5L (by simpa using hbg5.1)).kept kL6 (fun q => (hbg6 _ q).1 rfl)
        have hO6 := ownsMap_kept (ownsMap_kept (ownsMap_kept HTH.out.2.1 H5.out.1 (by simp)) k5L (by simpa using hbg5.2.2)) kL6 (fun q => (hbg6 _ q).2.2 rfl)
        replace d0 := B6.cell (j := 0) rfl
        replace d1 := B6.cell (j := 1) rfl
        replace d2 := B6.cell (j := 2) rfl
        have bhd : b ≠ hd := own_apart HX.out.2.2.2.2.2.2.2.2.2.1 HA.out.2.2.1 (a := .hd t.id) (by simp) (by rw [HTH.out.2.2]; rfl)
        have bxx : b ≠ x := own_apart HX.out.2.2.2.2.2.2.2.2.2.1 HA.out.2.2.1 (a := .tx t.id) (by simp) (by rw [HX.out.2.2.1]; rfl)
        have H6 := @hideH _ (And.intro hfit (And.intro PL (And.intro k5L (And.intro kL6 (And.intro bx6 (And.intro cs6 (And.intro hvc hn0)))))))
        have HQL := @hideH _ (qLay y w6 v6 HX.out.2.2.2.2.2.2.2.2.1 HS.out.2.1 HS.out.2.2)
        have HO6 := @hideH _ hO6
        clear hfit PL k5L kL6 cs6 hvc hbg6 hbg5 B6 v6 k16 hn0
        go_wp2_with fail
        refine HQL.out.mono ?_
        clear HQL
        rintro e w7 ⟨rfl, v7, k7⟩
        have hO7 := ownsMap_kept HO6.out k7 (by simpa using Ne.symm bhd)
        have bx7 := bx6.kept k7 (by simpa using Ne.symm bxx)
        rw [ehd] at bx7
        have c0 := bx7.cell (j := 0) rfl
        have H7 := @hideH _ (And.intro v7 k7)
        obtain ⟨m8, hmm⟩ : ∃ m8, m8 = t.pages.length := ⟨_, rfl⟩
        rw [← hmm] at hO7 hm8
        clear v7 k7 bx7 bx6 hmm d0 d1 d2 hO6 ehd
        go_wp2_with (at_mapUpdate; refine wpList_mapUpdate_own _ rfl _ _ _ 114 rfl 3 88 keyL Tryz.underlying114 _ hd m8 D rfl hO7 hm8 _ _ _ rfl rfl hkeyp _ [] hval ?_; intro w8 o8 hg8)
        try go_wp2
        go_ret2
        have k8 : Kept [hd] w7 w8 := (Kept.refl _ w7).grown hg8 (fun k hk => .inl (by cases hk; simp))
        have hf6 := H6.out
        obtain ⟨V', p', n'⟩ := HX.out.2.2.2.2.2.2.2.2.2.1.chg1 (hd := hd) (b := b) (pg := pg) HX.out.1 HX.out.2.2.1 HTH.out.2.2 HX.out.2.2.2.1 HPRG.out HB.out H5.out.2.2.2.2.1 HNN.out hf6.2.2.2.2.2.2.2 hf6.1 HA.out.2.2.1 H5.out.1 H5.out.2.2.2.2.2 hf6.2.1 hf6.2.2.1 hf6.2.2.2.1 hf6.2.2.2.2.1 hf6.2.2.2.2.2.1 hf6.2.2.2.2.2.2.1 H7.out.1 H7.out.2 HTH.out.1 hO7.isMap k8 o8
        have ec := chg_fit (page := y.key % c.pages) HP.out.ok HX.out.1 HNN.out hf6.2.2.2.2.2.2.2 hf6.1
        refine ⟨V', true, _, 0, chgS c S t (y.key % c.pages) y, by first | rfl | trivial, .inl ⟨rfl, rfl⟩, p', (Nx.refl V HX.out.2.2.2.2.1).trans n', Or.inr ⟨HX.out.2.2.2.2.2.2.2.1, t, kx', HX.out.2.2.2.2.2.2.1, HX.out.1, ?_⟩⟩
        exact ⟨fun q1 q2 => absurd ⟨q1, q2⟩ HFA.out, fun _ => ⟨ec.1.symm, rfl, by rw [← HA.out.2.2.2.2.2]; simp⟩⟩
    · have bhd : b ≠ hd := own_apart HX.out.2.2.2.2.2.2.2.2.2.1 HA.out.2.2.1 (a := .hd t.id) (by simp) (by rw [HTH.out.2.2]; rfl)
      have bxx : b ≠ x := own_apart HX.out.2.2.2.2.2.2.2.2.2.1 HA.out.2.2.1 (a := .tx t.id) (by simp) (by rw [HX.out.2.2.1]; rfl)
      obtain ⟨x', ex, bx5⟩ := (H5.out.2.1.txs t HX.out.2.1).box
      obtain rfl : x = x' := by rw [HX.out.2.2.1] at ex; simpa using ex
      have HQL := @hideH _ (qLay y wc H5.out.2.2.2.1 HX.out.2.2.2.2.2.2.2.2.1 HS.out.2.1 HS.out.2.2)
      have HO6 := @hideH _ (ownsMap_kept HTH.out.2.1 H5.out.1 (by simp))
      have HN0 := @hideH _ hn0
      clear ex
      go_wp2_with fail
      refine HQL.out.mono ?_
      clear HQL
      rintro e w7 ⟨rfl, v7, k7⟩
      have hO7 := ownsMap_kept HO6.out k7 (by simpa using Ne.symm bhd)
      have bx7 := bx5.kept k7 (by simpa using Ne.symm bxx)
      rw [ehd] at bx7
      have c0 := bx7.cell (j := 0) rfl
      have H7 := @hideH _ (And.intro v7 k7)
      obtain ⟨m8, hmm⟩ : ∃ m8, m8 = t.pages.length := ⟨_, rfl⟩
      rw [← hmm] at hO7 hm8
      clear v7 k7 bx7 bx5 hmm d0 d1 d2 ehd hn0
      go_wp2_with (at_mapUpdate; refine wpList_mapUpdate_own _ rfl _ _ _ 114 rfl 3 88 keyL Tryz.underlying114 _ hd m8 D rfl hO7 hm8 _ _ _ rfl rfl hkeyp _ [] hval ?_; intro w8 o8 hg8)
      try go_wp2
      go_ret2
      have k8 : Kept [hd] w7 w8 := (Kept.refl _ w7).grown hg8 (fun k hk => .inl (by cases hk; simp))
      have hlz : ¬ 0 < lenC S t y := by rw [← HNN.out]; have := HN0.out; omega
      obtain ⟨V', p', n'⟩ := HX.out.2.2.2.2.2.2.2.2.2.1.chg0 (hd := hd) (b := b) (pg := pg) HX.out.1 HX.out.2.2.1 HTH.out.2.2 HX.out.2.2.2.1 HPRG.out HB.out H5.out.2.2.2.2.1 hlz HA.out.2.2.1 H5.out.1 H5.out.2.2.2.2.2 H7.out.1 H7.out.2 HTH.out.1 hO7.isMap k8 o8
      have ec := chg_zero (page := y.key % c.pages) HP.out.ok HX.out.1 rfl hlz
      refine ⟨V', true, _, 0, chgS c S t (y.key % c.pages) y, by first | rfl | trivial, .inl ⟨rfl, rfl⟩, p', (Nx.refl V HX.out.2.2.2.2.1).trans n', Or.inr ⟨HX.out.2.2.2.2.2.2.2.1, t, kx', HX.out.2.2.2.2.2.2.1, HX.out.1, ?_⟩⟩
      exact ⟨fun q1 q2 => absurd ⟨q1, q2⟩ HFA.out, fun _ => ⟨ec.1.symm, rfl, by rw [← HA.out.2.2.2.2.2]; simp⟩⟩
  | false =>
    subst hth
    cases hgo : y.gone with
    | true =>
      have hfa : ¬ (y.gone = false ∧ full c S t y.key = true) := fun q => by rw [hgo] at q; cases q.1
      rw [hgo] at y2
      have HGO := @hideH _ hgo
      clear hgo
      go_quiet (fail)
      obtain ⟨wd, hwd⟩ : ∃ wx, wx = w2.drewN nq := ⟨_, rfl⟩
      have kd : Kept [] w2 wd := by rw [hwd]; exact (Kept.refl [] w2).drewN' nq
      rw [← hwd]
      clear hwd
      have Bd := HA.out.2.2.2.1.kept kd (by simp)
      have d0 := Bd.cell (j := 0) rfl
      have d1 := Bd.cell (j := 1) rfl
      have d2 := Bd.cell (j := 2) rfl
      have vd := HA.out.2.1.kept kd (by simp)
      obtain ⟨A, hA⟩ : ∃ A : List Int, A = slotL y.key v1 false := ⟨_, rfl⟩
      obtain ⟨Bq, hBq⟩ : ∃ Bq : List Int, Bq = slotL y.key y.val (!y.gone) := ⟨_, rfl⟩
      have hkr : 0 ≤ y.key ∧ y.key < 4294967296 := by have h1 := HX.out.2.2.2.2.2.1.1; have h2 := HP.out.ok.may.2.2.2.2.2; omega
      have hSV : ∀ wx, Kept [] wd wx → Calls Tryz.prog 76 #[.map (some b), .int .i64 y.key] wx fun e w' => e = .returned (.agg (b8 A).toArray) ∧ Kept [] wx w' := fun wx kx => by
        have q := qSlotV y.key wx (vd.kept kx (by simp)) hkr (by rw [HR.out, ← HA.out.2.2.2.2.2]; exact HQ64.out)
        rw [HR.out, ← HA.out.2.2.2.2.2] at q
        rw [hA]
        exact q
      have hSC : ∀ wx, Calls Tryz.prog 77 #[.agg #[.int .i64 y.key, .int .u64 y.val, .bool y.gone]] wx fun e w' => e = .returned (.agg (b8 Bq).toArray) ∧ Kept [] wx w' := fun wx => by
        rw [hBq]
        exact qSlot y wx hkr HS.out.2.2
      obtain ⟨n, hn⟩ : ∃ n, n = lengthL A Bq := ⟨_, rfl⟩
      have hLN : ∀ wx, Calls Tryz.prog 75 #[.agg (b8 A).toArray, .agg (b8 Bq).toArray] wx fun e w' => e = .returned (.int .i64 n) ∧ Kept [] wx w' := fun wx => by
        rw [hn]
        exact qLength A Bq (by rw [hA]; exact slot_len _ _ _) (by rw [hBq]; exact slot_len _ _ _) wx
      have HNN := @hideH _ (show n = lenC S t y by
        rw [hn, hA, hBq]
        unfold lenC
        rw [← HA.out.2.2.2.2.2])
      have HSV := @hideH _ hSV
      have HSC := @hideH _ hSC
      have HLN := @hideH _ hLN
      have HVD := @hideH _ (And.intro vd (And.intro kd Bd))
      clear hSV hSC hLN hn hA hBq vd kd Bd hkr
      go_upto_region 8 with fail
      have kx : Kept [] wd wd.drew := (Kept.refl [] wd).drew
      go_region_held3 (fun w' => w'.cell? ⟨w.heap.size, 0, none⟩ = some (.int .i64 y.key) ∧ w'.cell? ⟨w.heap.size, 1, none⟩ = some (.int .u64 y.val) ∧ w'.cell? ⟨w.heap.size, 2, none⟩ = some (.bool y.gone))
        (first | (with_reducible exact ⟨kx.cell d0 (by simp), kx.cell d1 (by simp), kx.cell d2 (by simp)⟩) | fail)
        (first
          | (go_at_call 76; refine (HSV.out _ kx).mono ?_; rintro r wa ⟨rfl, kn⟩; replace kx := kx.then kn)
          | (go_at_call 77; refine (HSC.out _).mono ?_; rintro r wb ⟨rfl, kn⟩; replace kx := kx.then kn)
          | (go_at_call 75; refine (HLN.out _).mono ?_; rintro r wc ⟨rfl, kn⟩; replace kx := kx.then kn)
          | fail)
      have k15 : Kept [] w1 wc := HA.out.1.then (HVD.out.2.1.then kx)
      have P5 := HX.out.2.2.2.2.2.2.2.2.2.1.then k15
      have B5 := HX.out.2.2.2.2.2.2.2.2.2.2.kept k15 (by simp)
      have v5 := HVD.out.1.kept kx (by simp)
      replace d0 := B5.cell (j := 0) rfl
      replace d1 := B5.cell (j := 1) rfl
      replace d2 := B5.cell (j := 2) rfl
      have hy : okC c y := ⟨HX.out.2.2.2.2.2.1.1, HS.out.2.2⟩
      have hb5 : b < wc.heap.size := v5.lt
      have H5 := @hideH _ (And.intro k15 (And.intro P5 (And.intro B5 (And.intro v5 (And.intro hy hb5)))))
      have hprg : 0 ≤ pg ∧ pg < c.pages := by rw [HX.out.2.2.2.1]; exact HX.out.2.2.2.2.2.1.2
      have HPRG := @hideH _ hprg
      have T1 := HX.out.2.2.2.2.2.2.2.2.2.1.txs t HX.out.2.1
      obtain ⟨hd, ehd, D, hOh, hTh, hKh⟩ := T1.hd
      have HTH := @hideH _ (And.intro hTh (And.intro hOh ehd))
      have hm8 : t.pages.length < maxLen := by have := (HP.out.ok.few HX.out.1).2.2; unfold maxLen; omega
      have hval := mapElem_some b
      have HFA := @hideH _ hfa
      clear k15 P5 B5 v5 kx hy T1 hTh hKh hOh hprg hb5 HSV HSC HLN hfa
      by_cases hn0 : 0 < n
      · have hn16 : n ≤ 16 := by rw [HNN.out]; exact lenC_le S t y
        have HU := @hideH _ (qUpdate (x := x) y n wc H5.out.2.1 HX.out.1 HX.out.2.2.1 ⟨by omega, hn16⟩)
        go_wp2_with fail
        refine HU.out.mono ?_
        clear HU
        rintro e w6 (⟨hfit, ⟨ss, rfl⟩, k6⟩ | ⟨hfit, rfl, wL, vc, PL, k5L, kL6, bx6, cs6, hvc⟩)
        · have P6 := H5.out.2.1.then k6
          have HQF := @hideH _ (qForget (x := x) w6 P6 HX.out.1 HX.out.2.2.1)
          have hidd := (findO_some HX.out.2.2.2.2.2.2.1).2
          rw [hidd] at HQF
          have HK6 := @hideH _ (And.intro k6 (And.intro hfit hn0))
          clear k6 P6 hfit
          go_wp2_with fail
          refine HQF.out.mono ?_
          clear HQF
          rintro e w7 ⟨rfl, p7, n7⟩
          have H7 := @hideH _ (And.intro p7 n7)
          clear p7 n7
          go_wp2_with fail
          refine (qWrap _ _ _ _).mono ?_
          rintro e wv ⟨rfl, rfl⟩
          go_wp2
          go_ret2
          have ec := chg_not (page := y.key % c.pages) HP.out.ok HX.out.1 HNN.out HK6.out.2.2 HK6.out.2.1
          refine ⟨V, false, _, 170, chgS c S t (y.key % c.pages) y, by first | rfl | trivial, .inr ⟨by decide, 2, by omega, Er.wrap _ (Er.wrap _ (Er.ref 170))⟩, by rw [ec.2]; exact H7.out.1, ((Nx.refl V HX.out.2.2.2.2.1).trans (Nx.refl V (H5.out.1.then HK6.out.1))).trans H7.out.2, Or.inr ⟨HX.out.2.2.2.2.2.2.2.1, t, kx', HX.out.2.2.2.2.2.2.1, HX.out.1, ?_⟩⟩
          exact ⟨fun q1 q2 => absurd ⟨q1, q2⟩ HFA.out, fun _ => ⟨ec.1.symm, rfl, by simp⟩⟩
        · have k16 : Kept [g] wc w6 → True := fun _ => trivial
          have hbg6 : ∀ z ∈ x :: (V (.ch t.id)).ownBlock.toList, b ≠ z ∧ w.heap.size ≠ z ∧ hd ≠ z := fun z hz => by
            have P1 := HX.out.2.2.2.2.2.2.2.2.2.1
            have hch := Row.blkOf (P1.txs t HX.out.2.1).chs
            have ez : ∃ a, (a = .tx t.id ∨ a = .ch t.id) ∧ blkOf (V a) = some z := by
              rcases List.mem_cons.1 hz with q | q
              · exact ⟨.tx t.id, .inl rfl, by rw [HX.out.2.2.1, q]; rfl⟩
              · exact ⟨.ch t.id, .inr rfl, by rw [hch]; exact own_mem.1 q⟩
            obtain ⟨a, ha, ez⟩ := ez
            refine ⟨own_apart P1 HA.out.2.2.1 (a := a) (by rcases ha with q | q <;> rw [q] <;> simp) ez, fun q => ?_, fun q => ?_⟩
            · have := HP.out.inj.lt a z ez; omega
            · rw [← q] at ez
              have := HP.out.inj.inj a (.hd t.id) hd ez (by rw [HTH.out.2.2]; rfl)
              rcases ha with r | r <;> rw [r] at this <;> cases this
          have hbg5 : b ≠ g ∧ w.heap.size ≠ g ∧ hd ≠ g := by
            have P1 := HX.out.2.2.2.2.2.2.2.2.2.1
            have hg : blkOf (V .g) = some g := by rw [HP.out.vg]; rfl
            refine ⟨own_apart P1 HA.out.2.2.1 (a := .g) (by simp) hg, fun q => ?_, fun q => ?_⟩
            · have := HP.out.inj.lt _ _ hg; omega
            · rw [← q] at hg
              have := HP.out.inj.inj _ (.hd t.id) hd hg (by rw [HTH.out.2.2]; rfl)
              cases this
          have B6 := (H5.out.2.2.1.kept k5L (by simpa using hbg5.2.1)).kept kL6 (fun q => (hbg6 _ q).2.1 rfl)
          have v6 := (H5.out.2.2.2.1.kept k5L (by simpa using hbg5.1)).kept kL6 (fun q => (hbg6 _ q).1 rfl)
          have hO6 := ownsMap_kept (ownsMap_kept (ownsMap_kept HTH.out.2.1 H5.out.1 (by simp)) k5L (by simpa using hbg5.2.2)) kL6 (fun q => (hbg6 _ q).2.2 rfl)
          replace d0 := B6.cell (j := 0) rfl
          replace d1 := B6.cell (j := 1) rfl
          replace d2 := B6.cell (j := 2) rfl
          have bhd : b ≠ hd := own_apart HX.out.2.2.2.2.2.2.2.2.2.1 HA.out.2.2.1 (a := .hd t.id) (by simp) (by rw [HTH.out.2.2]; rfl)
          have bxx : b ≠ x := own_apart HX.out.2.2.2.2.2.2.2.2.2.1 HA.out.2.2.1 (a := .tx t.id) (by simp) (by rw [HX.out.2.2.1]; rfl)
          have H6 := @hideH _ (And.intro hfit (And.intro PL (And.intro k5L (And.intro kL6 (And.intro bx6 (And.intro cs6 (And.intro hvc hn0)))))))
          have HQL := @hideH _ (qLay y w6 v6 HX.out.2.2.2.2.2.2.2.2.1 HS.out.2.1 HS.out.2.2)
          have HO6 := @hideH _ hO6
          clear hfit PL k5L kL6 cs6 hvc hbg6 hbg5 B6 v6 k16 hn0
          go_wp2_with fail
          refine HQL.out.mono ?_
          clear HQL
          rintro e w7 ⟨rfl, v7, k7⟩
          have hO7 := ownsMap_kept HO6.out k7 (by simpa using Ne.symm bhd)
          have bx7 := bx6.kept k7 (by simpa using Ne.symm bxx)
          rw [ehd] at bx7
          have c0 := bx7.cell (j := 0) rfl
          have H7 := @hideH _ (And.intro v7 k7)
          obtain ⟨m8, hmm⟩ : ∃ m8, m8 = t.pages.length := ⟨_, rfl⟩
          rw [← hmm] at hO7 hm8
          clear v7 k7 bx7 bx6 hmm d0 d1 d2 hO6 ehd
          go_wp2_with (at_mapUpdate; refine wpList_mapUpdate_own _ rfl _ _ _ 114 rfl 3 88 keyL Tryz.underlying114 _ hd m8 D rfl hO7 hm8 _ _ _ rfl rfl hkeyp _ [] hval ?_; intro w8 o8 hg8)
          try go_wp2
          go_ret2
          have k8 : Kept [hd] w7 w8 := (Kept.refl _ w7).grown hg8 (fun k hk => .inl (by cases hk; simp))
          have hf6 := H6.out
          obtain ⟨V', p', n'⟩ := HX.out.2.2.2.2.2.2.2.2.2.1.chg1 (hd := hd) (b := b) (pg := pg) HX.out.1 HX.out.2.2.1 HTH.out.2.2 HX.out.2.2.2.1 HPRG.out HB.out H5.out.2.2.2.2.1 HNN.out hf6.2.2.2.2.2.2.2 hf6.1 HA.out.2.2.1 H5.out.1 H5.out.2.2.2.2.2 hf6.2.1 hf6.2.2.1 hf6.2.2.2.1 hf6.2.2.2.2.1 hf6.2.2.2.2.2.1 hf6.2.2.2.2.2.2.1 H7.out.1 H7.out.2 HTH.out.1 hO7.isMap k8 o8
          have ec := chg_fit (page := y.key % c.pages) HP.out.ok HX.out.1 HNN.out hf6.2.2.2.2.2.2.2 hf6.1
          refine ⟨V', false, _, 0, chgS c S t (y.key % c.pages) y, by first | rfl | trivial, .inl ⟨rfl, rfl⟩, p', (Nx.refl V HX.out.2.2.2.2.1).trans n', Or.inr ⟨HX.out.2.2.2.2.2.2.2.1, t, kx', HX.out.2.2.2.2.2.2.1, HX.out.1, ?_⟩⟩
          exact ⟨fun q1 q2 => absurd ⟨q1, q2⟩ HFA.out, fun _ => ⟨ec.1.symm, rfl, by rw [← HA.out.2.2.2.2.2]; simp⟩⟩
      · have bhd : b ≠ hd := own_apart HX.out.2.2.2.2.2.2.2.2.2.1 HA.out.2.2.1 (a := .hd t.id) (by simp) (by rw [HTH.out.2.2]; rfl)
        have bxx : b ≠ x := own_apart HX.out.2.2.2.2.2.2.2.2.2.1 HA.out.2.2.1 (a := .tx t.id) (by simp) (by rw [HX.out.2.2.1]; rfl)
        obtain ⟨x', ex, bx5⟩ := (H5.out.2.1.txs t HX.out.2.1).box
        obtain rfl : x = x' := by rw [HX.out.2.2.1] at ex; simpa using ex
        have HQL := @hideH _ (qLay y wc H5.out.2.2.2.1 HX.out.2.2.2.2.2.2.2.2.1 HS.out.2.1 HS.out.2.2)
        have HO6 := @hideH _ (ownsMap_kept HTH.out.2.1 H5.out.1 (by simp))
        have HN0 := @hideH _ hn0
        clear ex
        go_wp2_with fail
        refine HQL.out.mono ?_
        clear HQL
        rintro e w7 ⟨rfl, v7, k7⟩
        have hO7 := ownsMap_kept HO6.out k7 (by simpa using Ne.symm bhd)
        have bx7 := bx5.kept k7 (by simpa using Ne.symm bxx)
        rw [ehd] at bx7
        have c0 := bx7.cell (j := 0) rfl
        have H7 := @hideH _ (And.intro v7 k7)
        obtain ⟨m8, hmm⟩ : ∃ m8, m8 = t.pages.length := ⟨_, rfl⟩
        rw [← hmm] at hO7 hm8
        clear v7 k7 bx7 bx5 hmm d0 d1 d2 ehd hn0
        go_wp2_with (at_mapUpdate; refine wpList_mapUpdate_own _ rfl _ _ _ 114 rfl 3 88 keyL Tryz.underlying114 _ hd m8 D rfl hO7 hm8 _ _ _ rfl rfl hkeyp _ [] hval ?_; intro w8 o8 hg8)
        try go_wp2
        go_ret2
        have k8 : Kept [hd] w7 w8 := (Kept.refl _ w7).grown hg8 (fun k hk => .inl (by cases hk; simp))
        have hlz : ¬ 0 < lenC S t y := by rw [← HNN.out]; have := HN0.out; omega
        obtain ⟨V', p', n'⟩ := HX.out.2.2.2.2.2.2.2.2.2.1.chg0 (hd := hd) (b := b) (pg := pg) HX.out.1 HX.out.2.2.1 HTH.out.2.2 HX.out.2.2.2.1 HPRG.out HB.out H5.out.2.2.2.2.1 hlz HA.out.2.2.1 H5.out.1 H5.out.2.2.2.2.2 H7.out.1 H7.out.2 HTH.out.1 hO7.isMap k8 o8
        have ec := chg_zero (page := y.key % c.pages) HP.out.ok HX.out.1 rfl hlz
        refine ⟨V', false, _, 0, chgS c S t (y.key % c.pages) y, by first | rfl | trivial, .inl ⟨rfl, rfl⟩, p', (Nx.refl V HX.out.2.2.2.2.1).trans n', Or.inr ⟨HX.out.2.2.2.2.2.2.2.1, t, kx', HX.out.2.2.2.2.2.2.1, HX.out.1, ?_⟩⟩
        exact ⟨fun q1 q2 => absurd ⟨q1, q2⟩ HFA.out, fun _ => ⟨ec.1.symm, rfl, by rw [← HA.out.2.2.2.2.2]; simp⟩⟩
    | false =>
      rw [hgo] at y2
      have HGO := @hideH _ hgo
      clear hgo
      by_cases hsl : c.slots ≤ (ln : Int)
      · have hful : full c S t y.key = true := by
          rw [full_not (by rw [← HA.out.2.2.2.2.2]), HCN.out]
          exact decide_eq_true hsl
        have HFU := @hideH _ hful
        clear hful
        go_quiet (fail)
        go_wp2_with fail
        refine (qWrap _ _ _ _).mono ?_
        rintro e wv ⟨rfl, rfl⟩
        go_wp2
        go_ret2
        have kd : Kept [] w2 (w2.drewN nq) := (Kept.refl [] w2).drewN' nq
        have k1d := HX.out.2.2.2.2.1.then (HA.out.1.then kd)
        refine ⟨V, false, _, 42, S, by first | rfl | trivial, .inr ⟨by decide, 1, by omega, Er.wrap _ (Er.ref 42)⟩, HP.out.then k1d, Nx.refl V k1d, Or.inr ⟨HX.out.2.2.2.2.2.2.2.1, t, kx', HX.out.2.2.2.2.2.2.1, HX.out.1, ⟨fun _ _ => ⟨rfl, rfl, rfl⟩, fun q => absurd ⟨HGO.out, HFU.out⟩ q⟩⟩⟩
      · have hsl' : decide (c.slots ≤ (ln : Int)) = false := decide_eq_false hsl
        have hfa : ¬ (y.gone = false ∧ full c S t y.key = true) := fun q => by
          have r := q.2
          rw [full_not (by rw [← HA.out.2.2.2.2.2]), HCN.out] at r
          exact hsl (of_decide_eq_true r)
        go_quiet (fail)
        obtain ⟨wd, hwd⟩ : ∃ wx, wx = w2.drewN nq := ⟨_, rfl⟩
        have kd : Kept [] w2 wd := by rw [hwd]; exact (Kept.refl [] w2).drewN' nq
        rw [← hwd]
        clear hwd
        have Bd := HA.out.2.2.2.1.kept kd (by simp)
        have d0 := Bd.cell (j := 0) rfl
        have d1 := Bd.cell (j := 1) rfl
        have d2 := Bd.cell (j := 2) rfl
        have vd := HA.out.2.1.kept kd (by simp)
        obtain ⟨A, hA⟩ : ∃ A : List Int, A = slotL y.key v1 false := ⟨_, rfl⟩
        obtain ⟨Bq, hBq⟩ : ∃ Bq : List Int, Bq = slotL y.key y.val (!y.gone) := ⟨_, rfl⟩
        have hkr : 0 ≤ y.key ∧ y.key < 4294967296 := by have h1 := HX.out.2.2.2.2.2.1.1; have h2 := HP.out.ok.may.2.2.2.2.2; omega
        have hSV : ∀ wx, Kept [] wd wx → Calls Tryz.prog 76 #[.map (some b), .int .i64 y.key] wx fun e w' => e = .returned (.agg (b8 A).toArray) ∧ Kept [] wx w' := fun wx kx => by
          have q := qSlotV y.key wx (vd.kept kx (by simp)) hkr (by rw [HR.out, ← HA.out.2.2.2.2.2]; exact HQ64.out)
          rw [HR.out, ← HA.out.2.2.2.2.2] at q
          rw [hA]
          exact q
        have hSC : ∀ wx, Calls Tryz.prog 77 #[.agg #[.int .i64 y.key, .int .u64 y.val, .bool y.gone]] wx fun e w' => e = .returned (.agg (b8 Bq).toArray) ∧ Kept [] wx w' := fun wx => by
          rw [hBq]
          exact qSlot y wx hkr HS.out.2.2
        obtain ⟨n, hn⟩ : ∃ n, n = lengthL A Bq := ⟨_, rfl⟩
        have hLN : ∀ wx, Calls Tryz.prog 75 #[.agg (b8 A).toArray, .agg (b8 Bq).toArray] wx fun e w' => e = .returned (.int .i64 n) ∧ Kept [] wx w' := fun wx => by
          rw [hn]
          exact qLength A Bq (by rw [hA]; exact slot_len _ _ _) (by rw [hBq]; exact slot_len _ _ _) wx
        have HNN := @hideH _ (show n = lenC S t y by
          rw [hn, hA, hBq]
          unfold lenC
          rw [← HA.out.2.2.2.2.2])
        have HSV := @hideH _ hSV
        have HSC := @hideH _ hSC
        have HLN := @hideH _ hLN
        have HVD := @hideH _ (And.intro vd (And.intro kd Bd))
        clear hSV hSC hLN hn hA hBq vd kd Bd hkr
        go_upto_region 8 with fail
        have kx : Kept [] wd wd.drew := (Kept.refl [] wd).drew
        go_region_held3 (fun w' => w'.cell? ⟨w.heap.size, 0, none⟩ = some (.int .i64 y.key) ∧ w'.cell? ⟨w.heap.size, 1, none⟩ = some (.int .u64 y.val) ∧ w'.cell? ⟨w.heap.size, 2, none⟩ = some (.bool y.gone))
          (first | (with_reducible exact ⟨kx.cell d0 (by simp), kx.cell d1 (by simp), kx.cell d2 (by simp)⟩) | fail)
          (first
            | (go_at_call 76; refine (HSV.out _ kx).mono ?_; rintro r wa ⟨rfl, kn⟩; replace kx := kx.then kn)
            | (go_at_call 77; refine (HSC.out _).mono ?_; rintro r wb ⟨rfl, kn⟩; replace kx := kx.then kn)
            | (go_at_call 75; refine (HLN.out _).mono ?_; rintro r wc ⟨rfl, kn⟩; replace kx := kx.then kn)
            | fail)
        have k15 : Kept [] w1 wc := HA.out.1.then (HVD.out.2.1.then kx)
        have P5 := HX.out.2.2.2.2.2.2.2.2.2.1.then k15
        have B5 := HX.out.2.2.2.2.2.2.2.2.2.2.kept k15 (by simp)
        have v5 := HVD.out.1.kept kx (by simp)
        replace d0 := B5.cell (j := 0) rfl
        replace d1 := B5.cell (j := 1) rfl
        replace d2 := B5.cell (j := 2) rfl
        have hy : okC c y := ⟨HX.out.2.2.2.2.2.1.1, HS.out.2.2⟩
        have hb5 : b < wc.heap.size := v5.lt
        have H5 := @hideH _ (And.intro k15 (And.intro P5 (And.intro B5 (And.intro v5 (And.intro hy hb5)))))
        have hprg : 0 ≤ pg ∧ pg < c.pages := by rw [HX.out.2.2.2.1]; exact HX.out.2.2.2.2.2.1.2
        have HPRG := @hideH _ hprg
        have T1 := HX.out.2.2.2.2.2.2.2.2.2.1.txs t HX.out.2.1
        obtain ⟨hd, ehd, D, hOh, hTh, hKh⟩ := T1.hd
        have HTH := @hideH _ (And.intro hTh (And.intro hOh ehd))
        have hm8 : t.pages.length < maxLen := by have := (HP.out.ok.few HX.out.1).2.2; unfold maxLen; omega
        have hval := mapElem_some b
        have HFA := @hideH _ hfa
        clear k15 P5 B5 v5 kx hy T1 hTh hKh hOh hprg hb5 HSV HSC HLN hfa
        by_cases hn0 : 0 < n
        · have hn16 : n ≤ 16 := by rw [HNN.out]; exact lenC_le S t y
          have HU := @hideH _ (qUpdate (x := x) y n wc H5.out.2.1 HX.out.1 HX.out.2.2.1 ⟨by omega, hn16⟩)
          go_wp2_with fail
          refine HU.out.mono ?_
          clear HU
          rintro e w6 (⟨hfit, ⟨ss, rfl⟩, k6⟩ | ⟨hfit, rfl, wL, vc, PL, k5L, kL6, bx6, cs6, hvc⟩)
          · have P6 := H5.out.2.1.then k6
            have HQF := @hideH _ (qForget (x := x) w6 P6 HX.out.1 HX.out.2.2.1)
            have hidd := (findO_some HX.out.2.2.2.2.2.2.1).2
            rw [hidd] at HQF
            have HK6 := @hideH _ (And.intro k6 (And.intro hfit hn0))
            clear k6 P6 hfit
            go_wp2_with fail
            refine HQF.out.mono ?_
            clear HQF
            rintro e w7 ⟨rfl, p7, n7⟩
            have H7 := @hideH _ (And.intro p7 n7)
            clear p7 n7
            go_wp2_with fail
            refine (qWrap _ _ _ _).mono ?_
            rintro e wv ⟨rfl, rfl⟩
            go_wp2
            go_ret2
            have ec := chg_not (page := y.key % c.pages) HP.out.ok HX.out.1 HNN.out HK6.out.2.2 HK6.out.2.1
            refine ⟨V, false, _, 170, chgS c S t (y.key % c.pages) y, by first | rfl | trivial, .inr ⟨by decide, 2, by omega, Er.wrap _ (Er.wrap _ (Er.ref 170))⟩, by rw [ec.2]; exact H7.out.1, ((Nx.refl V HX.out.2.2.2.2.1).trans (Nx.refl V (H5.out.1.then HK6.out.1))).trans H7.out.2, Or.inr ⟨HX.out.2.2.2.2.2.2.2.1, t, kx', HX.out.2.2.2.2.2.2.1, HX.out.1, ?_⟩⟩
            exact ⟨fun q1 q2 => absurd ⟨q1, q2⟩ HFA.out, fun _ => ⟨ec.1.symm, rfl, by simp⟩⟩
          · have k16 : Kept [g] wc w6 → True := fun _ => trivial
            have hbg6 : ∀ z ∈ x :: (V (.ch t.id)).ownBlock.toList, b ≠ z ∧ w.heap.size ≠ z ∧ hd ≠ z := fun z hz => by
              have P1 := HX.out.2.2.2.2.2.2.2.2.2.1
              have hch := Row.blkOf (P1.txs t HX.out.2.1).chs
              have ez : ∃ a, (a = .tx t.id ∨ a = .ch t.id) ∧ blkOf (V a) = some z := by
                rcases List.mem_cons.1 hz with q | q
                · exact ⟨.tx t.id, .inl rfl, by rw [HX.out.2.2.1, q]; rfl⟩
                · exact ⟨.ch t.id, .inr rfl, by rw [hch]; exact own_mem.1 q⟩
              obtain ⟨a, ha, ez⟩ := ez
              refine ⟨own_apart P1 HA.out.2.2.1 (a := a) (by rcases ha with q | q <;> rw [q] <;> simp) ez, fun q => ?_, fun q => ?_⟩
              · have := HP.out.inj.lt a z ez; omega
              · rw [← q] at ez
                have := HP.out.inj.inj a (.hd t.id) hd ez (by rw [HTH.out.2.2]; rfl)
                rcases ha with r | r <;> rw [r] at this <;> cases this
            have hbg5 : b ≠ g ∧ w.heap.size ≠ g ∧ hd ≠ g := by
              have P1 := HX.out.2.2.2.2.2.2.2.2.2.1
              have hg : blkOf (V .g) = some g := by rw [HP.out.vg]; rfl
              refine ⟨own_apart P1 HA.out.2.2.1 (a := .g) (by simp) hg, fun q => ?_, fun q => ?_⟩
              · have := HP.out.inj.lt _ _ hg; omega
              · rw [← q] at hg
                have := HP.out.inj.inj _ (.hd t.id) hd hg (by rw [HTH.out.2.2]; rfl)
                cases this
            have B6 := (H5.out.2.2.1.kept k5L (by simpa using hbg5.2.1)).kept kL6 (fun q => (hbg6 _ q).2.1 rfl)
            have v6 := (H5.out.2.2.2.1.kept k5L (by simpa using hbg5.1)).kept kL6 (fun q => (hbg6 _ q).1 rfl)
            have hO6 := ownsMap_kept (ownsMap_kept (ownsMap_kept HTH.out.2.1 H5.out.1 (by simp)) k5L (by simpa using hbg5.2.2)) kL6 (fun q => (hbg6 _ q).2.2 rfl)
            replace d0 := B6.cell (j := 0) rfl
            replace d1 := B6.cell (j := 1) rfl
            replace d2 := B6.cell (j := 2) rfl
            have bhd : b ≠ hd := own_apart HX.out.2.2.2.2.2.2.2.2.2.1 HA.out.2.2.1 (a := .hd t.id) (by simp) (by rw [HTH.out.2.2]; rfl)
            have bxx : b ≠ x := own_apart HX.out.2.2.2.2.2.2.2.2.2.1 HA.out.2.2.1 (a := .tx t.id) (by simp) (by rw [HX.out.2.2.1]; rfl)
            have H6 := @hideH _ (And.intro hfit (And.intro PL (And.intro k5L (And.intro kL6 (And.intro bx6 (And.intro cs6 (And.intro hvc hn0)))))))
            have HQL := @hideH _ (qLay y w6 v6 HX.out.2.2.2.2.2.2.2.2.1 HS.out.2.1 HS.out.2.2)
            have HO6 := @hideH _ hO6
            clear hfit PL k5L kL6 cs6 hvc hbg6 hbg5 B6 v6 k16 hn0
            go_wp2_with fail
            refine HQL.out.mono ?_
            clear HQL
            rintro e w7 ⟨rfl, v7, k7⟩
            have hO7 := ownsMap_kept HO6.out k7 (by simpa using Ne.symm bhd)
            have bx7 := bx6.kept k7 (by simpa using Ne.symm bxx)
            rw [ehd] at bx7
            have c0 := bx7.cell (j := 0) rfl
            have H7 := @hideH _ (And.intro v7 k7)
            obtain ⟨m8, hmm⟩ : ∃ m8, m8 = t.pages.length := ⟨_, rfl⟩
            rw [← hmm] at hO7 hm8
            clear v7 k7 bx7 bx6 hmm d0 d1 d2 hO6 ehd
            go_wp2_with (at_mapUpdate; refine wpList_mapUpdate_own _ rfl _ _ _ 114 rfl 3 88 keyL Tryz.underlying114 _ hd m8 D rfl hO7 hm8 _ _ _ rfl rfl hkeyp _ [] hval ?_; intro w8 o8 hg8)
            try go_wp2
            go_ret2
            have k8 : Kept [hd] w7 w8 := (Kept.refl _ w7).grown hg8 (fun k hk => .inl (by cases hk; simp))
            have hf6 := H6.out
            obtain ⟨V', p', n'⟩ := HX.out.2.2.2.2.2.2.2.2.2.1.chg1 (hd := hd) (b := b) (pg := pg) HX.out.1 HX.out.2.2.1 HTH.out.2.2 HX.out.2.2.2.1 HPRG.out HB.out H5.out.2.2.2.2.1 HNN.out hf6.2.2.2.2.2.2.2 hf6.1 HA.out.2.2.1 H5.out.1 H5.out.2.2.2.2.2 hf6.2.1 hf6.2.2.1 hf6.2.2.2.1 hf6.2.2.2.2.1 hf6.2.2.2.2.2.1 hf6.2.2.2.2.2.2.1 H7.out.1 H7.out.2 HTH.out.1 hO7.isMap k8 o8
            have ec := chg_fit (page := y.key % c.pages) HP.out.ok HX.out.1 HNN.out hf6.2.2.2.2.2.2.2 hf6.1
            refine ⟨V', false, _, 0, chgS c S t (y.key % c.pages) y, by first | rfl | trivial, .inl ⟨rfl, rfl⟩, p', (Nx.refl V HX.out.2.2.2.2.1).trans n', Or.inr ⟨HX.out.2.2.2.2.2.2.2.1, t, kx', HX.out.2.2.2.2.2.2.1, HX.out.1, ?_⟩⟩
            exact ⟨fun q1 q2 => absurd ⟨q1, q2⟩ HFA.out, fun _ => ⟨ec.1.symm, rfl, by rw [← HA.out.2.2.2.2.2]; simp⟩⟩
        · have bhd : b ≠ hd := own_apart HX.out.2.2.2.2.2.2.2.2.2.1 HA.out.2.2.1 (a := .hd t.id) (by simp) (by rw [HTH.out.2.2]; rfl)
          have bxx : b ≠ x := own_apart HX.out.2.2.2.2.2.2.2.2.2.1 HA.out.2.2.1 (a := .tx t.id) (by simp) (by rw [HX.out.2.2.1]; rfl)
          obtain ⟨x', ex, bx5⟩ := (H5.out.2.1.txs t HX.out.2.1).box
          obtain rfl : x = x' := by rw [HX.out.2.2.1] at ex; simpa using ex
          have HQL := @hideH _ (qLay y wc H5.out.2.2.2.1 HX.out.2.2.2.2.2.2.2.2.1 HS.out.2.1 HS.out.2.2)
          have HO6 := @hideH _ (ownsMap_kept HTH.out.2.1 H5.out.1 (by simp))
          have HN0 := @hideH _ hn0
          clear ex
          go_wp2_with fail
          refine HQL.out.mono ?_
          clear HQL
          rintro e w7 ⟨rfl, v7, k7⟩
          have hO7 := ownsMap_kept HO6.out k7 (by simpa using Ne.symm bhd)
          have bx7 := bx5.kept k7 (by simpa using Ne.symm bxx)
          rw [ehd] at bx7
          have c0 := bx7.cell (j := 0) rfl
          have H7 := @hideH _ (And.intro v7 k7)
          obtain ⟨m8, hmm⟩ : ∃ m8, m8 = t.pages.length := ⟨_, rfl⟩
          rw [← hmm] at hO7 hm8
          clear v7 k7 bx7 bx5 hmm d0 d1 d2 ehd hn0
          go_wp2_with (at_mapUpdate; refine wpList_mapUpdate_own _ rfl _ _ _ 114 rfl 3 88 keyL Tryz.underlying114 _ hd m8 D rfl hO7 hm8 _ _ _ rfl rfl hkeyp _ [] hval ?_; intro w8 o8 hg8)
          try go_wp2
          go_ret2
          have k8 : Kept [hd] w7 w8 := (Kept.refl _ w7).grown hg8 (fun k hk => .inl (by cases hk; simp))
          have hlz : ¬ 0 < lenC S t y := by rw [← HNN.out]; have := HN0.out; omega
          obtain ⟨V', p', n'⟩ := HX.out.2.2.2.2.2.2.2.2.2.1.chg0 (hd := hd) (b := b) (pg := pg) HX.out.1 HX.out.2.2.1 HTH.out.2.2 HX.out.2.2.2.1 HPRG.out HB.out H5.out.2.2.2.2.1 hlz HA.out.2.2.1 H5.out.1 H5.out.2.2.2.2.2 H7.out.1 H7.out.2 HTH.out.1 hO7.isMap k8 o8
          have ec := chg_zero (page := y.key % c.pages) HP.out.ok HX.out.1 rfl hlz
          refine ⟨V', false, _, 0, chgS c S t (y.key % c.pages) y, by first | rfl | trivial, .inl ⟨rfl, rfl⟩, p', (Nx.refl V HX.out.2.2.2.2.1).trans n', Or.inr ⟨HX.out.2.2.2.2.2.2.2.1, t, kx', HX.out.2.2.2.2.2.2.1, HX.out.1, ?_⟩⟩
          exact ⟨fun q1 q2 => absurd ⟨q1, q2⟩ HFA.out, fun _ => ⟨ec.1.symm, rfl, by rw [← HA.out.2.2.2.2.2]; simp⟩⟩
end Go.Proofs.YtnjfahgmebmakaaGreatDoor

