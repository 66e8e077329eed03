import Derived.Test.YtpbcfkfhkenhpaaC1
/-
  OWN WORK (by mkrm2.py). The document's Room (layer 17): what changes it.
-/
namespace Go.Proofs.Ytpbcfkfhkenhpaa
open Go.RowKit
set_option linter.unusedVariables false
set_option linter.unusedSimpArgs false

theorem src_txn {P : Program} (w : World) (t e : TypeId) (ht : P.underlying t = some (.slice e)) (b : Int) : Src P 2 t (.slice (some ⟨w.heap.size, 0, none⟩) 1 1) 1 [.int .i64 b, .slice none 0 0] (w.alloc (.cells #[.int .i64 b, .slice none 0 0] e)) := by
  refine Src.ofSlice _ ht _ _ _ _ rfl (fun j u hj => ?_) (by simp [Value.oneCell'])
  rw [add_none rfl]
  have q := (Blk.new w e [.int .i64 b, .slice none 0 0]).cell hj
  simpa using q
theorem rr_begin {w w7 w8 : World} {g : Nat} {a b : Int} {v v' : Value} {P : List (Tx × Value)} (h : RrP w g a v P) (k7 : Kept [] w w7) (r8 : Row w8 0 2 v' (P.length + 1) (tcells P ++ [.int .i64 b, .slice none 0 0])) (k8 : Kept v.ownBlock.toList w7 w8) (o8 : v'.ownBlock = v.ownBlock ∨ (v'.ownBlock = some w7.heap.size ∧ Kept [] w7 w8))
    (hf : findT (P.map Prod.fst) b = none) (hs : szT (P.map Prod.fst) < 4398046511104) :
    Blk w8 g 49 [.int .i64 a, v] ∧ ∃ F', Rr (w8.setCell ⟨g, 1, none⟩ v') g F' a (begT (P.map Prod.fst) b) ∧ Fr w (blks g v P) F' ∧ Kept (blks g v P) w (w8.setCell ⟨g, 1, none⟩ v') := by
  have hz := k7.size
  have hm : (P ++ [((⟨b, []⟩ : Tx), Value.slice none 0 0)]).map Prod.fst = begT (P.map Prod.fst) b := by rw [(beg_new hf).2]; simp
  obtain ⟨h1, h2, h3, h4⟩ := h.list (P' := P ++ [(⟨b, []⟩, .slice none 0 0)]) ((k7.mono (T := v.ownBlock.toList) (by simp)).trans k8 (fun x hx => .inl hx)) (by rw [List.length_append, tcells_append]; exact r8)
    (o8.imp id (fun q y hy => by rw [q.1] at hy; cases hy; omega)) (fun x hx => by rcases List.mem_append.1 hx with q | q; exact .inl q; (simp at q; subst q; exact .inr ⟨rfl, rfl⟩))
    (by rw [List.map_append, List.pairwise_append]; exact ⟨(List.pairwise_cons.1 h.apt).2, by simp, fun x hx y hy => by simp at hy; subst hy; exact Ap.none rfl⟩) (by rw [hm]; exact h.ok.beg b hs)
  exact ⟨h1, _, ⟨_, _, h2, hm.symm, rfl⟩, h3, h4⟩
theorem rr_drop {w w3 w4 : World} {g : Nat} {a b : Int} {v v1 v2 : Value} {P : List (Tx × Value)} {k N : Nat} {x : Tx × Value} (h : RrP w g a v P) (hk : P[k]? = some x) (hb : x.1.b = b) (k3 : Kept [] w w3) (o3 : v1.ownBlock = none ∨ (v1.ownBlock = some w.heap.size ∧ Kept [] w w3))
    (hN : N = P.length - 1) (r4 : Row w4 0 2 v2 N ((tcells P).take (k * 2) ++ (tcells P).drop ((k + 1) * 2))) (k4 : Kept v1.ownBlock.toList w3 w4) (o4 : v2.ownBlock = v1.ownBlock ∨ (v2.ownBlock = some w3.heap.size ∧ Kept [] w3 w4)) :
    Blk w4 g 49 [.int .i64 a, v] ∧ ∃ F', Rr (w4.setCell ⟨g, 1, none⟩ v2) g F' a (drpT (P.map Prod.fst) b) ∧ Fr w (blks g v P) F' ∧ Kept (blks g v P) w (w4.setCell ⟨g, 1, none⟩ v2) := by
  have s3 := k3.size
  have hkl := (List.getElem?_eq_some_iff.1 hk).1
  have h1 : ∀ y, v1.ownBlock = some y → w.heap.size ≤ y := fun y hy => by
    rcases o3 with o | ⟨o, -⟩
    · rw [o] at hy; cases hy
    · rw [o] at hy; cases hy; omega
  have h2 : ∀ y, v2.ownBlock = some y → w.heap.size ≤ y := fun y hy => by
    rcases o4 with o | ⟨o, -⟩
    · rw [o] at hy; exact h1 y hy
    · rw [o] at hy; cases hy; omega
  have k04 : Kept [] w w4 := k3.trans k4 (fun x hx => .inr (h1 x (own_mem.1 hx)))
  have hm : (P.take k ++ P.drop (k + 1)).map Prod.fst = drpT (P.map Prod.fst) b := by
    have hk' : (P.map Prod.fst)[k]? = some x.1 := by rw [List.getElem?_map, hk]; rfl
    rw [drpT, ← hb, dropL_at h.ok.dif hk', List.map_append, List.map_take, List.map_drop]
  have hsub : (P.take k ++ P.drop (k + 1)).Sublist P := by
    conv => rhs; rw [splitP hk]
    exact (List.Sublist.refl _).append (List.sublist_cons_self _ _)
  obtain ⟨g1, g2, g3, g4⟩ := h.list (P' := P.take k ++ P.drop (k + 1)) (k04.mono (T := v.ownBlock.toList) (by simp)) (by
      rw [tcells_append, ← tcells_take, ← tcells_drop, List.length_append, List.length_take, List.length_drop, show min k P.length + (P.length - (k + 1)) = N by omega]
      exact r4) (.inr h2) (fun x hx => .inl (hsub.subset hx)) ((List.pairwise_cons.1 h.apt).2.sublist (hsub.map _)) (by rw [hm]; exact h.ok.drp b)
  exact ⟨g1, _, ⟨_, _, g2, hm.symm, rfl⟩, g3, g4⟩
theorem run_cut_to_sz {P : Program} (w : World) (t e : TypeId) (sz : Nat) (hu : P.underlying t = some (.slice e)) (hsz : (P.info? e).map (·.size) = some sz) (p : Option Addr) (n c k : Nat) (hk : k ≤ c) :
    (Instr.slice t (.slice p n c) none (some (.int .i64 (k : Int))) none).run P w = .ok (.slice p k c) w := by
  obtain ⟨i, hi, hs⟩ := Option.map_eq_some_iff.1 hsz
  simp [Instr.slice, run_underlying hu, Instr.sliceBounds, run_sliceBound, sizeOf, typeInfo, hi, (by omega : (k : Int) ≤ (c : Int))]
  intro _
  cases p with
  | none => rfl
  | some a =>
    obtain ⟨b, o, s⟩ := a
    cases s <;> simp [Addr.add]
/-- a front of a row is a source -/
theorem Row.fore {P : Program} {w w' : World} {base sz g n c : Nat} {cs : List Value} {t e : TypeId} (ht : P.underlying t = some (.slice e)) (h : Row w base sz (.slice (some ⟨g, 0, none⟩) n c) n cs) (hc : ∀ (j : Nat) u, cs[j]? = some u → w'.cell? ⟨g, j, none⟩ = some u) (k : Nat) (hk : k ≤ n) : Src P sz t (.slice (some ⟨g, 0, none⟩) k c) k (cs.take (k * sz)) w' := by
  obtain ⟨h1, h2, p', c', e', h3, h4, h5⟩ := h
  cases e'
  have hm : k * sz ≤ n * sz := Nat.mul_le_mul_right _ hk
  refine Src.ofSlice w' ht _ _ _ _ (by rw [List.length_take]; omega) (fun j u hj => ?_) (fun u hu => h2 u (List.mem_of_mem_take hu))
  rw [add_none (a := ⟨g, 0, none⟩) rfl]
  rw [List.getElem?_take] at hj
  split at hj
  · simpa using hc _ u hj
  · cases hj
theorem erase_at : ∀ {u : List Int} {j : Nat} {n : Int}, u[j]? = some n → (∀ (i : Nat) (y : Int), i < j → u[i]? = some y → y ≠ n) → u.erase n = u.take j ++ u.drop (j + 1)
  | [], j, n, h, _ => by simp at h
  | m :: r, 0, n, h, _ => by simp at h; subst h; simp
  | m :: r, j + 1, n, h, hn => by
    have h0 : m ≠ n := hn 0 m (by omega) rfl
    have ih := erase_at (u := r) (j := j) (n := n) (by simpa using h) (fun i y hi hy => hn (i + 1) y (by omega) (by simpa using hy))
    rw [List.erase_cons_tail (by simpa using h0), ih]
    simp
theorem not_in {u : List Int} {n : Int} (h : ∀ (i : Nat) (y : Int), i < u.length → u[i]? = some y → y ≠ n) : n ∉ u := fun hm => by
  obtain ⟨i, hi, e⟩ := List.getElem_of_mem hm
  exact h i n hi (List.getElem?_eq_some_iff.2 ⟨hi, e⟩) rfl
theorem i64s_take (l : List Int) (k : Nat) : (i64s l).take k = i64s (l.take k) := by simp [i64s, List.map_take]
theorem i64s_drop (l : List Int) (k : Nat) : (i64s l).drop k = i64s (l.drop k) := by simp [i64s, List.map_drop]
theorem i64s_append (a b : List Int) : i64s (a ++ b) = i64s a ++ i64s b := by simp [i64s]
set_option maxRecDepth 20000 in
set_option maxHeartbeats 1600000 in
theorem rBegin {g : Nat} {F : List Nat} {a : Int} {T : List Tx} (b : Int) (w : World) (h : Rr w g F a T) (hs : szT T < 4398046511104) : Calls Try.prog 26 #[.pointer (some ⟨g, 0, none⟩), .int .i64 b] w fun e w' => ∃ F', e = .returned (.int .i64 (begE T b)) ∧ Rr w' g F' a (begT T b) ∧ Fr w F F' ∧ Kept F w w' := by
  obtain ⟨v, P, h, hT, hF⟩ := h
  subst hT hF
  have HA := @hideH _ (rAt b w h)
  have HRr := @hideH _ (show Rr w g (blks g v P) a (P.map Prod.fst) from ⟨v, P, h, rfl, rfl⟩)
  obtain ⟨p, c, hv, hnc, hcm⟩ := h.row.shape
  subst hv
  obtain ⟨n, hn⟩ : ∃ n, n = P.length := ⟨_, rfl⟩
  have HR := @hideH _ h
  have HN := @hideH _ (And.intro hn (And.intro hnc hcm))
  have B := h.box
  rw [← hn] at B
  have c1 := B.cell (j := 1) rfl
  have HS := @hideH _ hs
  have HL := @hideH _ (show n < 4398046511104 by have := len_szT (P.map Prod.fst); rw [List.length_map, ← hn] at this; omega)
  clear hs
  clear h hn B hnc hcm
  obtain ⟨infT, hin1, hin2, hin3, hin4⟩ := info_parts3 (show (Try.prog.info? 65).map (fun i => (i.zero, i.size, i.bytes)) = some (some (.agg #[.int .i64 0, .slice none 0 0]), 2, 32) by kernel_rfl)
  have HIT := @hideH _ (And.intro hin1 (And.intro hin2 (And.intro hin3 hin4)))
  clear hin1 hin2 hin3 hin4
  go_enter Try.func26, Try.ntmps26
  go_wp2_with fail
  refine HA.out.mono ?_
  clear HA
  rintro e wx ⟨hwx, i, rfl, hi⟩
  rw [hwx]
  clear hwx wx
  rcases hi with ⟨rfl, he⟩ | ⟨k, x, rfl, hx, hb, he⟩
  · have HE := @hideH _ he
    clear he
    obtain ⟨w7, hw7⟩ : ∃ wx, wx = w.alloc (.cells #[.int .i64 b, .slice none 0 0] 65) := ⟨_, rfl⟩
    have k7 : Kept [] w w7 := by rw [hw7]; exact (Kept.refl [] w).alloc _
    have hsrc := src_txn (P := Try.prog) w 47 65 Try.underlying47 b
    rw [← hw7] at hsrc
    have HK7 := @hideH _ k7
    have R7 := HR.out.row.kept k7 (by simp)
    rw [← HN.out.1] at R7
    have c7 := k7.cell c1 (by simp)
    clear k7
    go_upto_region 4 with (at_builtin; rw [← hw7]; clear hw7; refine wpList_append_row2 rfl (.tmp 13) (.tmp 16) 47 rfl 0 65 infT (.agg #[.int .i64 0, .slice none 0 0]) 2 32 Try.underlying47 HIT.out.1 HIT.out.2.1 HIT.out.2.2.1 HIT.out.2.2.2 rfl _ _ _ (by rfl) R7 _ 1 _ (by rfl) hsrc (by have e1 := HL.out; omega) (by have e1 := HL.out; unfold maxLen; omega) (by have e1 := HL.out; omega) (Nat.zero_le _) ?_; intro v' w8 r8 k8 o8; obtain ⟨p', c', hv', -⟩ := Row.shape r8; subst hv'; have FIN := rr_begin (w8 := w8) (v' := .slice p' (n + 1) c') (b := b) HR.out HK7.out (by rw [← HN.out.1]; exact r8) (by rw [← HN.out.1]; exact k8) (by rw [← HN.out.1]; exact o8) HE.out HS.out; have B8 := FIN.1; rw [← HN.out.1] at B8; have c8 := B8.cell (j := 1) rfl; have f8 := B8.free 1; have HFIN := @hideH _ FIN.2; clear FIN B8 r8 k8 o8 hsrc R7)
    obtain ⟨w9, hw9⟩ : ∃ wx, wx = w8.setCell ⟨g, 1, none⟩ (.slice p' (n + 1) c') := ⟨_, rfl⟩
    rw [← hw9] at HFIN
    rw [← hw9]
    clear hw9 c8 f8 c7
    go_wp2
    go_ret
    obtain ⟨F', q1, q2, q3⟩ := HFIN.out
    exact ⟨F', by rw [(beg_new HE.out).1]; rfl, q1, q2, q3⟩
  · have h0 : (0 : Int) ≤ (k : Int) := by omega
    have HE := @hideH _ (beg_old he)
    clear he hx hb
    go_wp2
    go_ret
    exact ⟨_, by rw [HE.out.1]; rfl, by rw [HE.out.2]; exact HRr.out, Fr.refl _ _, Kept.refl _ _⟩
end Go.Proofs.Ytpbcfkfhkenhpaa

/-
  OWN WORK (by mkrm2.py). The document's Room (layer 17): Update.
-/
namespace Go.Proofs.Ytpbcfkfhkenhpaa
open Go.RowKit
set_option linter.unusedVariables false
set_option linter.unusedSimpArgs false

theorem rr_update {w w7 w8 : World} {g : Nat} {a n : Int} {gl N c : Nat} {P : List (Tx × Value)} {k : Nat} {t : Tx} {u u' : Value} (h : RrP w g a (.slice (some ⟨gl, 0, none⟩) N c) P) (hk : P[k]? = some (t, u)) (hn : isN n) (hs : szT (P.map Prod.fst) < 4398046511104) (k7 : Kept [] w w7) (r8 : Row w8 0 1 u' (t.u.length + 1) (i64s t.u ++ [.int .i64 n])) (k8 : Kept u.ownBlock.toList w7 w8) (o8 : u'.ownBlock = u.ownBlock ∨ (u'.ownBlock = some w7.heap.size ∧ Kept [] w7 w8)) (hf : findT (P.map Prod.fst) t.b = some t) :
    (∃ x, w8.cell? ⟨gl, k * 2 + 1, none⟩ = some x) ∧ w8.cell? ⟨g, 1, none⟩ = some (.slice (some ⟨gl, 0, none⟩) N c) ∧ w8.cell? ⟨gl, k * 2 + 1, none⟩ = some u ∧ w8.frozen? ⟨gl, k * 2 + 1, none⟩ = false ∧ ∃ F', Rr (w8.setCell ⟨gl, k * 2 + 1, none⟩ u') g F' a (updT (P.map Prod.fst) t.b n) ∧ Fr w (blks g (.slice (some ⟨gl, 0, none⟩) N c) P) F' ∧ Kept (blks g (.slice (some ⟨gl, 0, none⟩) N c) P) w (w8.setCell ⟨gl, k * 2 + 1, none⟩ u') := by
  have hz := k7.size
  have k08 : Kept u.ownBlock.toList w w8 := (k7.mono (T := u.ownBlock.toList) (by simp)).trans k8 (fun x hx => .inl hx)
  have hum : u ∈ P.map Prod.snd := List.mem_map.2 ⟨_, List.mem_of_getElem? hk, rfl⟩
  have hgu : g ∉ u.ownBlock.toList := fun hm => h.far u (List.mem_cons_of_mem _ hum) (own_mem.1 hm)
  have hglu : gl ∉ u.ownBlock.toList := fun hm => (List.pairwise_cons.1 h.apt).1 u hum gl rfl (own_mem.1 hm)
  have hlt := (h.row.lt gl rfl).2
  obtain ⟨gl', e, -, d1, -, f1⟩ := h.at hk
  cases e
  have e1 := (upd_ok hf hn).2
  obtain ⟨q1, q2, q3, q4⟩ := h.set (l' := t.u ++ [n]) hk k08 (by unfold Ns; rw [List.length_append, i64s_append]; exact r8) (o8.imp id (fun q y hy => by rw [q.1] at hy; cases hy; omega)) (by rw [← e1]; exact h.ok.upd _ _ hs)
  refine ⟨⟨_, k08.cell d1 hglu⟩, k08.cell (h.box.cell (j := 1) rfl) hgu, k08.cell d1 hglu, ?_, _, ⟨_, _, q1, ?_, rfl⟩, q3, q4⟩
  · rw [frozen_of_block (k08.block gl hlt hglu)]; exact f1
  · rw [q2, e1]
set_option maxRecDepth 20000 in
set_option maxHeartbeats 1600000 in
theorem rUpdate {g : Nat} {F : List Nat} {a : Int} {T : List Tx} (b m : Int) (w : World) (h : Rr w g F a T) (hs : szT T < 4398046511104) : Calls Try.prog 27 #[.pointer (some ⟨g, 0, none⟩), .int .i64 b, .int .i64 m] w fun e w' => ∃ F', e = .returned (.int .i64 (updE T b m)) ∧ Rr w' g F' a (updT T b m) ∧ Fr w F F' ∧ Kept F w w' := by
  obtain ⟨v, P, h, hT, hF⟩ := h
  subst hT hF
  have HA := @hideH _ (rAt b w h)
  have HRr := @hideH _ (show Rr w g (blks g v P) a (P.map Prod.fst) from ⟨v, P, h, rfl, rfl⟩)
  obtain ⟨p, c, hv, hnc, hcm⟩ := h.row.shape
  subst hv
  obtain ⟨n, hn⟩ : ∃ n, n = P.length := ⟨_, rfl⟩
  have HR := @hideH _ h
  have HN := @hideH _ (And.intro hn (And.intro hnc hcm))
  have B := h.box
  rw [← hn] at B
  have c1 := B.cell (j := 1) rfl
  have HS := @hideH _ hs
  have HL := @hideH _ (show n < 4398046511104 by have := len_szT (P.map Prod.fst); rw [List.length_map, ← hn] at this; omega)
  clear hs
  clear h hn B hnc hcm
  obtain ⟨infI, hin1, hin2, hin3, hin4⟩ := info_parts3 (show (Try.prog.info? 3).map (fun i => (i.zero, i.size, i.bytes)) = some (some (.int .i64 0), 1, 8) by kernel_rfl)
  have HII := @hideH _ (And.intro hin1 (And.intro hin2 (And.intro hin3 hin4)))
  clear hin1 hin2 hin3 hin4
  go_enter Try.func27, Try.ntmps27
  go_wp2_with fail
  refine HA.out.mono ?_
  clear HA
  rintro e wx ⟨hwx, i, rfl, hi⟩
  rw [hwx]
  clear hwx wx
  rcases hi with ⟨rfl, he⟩ | ⟨k, x, rfl, hx, hb, he⟩
  · have HE := @hideH _ (upd_none (n := m) he)
    clear he
    go_wp2
    go_ret
    exact ⟨_, by rw [HE.out.1]; rfl, by rw [HE.out.2]; exact HRr.out, Fr.refl _ _, Kept.refl _ _⟩
  have hkl' : (k : Int) < (n : Int) := by have := (List.getElem?_eq_some_iff.1 hx).1; have := HN.out.1; omega
  have h0 : (0 : Int) ≤ (k : Int) := by omega
  have h0' : ¬ (k : Int) < (0 : Int) := by omega
  by_cases hm : isN m
  rotate_left
  · have HE := @hideH _ (upd_range he hm)
    clear he hx hb
    by_cases h1 : m < 1
    · clear hm
      go_wp2
      go_ret
      exact ⟨_, by rw [HE.out.1]; rfl, by rw [HE.out.2]; exact HRr.out, Fr.refl _ _, Kept.refl _ _⟩
    · have h2 : (65535 : Int) < m := by unfold isN at hm; omega
      clear hm
      go_wp2
      go_ret
      exact ⟨_, by rw [HE.out.1]; rfl, by rw [HE.out.2]; exact HRr.out, Fr.refl _ _, Kept.refl _ _⟩
  have h1 : ¬ m < 1 := by have := hm.1; omega
  have h2 : ¬ (65535 : Int) < m := by have := hm.2; omega
  have HM := @hideH _ hm
  obtain ⟨gl, hp, d0, d1, -⟩ := HR.out.at hx
  subst hp
  obtain ⟨t, u⟩ := x
  have hN := HR.out.ups _ (List.mem_of_getElem? hx)
  dsimp only at hN d0 d1 hb he
  subst hb
  have HX := @hideH _ (And.intro hx he)
  obtain ⟨pu, cu, hu, hmc, hcm⟩ := hN.shape
  subst hu
  obtain ⟨q, hq⟩ : ∃ q, q = t.u.length := ⟨_, rfl⟩
  have HU := @hideH _ hN
  have HQ := @hideH _ (show q = t.u.length ∧ q < 4398046511104 from ⟨hq, by rw [hq]; exact Nat.lt_trans (len_upd (List.mem_map_of_mem (f := Prod.fst) (List.mem_of_getElem? HX.out.1))) HS.out⟩)
  rw [← hq] at d1
  clear hx he hN hq hmc hcm d0 hm
  go_upto_region 6 with fail
  obtain ⟨w6, hw6⟩ : ∃ wx, wx = w.drew := ⟨_, rfl⟩
  have k6 : Kept [] w w6 := by rw [hw6]; exact (Kept.refl [] w).drew
  have hS : (fun w' => w'.cell? ⟨g, 1, none⟩ = some (.slice (some ⟨gl, 0, none⟩) n c) ∧ w'.cell? ⟨gl, k * 2 + 1, none⟩ = some (.slice pu q cu)) w6 := ⟨k6.cell c1 (by simp), k6.cell d1 (by simp)⟩
  try dsimp only at hS
  obtain ⟨w7, hw7⟩ : ∃ wx, wx = w6.alloc (.cells #[.int .i64 m] 3) := ⟨_, rfl⟩
  have k7 : Kept [] w6 w7 := by rw [hw7]; exact (Kept.refl [] w6).alloc _
  have hS7 := (⟨k7.cell hS.1 (by simp), k7.cell hS.2 (by simp)⟩ : (fun w' => w'.cell? ⟨g, 1, none⟩ = some (.slice (some ⟨gl, 0, none⟩) n c) ∧ w'.cell? ⟨gl, k * 2 + 1, none⟩ = some (.slice pu q cu)) w7)
  try dsimp only at hS7
  refine wp_region_late (fun w' => w'.cell? ⟨g, 1, none⟩ = some (.slice (some ⟨gl, 0, none⟩) n c) ∧ w'.cell? ⟨gl, k * 2 + 1, none⟩ = some (.slice pu q cu)) 18 (by kernel_rfl) ?_
  rw [← hw6]
  clear hw6 c1 d1
  refine wpAnyZ_take 0 (v := ?va0) rfl (by kernel_rfl) (by kernel_rfl) (by kernel_rfl) (by kernel_rfl) (fun _ _ _ h => h) (by rfl) ?hya0 hS ?resta0
  case hya0 => (intro wx hSx; obtain ⟨s1, s2⟩ := hSx; go_simp; (try with_reducible rfl))
  (try simp only [Act.put, List.getElem_toArray, List.getElem_cons_zero, List.getElem_cons_succ, List.setIfInBounds_toArray, List.set_cons_zero, List.set_cons_succ])
  refine wpAnyZ_take 1 (v := ?va1) rfl (by kernel_rfl) (by kernel_rfl) (by kernel_rfl) (by kernel_rfl) (fun _ _ _ h => h) (by rfl) ?hya1 hS ?resta1
  case hya1 => (intro wx hSx; obtain ⟨s1, s2⟩ := hSx; go_simp; (try with_reducible rfl))
  (try simp only [Act.put, List.getElem_toArray, List.getElem_cons_zero, List.getElem_cons_succ, List.setIfInBounds_toArray, List.set_cons_zero, List.set_cons_succ])
  refine wpAnyZ_take 2 (v := ?va2) rfl (by kernel_rfl) (by kernel_rfl) (by kernel_rfl) (by kernel_rfl) (fun _ _ _ h => h) (by rfl) ?hya2 hS ?resta2
  case hya2 => (intro wx hSx; obtain ⟨s1, s2⟩ := hSx; go_simp; (try with_reducible rfl))
  (try simp only [Act.put, List.getElem_toArray, List.getElem_cons_zero, List.getElem_cons_succ, List.setIfInBounds_toArray, List.set_cons_zero, List.set_cons_succ])
  refine wpAnyZ_take 3 (v := ?va3) rfl (by kernel_rfl) (by kernel_rfl) (by kernel_rfl) (by kernel_rfl) (fun _ _ _ h => h) (by rfl) ?hya3 hS ?resta3
  case hya3 => (intro wx hSx; obtain ⟨s1, s2⟩ := hSx; go_simp; (try with_reducible rfl))
  (try simp only [Act.put, List.getElem_toArray, List.getElem_cons_zero, List.getElem_cons_succ, List.setIfInBounds_toArray, List.set_cons_zero, List.set_cons_succ])
  refine wpAnyZ_take 4 (v := ?va4) rfl (by kernel_rfl) (by kernel_rfl) (by kernel_rfl) (by kernel_rfl) (fun _ _ _ h => h) (by rfl) ?hya4 hS ?resta4
  case hya4 => (intro wx hSx; obtain ⟨s1, s2⟩ := hSx; go_simp; (try with_reducible rfl))
  (try simp only [Act.put, List.getElem_toArray, List.getElem_cons_zero, List.getElem_cons_succ, List.setIfInBounds_toArray, List.set_cons_zero, List.set_cons_succ])
  refine wpAnyZ_take 5 (v := ?va5) rfl (by kernel_rfl) (by kernel_rfl) (by kernel_rfl) (by kernel_rfl) (fun _ _ _ h => h) (by rfl) ?hya5 hS ?resta5
  case hya5 => (intro wx hSx; obtain ⟨s1, s2⟩ := hSx; go_simp; (try with_reducible rfl))
  (try simp only [Act.put, List.getElem_toArray, List.getElem_cons_zero, List.getElem_cons_succ, List.setIfInBounds_toArray, List.set_cons_zero, List.set_cons_succ])
  refine wpAnyZ_take 6 (v := ?va6) rfl (by kernel_rfl) (by kernel_rfl) (by kernel_rfl) (by kernel_rfl) (fun _ _ _ h => h) (by rfl) ?hya6 hS ?resta6
  case hya6 => (intro wx hSx; obtain ⟨s1, s2⟩ := hSx; go_simp; (try with_reducible rfl))
  (try simp only [Act.put, List.getElem_toArray, List.getElem_cons_zero, List.getElem_cons_succ, List.setIfInBounds_toArray, List.set_cons_zero, List.set_cons_succ])
  refine wpAnyZ_take 7 (v := ?va7) rfl (by kernel_rfl) (by kernel_rfl) (by kernel_rfl) (by kernel_rfl) (fun _ _ _ h => h) (by rfl) ?hya7 hS ?resta7
  case hya7 => (intro wx hSx; obtain ⟨s1, s2⟩ := hSx; go_simp; (try with_reducible rfl))
  (try simp only [Act.put, List.getElem_toArray, List.getElem_cons_zero, List.getElem_cons_succ, List.setIfInBounds_toArray, List.set_cons_zero, List.set_cons_succ])
  refine wpAnyZ_take 8 (v := ?va8) rfl (by kernel_rfl) (by kernel_rfl) (by kernel_rfl) (by kernel_rfl) (fun _ _ _ h => h) (by rfl) ?hya8 hS ?resta8
  case hya8 => (intro wx hSx; obtain ⟨s1, s2⟩ := hSx; go_simp; (try with_reducible rfl))
  (try simp only [Act.put, List.getElem_toArray, List.getElem_cons_zero, List.getElem_cons_succ, List.setIfInBounds_toArray, List.set_cons_zero, List.set_cons_succ])
  refine wpAnyZ_take 9 (v := ?va9) rfl (by kernel_rfl) (by kernel_rfl) (by kernel_rfl) (by kernel_rfl) (fun _ _ _ h => h) (by rfl) ?hya9 hS ?resta9
  case hya9 => (intro wx hSx; obtain ⟨s1, s2⟩ := hSx; go_simp; (try with_reducible rfl))
  (try simp only [Act.put, List.getElem_toArray, List.getElem_cons_zero, List.getElem_cons_succ, List.setIfInBounds_toArray, List.set_cons_zero, List.set_cons_succ])
  refine wpAnyZ_take 10 (v := ?va10) rfl (by kernel_rfl) (by kernel_rfl) (by kernel_rfl) (by kernel_rfl) (fun _ _ _ h => h) (by rfl) ?hya10 hS ?resta10
  case hya10 => (intro wx hSx; obtain ⟨s1, s2⟩ := hSx; go_simp; (try with_reducible rfl))
  (try simp only [Act.put, List.getElem_toArray, List.getElem_cons_zero, List.getElem_cons_succ, List.setIfInBounds_toArray, List.set_cons_zero, List.set_cons_succ])
  refine wpAnyZ_take 11 (v := ?va11) rfl (by kernel_rfl) (by kernel_rfl) (by kernel_rfl) (by kernel_rfl) (fun _ _ _ h => h) (by rfl) ?hya11 hS ?resta11
  case hya11 => (intro wx hSx; obtain ⟨s1, s2⟩ := hSx; go_simp; (try with_reducible rfl))
  (try simp only [Act.put, List.getElem_toArray, List.getElem_cons_zero, List.getElem_cons_succ, List.setIfInBounds_toArray, List.set_cons_zero, List.set_cons_succ])
  refine wpAnyZ_take 12 (v := ?va12) rfl (by kernel_rfl) (by kernel_rfl) (by kernel_rfl) (by kernel_rfl) (fun _ _ _ h => h) (by rfl) ?hya12 hS ?resta12
  case hya12 => (intro wx hSx; obtain ⟨s1, s2⟩ := hSx; go_simp; (try with_reducible rfl))
  (try simp only [Act.put, List.getElem_toArray, List.getElem_cons_zero, List.getElem_cons_succ, List.setIfInBounds_toArray, List.set_cons_zero, List.set_cons_succ])
  refine wpAnyZ_take 13 (v := ?va13) rfl (by kernel_rfl) (by kernel_rfl) (by kernel_rfl) (by kernel_rfl) (fun _ _ _ h => h) (by rfl) ?hya13 hS ?resta13
  case hya13 => (intro wx hSx; obtain ⟨s1, s2⟩ := hSx; go_simp; (try with_reducible rfl))
  (try simp only [Act.put, List.getElem_toArray, List.getElem_cons_zero, List.getElem_cons_succ, List.setIfInBounds_toArray, List.set_cons_zero, List.set_cons_succ])
  refine wpAnyZ_one 14 rfl (by kernel_rfl) (fun K hK => ?_)
  go_simp
  refine hK _ _ (fun _ => by rw [← hw7]; exact hS7) ?_
  clear hK K
  (try simp only [Act.put, List.getElem_toArray, List.getElem_cons_zero, List.getElem_cons_succ, List.setIfInBounds_toArray, List.set_cons_zero, List.set_cons_succ])
  have hsrc := src_i64 (P := Try.prog) w6 33 3 Try.underlying33 m
  rw [← hw7] at hsrc
  rw [← hw7]
  clear hw7
  have k07 := k6.then k7
  have R7 := HU.out.kept k07 (by simp)
  unfold Ns at R7
  rw [← HQ.out.1] at R7
  refine wpAnyZ_one 15 rfl (by kernel_rfl) (fun K hK => ?_)
  refine step_append_row2 rfl (.tmp 31) (.tmp 33) 33 rfl 0 3 infI (.int .i64 0) 1 8 Try.underlying33 HII.out.1 HII.out.2.1 HII.out.2.2.1 HII.out.2.2.2 rfl _ _ _ (by rfl) R7 _ 1 _ (by rfl) hsrc (by have e1 := HQ.out.2; omega) (by have e1 := HQ.out.2; unfold maxLen; omega) (by have e1 := HQ.out.2; omega) (Nat.zero_le _) ?_
  intro v' w8 r8 k8 o8
  obtain ⟨p', c', hv', -⟩ := Row.shape r8
  subst hv'
  have FIN := rr_update (w8 := w8) (u' := .slice p' (q + 1) c') HR.out HX.out.1 HM.out HS.out k07 (by rw [← HQ.out.1]; exact r8) (by rw [← HQ.out.1]; exact k8) (by rw [← HQ.out.1]; exact o8) HX.out.2
  obtain ⟨⟨x8, d8⟩, c8, d8', f8, FIN⟩ := FIN
  rw [← HQ.out.1] at d8'
  rw [← HN.out.1] at c8
  have hS8 := (⟨c8, d8'⟩ : (fun w' => w'.cell? ⟨g, 1, none⟩ = some (.slice (some ⟨gl, 0, none⟩) n c) ∧ w'.cell? ⟨gl, k * 2 + 1, none⟩ = some (.slice pu q cu)) w8)
  try dsimp only at hS8
  have HFIN := @hideH _ FIN
  clear FIN r8 k8 o8 hsrc R7 k07 hS7 k7 hS k6 d8 c8
  refine hK _ _ (fun _ => hS8) ?_
  clear hK K
  (try simp only [Act.put, List.getElem_toArray, List.getElem_cons_zero, List.getElem_cons_succ, List.setIfInBounds_toArray, List.set_cons_zero, List.set_cons_succ])
  refine wpAnyZ_one 16 rfl (by kernel_rfl) (fun K hK => ?_)
  go_simp
  refine hK _ _ (fun _ => hS8) ?_
  clear hK K
  (try simp only [Act.put, List.getElem_toArray, List.getElem_cons_zero, List.getElem_cons_succ, List.setIfInBounds_toArray, List.set_cons_zero, List.set_cons_succ])
  refine wpAnyZ_one 17 rfl (by kernel_rfl) (fun K hK => ?_)
  go_simp
  refine hK _ _ (fun _ => hS8) ?_
  clear hK K
  (try simp only [Act.put, List.getElem_toArray, List.getElem_cons_zero, List.getElem_cons_succ, List.setIfInBounds_toArray, List.set_cons_zero, List.set_cons_succ])
  refine wpAnyZ_one 18 rfl (by kernel_rfl) (fun K hK => ?_)
  go_simp
  refine hK _ _ (fun h => absurd rfl h) ?_
  clear hK K
  (try simp only [Act.put, List.getElem_toArray, List.getElem_cons_zero, List.getElem_cons_succ, List.setIfInBounds_toArray, List.set_cons_zero, List.set_cons_succ])
  refine wpAnyZ_done (by kernel_rfl) ?_ _
  obtain ⟨w9, hw9⟩ : ∃ wx, wx = w8.setCell ⟨gl, k * 2 + 1, none⟩ (.slice p' (q + 1) c') := ⟨_, rfl⟩
  rw [← hw9] at HFIN
  rw [← hw9]
  clear hw9 hS8 f8 d8'
  go_wp2
  go_ret
  obtain ⟨F', q1, q2, q3⟩ := HFIN.out
  exact ⟨F', by rw [(upd_ok HX.out.2 HM.out).1]; rfl, q1, q2, q3⟩
end Go.Proofs.Ytpbcfkfhkenhpaa

/-
  OWN WORK (by mkrm2.py). The document's Room (layer 17): Undone.
-/
namespace Go.Proofs.Ytpbcfkfhkenhpaa
open Go.RowKit
set_option linter.unusedVariables false
set_option linter.unusedSimpArgs false

theorem rr_undone {w w3 w4 : World} {g : Nat} {a n : Int} {gl N c j : Nat} {P : List (Tx × Value)} {k : Nat} {t : Tx} {u v1 v2 : Value} (h : RrP w g a (.slice (some ⟨gl, 0, none⟩) N c) P) (hk : P[k]? = some (t, u)) (hj : t.u[j]? = some n) (hlo : ∀ (i : Nat) (y : Int), i < j → t.u[i]? = some y → y ≠ n) (hf : findT (P.map Prod.fst) t.b = some t)
    (k3 : Kept [] w w3) (o3 : v1.ownBlock = none ∨ (v1.ownBlock = some w.heap.size ∧ Kept [] w w3)) {M : Nat} (hM : M = t.u.length - 1) (r4 : Row w4 0 1 v2 M ((i64s t.u).take (j * 1) ++ (i64s t.u).drop ((j + 1) * 1))) (k4 : Kept v1.ownBlock.toList w3 w4) (o4 : v2.ownBlock = v1.ownBlock ∨ (v2.ownBlock = some w3.heap.size ∧ Kept [] w3 w4)) :
    w4.cell? ⟨g, 1, none⟩ = some (.slice (some ⟨gl, 0, none⟩) N c) ∧ w4.cell? ⟨gl, k * 2 + 1, none⟩ = some u ∧ w4.frozen? ⟨gl, k * 2 + 1, none⟩ = false ∧ n ∈ t.u ∧ ∃ F', Rr (w4.setCell ⟨gl, k * 2 + 1, none⟩ v2) g F' a (undT (P.map Prod.fst) t.b n) ∧ Fr w (blks g (.slice (some ⟨gl, 0, none⟩) N c) P) F' ∧ Kept (blks g (.slice (some ⟨gl, 0, none⟩) N c) P) w (w4.setCell ⟨gl, k * 2 + 1, none⟩ v2) := by
  have s3 := k3.size
  have hjl := (List.getElem?_eq_some_iff.1 hj).1
  have hmem : n ∈ t.u := List.mem_of_getElem? hj
  have h1 : ∀ y, v1.ownBlock = some y → w.heap.size ≤ y := fun y hy => by
    rcases o3 with o | ⟨o, -⟩
    · rw [o] at hy; cases hy
    · rw [o] at hy; cases hy; omega
  have h2 : ∀ y, v2.ownBlock = some y → w.heap.size ≤ y := fun y hy => by
    rcases o4 with o | ⟨o, -⟩
    · rw [o] at hy; exact h1 y hy
    · rw [o] at hy; cases hy; omega
  have k04 : Kept [] w w4 := k3.trans k4 (fun x hx => .inr (h1 x (own_mem.1 hx)))
  have e1 := (und_ok hf hmem).2
  have hlt := (h.row.lt gl rfl).2
  obtain ⟨gl', e, -, d1, -, f1⟩ := h.at hk
  cases e
  rw [Nat.mul_one, Nat.mul_one, i64s_take, i64s_drop, ← i64s_append, ← erase_at hj hlo] at r4
  have hlen : (t.u.erase n).length = M := by rw [List.length_erase_of_mem hmem, hM]
  obtain ⟨q1, q2, q3, q4⟩ := h.set (l' := t.u.erase n) hk (k04.mono (T := u.ownBlock.toList) (by simp)) (by unfold Ns; rw [hlen]; exact r4) (.inr h2) (by rw [← e1]; exact h.ok.und _ _)
  refine ⟨k04.cell (h.box.cell (j := 1) rfl) (by simp), k04.cell d1 (by simp), ?_, hmem, _, ⟨_, _, q1, ?_, rfl⟩, q3, q4⟩
  · rw [frozen_of_block (k04.block gl hlt (by simp))]; exact f1
  · rw [q2, e1]
set_option maxRecDepth 20000 in
set_option maxHeartbeats 1600000 in
theorem rUndone {g : Nat} {F : List Nat} {a : Int} {T : List Tx} (b m : Int) (w : World) (h : Rr w g F a T) : Calls Try.prog 28 #[.pointer (some ⟨g, 0, none⟩), .int .i64 b, .int .i64 m] w fun e w' => ∃ F', e = .returned (.int .i64 (undE T b m)) ∧ Rr w' g F' a (undT T b m) ∧ Fr w F F' ∧ Kept F w w' := by
  obtain ⟨v, P, h, hT, hF⟩ := h
  subst hT hF
  have HA := @hideH _ (rAt b w h)
  have HRr := @hideH _ (show Rr w g (blks g v P) a (P.map Prod.fst) from ⟨v, P, h, rfl, rfl⟩)
  obtain ⟨p, c, hv, hnc, hcm⟩ := h.row.shape
  subst hv
  obtain ⟨n, hn⟩ : ∃ n, n = P.length := ⟨_, rfl⟩
  have HR := @hideH _ h
  have HN := @hideH _ (And.intro hn (And.intro hnc hcm))
  have B := h.box
  rw [← hn] at B
  have c1 := B.cell (j := 1) rfl
  clear h hn B hnc hcm
  obtain ⟨infI, hin1, hin2, hin3, hin4⟩ := info_parts3 (show (Try.prog.info? 3).map (fun i => (i.zero, i.size, i.bytes)) = some (some (.int .i64 0), 1, 8) by kernel_rfl)
  have HII := @hideH _ (And.intro hin1 (And.intro hin2 (And.intro hin3 hin4)))
  clear hin1 hin2 hin3 hin4
  go_enter Try.func28, Try.ntmps28
  go_wp2_with fail
  refine HA.out.mono ?_
  clear HA
  rintro e wx ⟨hwx, i, rfl, hi⟩
  rw [hwx]
  clear hwx wx
  rcases hi with ⟨rfl, he⟩ | ⟨k, x, rfl, hx, hb, he⟩
  · have HE := @hideH _ (und_none (n := m) he)
    clear he
    go_wp2
    go_ret
    exact ⟨_, by rw [HE.out.1]; rfl, by rw [HE.out.2]; exact HRr.out, Fr.refl _ _, Kept.refl _ _⟩
  have hkl' : (k : Int) < (n : Int) := by have := (List.getElem?_eq_some_iff.1 hx).1; have := HN.out.1; omega
  have h0 : (0 : Int) ≤ (k : Int) := by omega
  have h0' : ¬ (k : Int) < (0 : Int) := by omega
  obtain ⟨gl, hp, d0, d1, -⟩ := HR.out.at hx
  subst hp
  obtain ⟨t, u⟩ := x
  have hN := HR.out.ups _ (List.mem_of_getElem? hx)
  dsimp only at hN d0 d1 hb he
  subst hb
  have HX := @hideH _ (And.intro hx he)
  obtain ⟨pu, cu, hu, hmc, hcm⟩ := hN.shape
  subst hu
  obtain ⟨q, hq⟩ : ∃ q, q = t.u.length := ⟨_, rfl⟩
  have HU := @hideH _ hN
  have HQ := @hideH _ (show q = t.u.length ∧ q < 4398046511104 ∧ q ≤ cu from ⟨hq, by rw [hq]; exact Nat.lt_of_lt_of_le (len_upd (List.mem_map_of_mem (f := Prod.fst) (List.mem_of_getElem? HX.out.1))) HR.out.ok.sz, by rw [hq]; exact hmc⟩)
  rw [← hq] at d1
  clear hx he hN hq hmc hcm d0
  go_wp2
  go_loopw [9] (fun i wr => ∃ j : Nat, j ≤ q ∧ i = .int .i64 j ∧ wr = w ∧ Hid (∀ (i : Nat) (y : Int), i < j → t.u[i]? = some y → y ≠ m)) (fun i _ => q - (intOf i).toNat)
  case atStart => exact ⟨0, Nat.zero_le _, rfl, rfl, fun i y hi => absurd hi (Nat.not_lt_zero i)⟩
  case round =>
    obtain ⟨j, hj, rfl, hw, hh⟩ := hrel
    subst hw
    by_cases hjl : j < q
    rotate_left
    · have hjl' : ¬ (j : Int) < (q : Int) := by omega
      have HE := @hideH _ (und_range HX.out.2 (not_in (fun i y hi hy => hh.out i y (by rw [← HQ.out.1] at hi; omega) hy)))
      go_wp2
      go_ret
      exact ⟨by rw [HE.out.1]; rfl, _, by rw [HE.out.2]; exact HRr.out, Fr.refl _ _, Kept.refl _ _⟩
    have hjl' : (j : Int) < (q : Int) := by omega
    have hj0 : (0 : Int) ≤ (j : Int) := by omega
    have wj : IntKind.i64.wrap ((j : Int) + 1) = (j : Int) + 1 := wrap_i64_of (by omega) (by have := HQ.out.2.1; omega)
    obtain ⟨z, hz⟩ : ∃ z, t.u[j]? = some z := ⟨_, List.getElem?_eq_getElem (by have := HQ.out.1; omega)⟩
    obtain ⟨gu, hpu, -, -, e0, -⟩ := HU.out.at hz
    subst hpu
    have HZ := @hideH _ hz
    clear hz
    by_cases e : z = m
    rotate_left
    · have e' : (z == m) = false := by simpa using e
      have HB := @hideH _ e
      clear e
      go_wp2
      go_roundw
      case rel => exact ⟨j + 1, by omega, by go_num, by first | rfl | trivial, fun i y hi hy => by
        by_cases c : i = j
        · subst c; rw [HZ.out] at hy; cases hy; exact HB.out
        · exact hh.out i y (by omega) hy⟩
      case measure => simp [intOf]; omega
    subst e
    have HJ := @hideH _ hjl
    clear hjl hj
    have R2 := HU.out
    unfold Ns at R2
    rw [← HQ.out.1] at R2
    obtain ⟨gu', e', -, -, hc2, -⟩ := R2.pos (by have := HJ.out; omega)
    cases e'
    have cut1 := fun (u : World) => run_cut_to_sz (P := Try.prog) u 33 3 1 Try.underlying33 (by kernel_rfl) (some ⟨gu, 0, none⟩) q cu j (by have := HQ.out.2.2; have := HJ.out; omega)
    have src1 := Row.fore (P := Try.prog) (w' := wr) Try.underlying33 R2 hc2 j (by have := HJ.out; omega)
    have HR2 := @hideH _ (And.intro R2 hc2)
    clear R2 hc2
    go_upto_region 11 with (at_builtin; refine wpList_append_row2 rfl (.tmp 36) (.tmp 39) 33 rfl 0 3 infI (.int .i64 0) 1 8 Try.underlying33 HII.out.1 HII.out.2.1 HII.out.2.2.1 HII.out.2.2.2 rfl _ 0 [] (by rfl) (Row.nil _ _ _) _ j _ (by rfl) src1 (by have e1 := HQ.out.2.1; have e2 := HJ.out; omega) (by have e1 := HQ.out.2.1; have e2 := HJ.out; unfold maxLen; omega) (by have e1 := HQ.out.2.1; have e2 := HJ.out; omega) (Nat.zero_le _) ?_; intro v1 w3 r3 k3 o3; rw [Nat.zero_add, List.nil_append] at r3; obtain ⟨p1, c3, hv1, -⟩ := Row.shape r3; subst hv1)
    have k3' : Kept [] wr w3 := k3
    obtain ⟨sa, hsa⟩ : ∃ sa, sa = (if cu = j + 1 then some (⟨gu, 0, none⟩ : Addr) else Option.map (fun x : Addr => x.add ((j + 1) * 1)) (some ⟨gu, 0, none⟩)) := ⟨_, rfl⟩
    have cut2 : ∀ u : World, (Instr.slice 33 (.slice (some ⟨gu, 0, none⟩) q cu) (some (.int .i64 ((j : Int) + 1))) none none).run Try.prog u = .ok (.slice sa (q - (j + 1)) (cu - (j + 1))) u := fun u => by have q' := run_cut_from_sz (P := Try.prog) u 33 3 1 Try.underlying33 (by kernel_rfl) (some ⟨gu, 0, none⟩) q cu (j + 1) (by have := HJ.out; omega); rw [← hsa] at q'; exact q'
    clear cut1 src1
    obtain ⟨w6, hw6⟩ : ∃ wx, wx = w3.drew := ⟨_, rfl⟩
    have k6 : Kept [] w3 w6 := by rw [hw6]; exact (Kept.refl [] w3).drew
    have k06 := k3'.then k6
    have src2 := Row.rest (P := Try.prog) (w' := w6) Try.underlying33 HR2.out.1 (fun j u hj => k06.cell (HR2.out.2 j u hj) (by simp)) (j + 1) (by have := HJ.out; omega) sa hsa
    clear hsa
    have r6 := r3.kept k6 (by simp)
    have hS : (fun w' => w'.cell? ⟨g, 1, none⟩ = some (.slice (some ⟨gl, 0, none⟩) n c) ∧ w'.cell? ⟨gl, k * 2 + 1, none⟩ = some (.slice (some ⟨gu, 0, none⟩) q cu)) w6 := ⟨k06.cell c1 (by simp), k06.cell d1 (by simp)⟩
    try dsimp only at hS
    refine wp_region_late (fun w' => w'.cell? ⟨g, 1, none⟩ = some (.slice (some ⟨gl, 0, none⟩) n c) ∧ w'.cell? ⟨gl, k * 2 + 1, none⟩ = some (.slice (some ⟨gu, 0, none⟩) q cu)) 13 (by kernel_rfl) ?_
    rw [← hw6]
    clear hw6 c1 d1
    refine wpAnyZ_take 0 (v := ?va0) rfl (by kernel_rfl) (by kernel_rfl) (by kernel_rfl) (by kernel_rfl) (fun _ _ _ h => h) (by rfl) ?hya0 hS ?resta0
    case hya0 => (intro wx hSx; obtain ⟨s1, s2⟩ := hSx; go_simp; (try with_reducible rfl))
    (try simp only [Act.put, List.getElem_toArray, List.getElem_cons_zero, List.getElem_cons_succ, List.setIfInBounds_toArray, List.set_cons_zero, List.set_cons_succ])
    refine wpAnyZ_take 1 (v := ?va1) rfl (by kernel_rfl) (by kernel_rfl) (by kernel_rfl) (by kernel_rfl) (fun _ _ _ h => h) (by rfl) ?hya1 hS ?resta1
    case hya1 => (intro wx hSx; obtain ⟨s1, s2⟩ := hSx; go_simp; (try with_reducible rfl))
    (try simp only [Act.put, List.getElem_toArray, List.getElem_cons_zero, List.getElem_cons_succ, List.setIfInBounds_toArray, List.set_cons_zero, List.set_cons_succ])
    refine wpAnyZ_take 2 (v := ?va2) rfl (by kernel_rfl) (by kernel_rfl) (by kernel_rfl) (by kernel_rfl) (fun _ _ _ h => h) (by rfl) ?hya2 hS ?resta2
    case hya2 => (intro wx hSx; obtain ⟨s1, s2⟩ := hSx; go_simp; (try with_reducible rfl))
    (try simp only [Act.put, List.getElem_toArray, List.getElem_cons_zero, List.getElem_cons_succ, List.setIfInBounds_toArray, List.set_cons_zero, List.set_cons_succ])
    refine wpAnyZ_take 3 (v := ?va3) rfl (by kernel_rfl) (by kernel_rfl) (by kernel_rfl) (by kernel_rfl) (fun _ _ _ h => h) (by rfl) ?hya3 hS ?resta3
    case hya3 => (intro wx hSx; obtain ⟨s1, s2⟩ := hSx; go_simp; (try with_reducible rfl))
    (try simp only [Act.put, List.getElem_toArray, List.getElem_cons_zero, List.getElem_cons_succ, List.setIfInBounds_toArray, List.set_cons_zero, List.set_cons_succ])
    refine wpAnyZ_take 4 (v := ?va4) rfl (by kernel_rfl) (by kernel_rfl) (by kernel_rfl) (by kernel_rfl) (fun _ _ _ h => h) (by rfl) ?hya4 hS ?resta4
    case hya4 => (intro wx hSx; obtain ⟨s1, s2⟩ := hSx; go_simp; (try with_reducible rfl))
    (try simp only [Act.put, List.getElem_toArray, List.getElem_cons_zero, List.getElem_cons_succ, List.setIfInBounds_toArray, List.set_cons_zero, List.set_cons_succ])
    refine wpAnyZ_take 5 (v := ?va5) rfl (by kernel_rfl) (by kernel_rfl) (by kernel_rfl) (by kernel_rfl) (fun _ _ _ h => h) (by rfl) ?hya5 hS ?resta5
    case hya5 => (intro wx hSx; obtain ⟨s1, s2⟩ := hSx; go_simp; (try with_reducible rfl))
    (try simp only [Act.put, List.getElem_toArray, List.getElem_cons_zero, List.getElem_cons_succ, List.setIfInBounds_toArray, List.set_cons_zero, List.set_cons_succ])
    refine wpAnyZ_take 6 (v := ?va6) rfl (by kernel_rfl) (by kernel_rfl) (by kernel_rfl) (by kernel_rfl) (fun _ _ _ h => h) (by rfl) ?hya6 hS ?resta6
    case hya6 => (intro wx hSx; obtain ⟨s1, s2⟩ := hSx; go_simp; (try with_reducible rfl))
    (try simp only [Act.put, List.getElem_toArray, List.getElem_cons_zero, List.getElem_cons_succ, List.setIfInBounds_toArray, List.set_cons_zero, List.set_cons_succ])
    refine wpAnyZ_take 7 (v := ?va7) rfl (by kernel_rfl) (by kernel_rfl) (by kernel_rfl) (by kernel_rfl) (fun _ _ _ h => h) (by rfl) ?hya7 hS ?resta7
    case hya7 => (intro wx hSx; obtain ⟨s1, s2⟩ := hSx; go_simp; (try with_reducible rfl))
    (try simp only [Act.put, List.getElem_toArray, List.getElem_cons_zero, List.getElem_cons_succ, List.setIfInBounds_toArray, List.set_cons_zero, List.set_cons_succ])
    refine wpAnyZ_take 8 (v := ?va8) rfl (by kernel_rfl) (by kernel_rfl) (by kernel_rfl) (by kernel_rfl) (fun _ _ _ h => h) (by rfl) ?hya8 hS ?resta8
    case hya8 => (intro wx hSx; obtain ⟨s1, s2⟩ := hSx; go_simp; (try with_reducible rfl))
    (try simp only [Act.put, List.getElem_toArray, List.getElem_cons_zero, List.getElem_cons_succ, List.setIfInBounds_toArray, List.set_cons_zero, List.set_cons_succ])
    refine wpAnyZ_take 9 (v := ?va9) rfl (by kernel_rfl) (by kernel_rfl) (by kernel_rfl) (by kernel_rfl) (fun _ _ _ h => h) (by rfl) ?hya9 hS ?resta9
    case hya9 => (intro wx hSx; obtain ⟨s1, s2⟩ := hSx; go_simp; (try with_reducible rfl))
    (try simp only [Act.put, List.getElem_toArray, List.getElem_cons_zero, List.getElem_cons_succ, List.setIfInBounds_toArray, List.set_cons_zero, List.set_cons_succ])
    refine wpAnyZ_one 10 rfl (by kernel_rfl) (fun K hK => ?_)
    refine step_append_row2 rfl (.tmp 46) (.tmp 50) 33 rfl 0 3 infI (.int .i64 0) 1 8 Try.underlying33 HII.out.1 HII.out.2.1 HII.out.2.2.1 HII.out.2.2.2 rfl _ j ((i64s t.u).take (j * 1)) (by rfl) r6 _ (q - (j + 1)) ((i64s t.u).drop ((j + 1) * 1)) (by rfl) src2 (by have e1 := HQ.out.2.1; have e2 := HJ.out; omega) (by have e1 := HQ.out.2.1; have e2 := HJ.out; unfold maxLen; omega) (by have e1 := HQ.out.2.1; have e2 := HJ.out; omega) (Nat.zero_le _) ?_
    intro v' w8 r8 k8 o8
    obtain ⟨p', c', hv', -⟩ := Row.shape r8
    subst hv'
    have FIN := rr_undone (w4 := w8) (v1 := .slice p1 j c3) (v2 := .slice p' (j + (q - (j + 1))) c') (M := j + (q - (j + 1))) HR.out HX.out.1 HZ.out hh.out HX.out.2 k06 (o3.imp id (fun o => ⟨o.1, k06⟩)) (by have e1 := HQ.out.1; have e2 := HJ.out; omega) r8 k8 (o8.imp id id)
    obtain ⟨c8, d8', f8, hmem, FIN⟩ := FIN
    rw [← HQ.out.1] at d8'
    rw [← HN.out.1] at c8
    have hS8 := (⟨c8, d8'⟩ : (fun w' => w'.cell? ⟨g, 1, none⟩ = some (.slice (some ⟨gl, 0, none⟩) n c) ∧ w'.cell? ⟨gl, k * 2 + 1, none⟩ = some (.slice (some ⟨gu, 0, none⟩) q cu)) w8)
    try dsimp only at hS8
    have HFIN := @hideH _ (And.intro hmem FIN)
    clear FIN r8 k8 o8 src2 r6 r3 k3 o3 k3' k06 hS k6 c8 hmem cut2
    refine hK _ _ (fun _ => hS8) ?_
    clear hK K
    (try simp only [Act.put, List.getElem_toArray, List.getElem_cons_zero, List.getElem_cons_succ, List.setIfInBounds_toArray, List.set_cons_zero, List.set_cons_succ])
    refine wpAnyZ_one 11 rfl (by kernel_rfl) (fun K hK => ?_)
    go_simp
    refine hK _ _ (fun _ => hS8) ?_
    clear hK K
    (try simp only [Act.put, List.getElem_toArray, List.getElem_cons_zero, List.getElem_cons_succ, List.setIfInBounds_toArray, List.set_cons_zero, List.set_cons_succ])
    refine wpAnyZ_one 12 rfl (by kernel_rfl) (fun K hK => ?_)
    go_simp
    refine hK _ _ (fun _ => hS8) ?_
    clear hK K
    (try simp only [Act.put, List.getElem_toArray, List.getElem_cons_zero, List.getElem_cons_succ, List.setIfInBounds_toArray, List.set_cons_zero, List.set_cons_succ])
    refine wpAnyZ_one 13 rfl (by kernel_rfl) (fun K hK => ?_)
    go_simp
    refine hK _ _ (fun h => absurd rfl h) ?_
    clear hK K
    (try simp only [Act.put, List.getElem_toArray, List.getElem_cons_zero, List.getElem_cons_succ, List.setIfInBounds_toArray, List.set_cons_zero, List.set_cons_succ])
    refine wpAnyZ_done (by kernel_rfl) ?_ _
    obtain ⟨w9, hw9⟩ : ∃ wx, wx = w8.setCell ⟨gl, k * 2 + 1, none⟩ (.slice p' (j + (q - (j + 1))) c') := ⟨_, rfl⟩
    rw [← hw9] at HFIN
    rw [← hw9]
    clear hw9 hS8 f8 d8'
    go_wp2
    go_ret
    obtain ⟨hmem, F', q1, q2, q3⟩ := HFIN.out
    exact ⟨F', by rw [(und_ok HX.out.2 hmem).1]; rfl, q1, q2, q3⟩
end Go.Proofs.Ytpbcfkfhkenhpaa

/-
  OWN WORK (by mkrm2.py). The document's Room (layer 17): Drop.
-/
namespace Go.Proofs.Ytpbcfkfhkenhpaa
open Go.RowKit
set_option linter.unusedVariables false
set_option linter.unusedSimpArgs false

set_option maxRecDepth 20000 in
set_option maxHeartbeats 1600000 in
theorem rDrop {g : Nat} {F : List Nat} {a : Int} {T : List Tx} (b : Int) (w : World) (h : Rr w g F a T) : Calls Try.prog 29 #[.pointer (some ⟨g, 0, none⟩), .int .i64 b] w fun e w' => ∃ F', e = .returned (.int .i64 (drpE T b)) ∧ Rr w' g F' a (drpT T b) ∧ Fr w F F' ∧ Kept F w w' := by
  obtain ⟨v, P, h, hT, hF⟩ := h
  subst hT hF
  have HA := @hideH _ (rAt b w h)
  have HRr := @hideH _ (show Rr w g (blks g v P) a (P.map Prod.fst) from ⟨v, P, h, rfl, rfl⟩)
  obtain ⟨p, c, hv, hnc, hcm⟩ := h.row.shape
  subst hv
  obtain ⟨n, hn⟩ : ∃ n, n = P.length := ⟨_, rfl⟩
  have HR := @hideH _ h
  have HN := @hideH _ (And.intro hn (And.intro hnc hcm))
  have B := h.box
  rw [← hn] at B
  have c1 := B.cell (j := 1) rfl
  clear h hn B hnc hcm
  have HL := @hideH _ (show n ≤ 4398046511104 by have := len_szT (P.map Prod.fst); have e2 := HR.out.ok.sz; rw [List.length_map, ← HN.out.1] at this; omega)
  obtain ⟨infT, hin1, hin2, hin3, hin4⟩ := info_parts3 (show (Try.prog.info? 65).map (fun i => (i.zero, i.size, i.bytes)) = some (some (.agg #[.int .i64 0, .slice none 0 0]), 2, 32) by kernel_rfl)
  have HIT := @hideH _ (And.intro hin1 (And.intro hin2 (And.intro hin3 hin4)))
  clear hin1 hin2 hin3 hin4
  go_enter Try.func29, Try.ntmps29
  go_wp2_with fail
  refine HA.out.mono ?_
  clear HA
  rintro e wx ⟨hwx, i, rfl, hi⟩
  rw [hwx]
  clear hwx wx
  rcases hi with ⟨rfl, he⟩ | ⟨k, x, rfl, hx, hb, he⟩
  · have HE := @hideH _ (drp_none he)
    clear he
    go_wp2
    go_ret
    exact ⟨_, by rw [HE.out.1]; rfl, by rw [HE.out.2]; exact HRr.out, Fr.refl _ _, Kept.refl _ _⟩
  · have hkn : k < n := by have := (List.getElem?_eq_some_iff.1 hx).1; have := HN.out.1; omega
    have hkl' : (k : Int) < (n : Int) := by omega
    have h0 : (0 : Int) ≤ (k : Int) := by omega
    have h0' : ¬ (k : Int) < (0 : Int) := by omega
    have wk : IntKind.i64.wrap ((k : Int) + 1) = (k : Int) + 1 := wrap_i64_of (by omega) (by have := HL.out; omega)
    obtain ⟨gl, hp, -⟩ := HR.out.at hx
    subst hp
    have HX := @hideH _ (And.intro hx hb)
    have HE := @hideH _ (drp_ok he).1
    have HKN := @hideH _ hkn
    clear hx hb he hkn
    have R2 := HR.out.row
    rw [← HN.out.1] at R2
    obtain ⟨gl', e', -, -, hc2, -⟩ := R2.pos (by have := HKN.out; omega)
    cases e'
    have cut1 := fun (u : World) => run_cut_to_sz (P := Try.prog) u 47 65 2 Try.underlying47 (by kernel_rfl) (some ⟨gl, 0, none⟩) n c k (by have := HN.out.2.1; have := HN.out.1; have := HKN.out; omega)
    have src1 := Row.fore (P := Try.prog) (w' := w) Try.underlying47 R2 hc2 k (by have := HKN.out; omega)
    have HR2 := @hideH _ (And.intro R2 hc2)
    clear R2 hc2
    go_upto_region 6 with (at_builtin; refine wpList_append_row2 rfl (.tmp 12) (.tmp 18) 47 rfl 0 65 infT (.agg #[.int .i64 0, .slice none 0 0]) 2 32 Try.underlying47 HIT.out.1 HIT.out.2.1 HIT.out.2.2.1 HIT.out.2.2.2 rfl _ 0 [] (by rfl) (Row.nil _ _ _) _ k _ (by rfl) src1 (by have e1 := HL.out; have e2 := HKN.out; omega) (by have e1 := HL.out; have e2 := HKN.out; unfold maxLen; omega) (by have e1 := HL.out; have e2 := HKN.out; omega) (Nat.zero_le _) ?_; intro v1 w3 r3 k3 o3; rw [Nat.zero_add, List.nil_append] at r3; obtain ⟨p1, c3, hv1, -⟩ := Row.shape r3; subst hv1)
    have k3' : Kept [] w w3 := k3
    have c3' := k3'.cell c1 (by simp)
    obtain ⟨sa, hsa⟩ : ∃ sa, sa = (if c = k + 1 then some (⟨gl, 0, none⟩ : Addr) else Option.map (fun x : Addr => x.add ((k + 1) * 2)) (some ⟨gl, 0, none⟩)) := ⟨_, rfl⟩
    have cut2 : ∀ u : World, (Instr.slice 47 (.slice (some ⟨gl, 0, none⟩) n c) (some (.int .i64 ((k : Int) + 1))) none none).run Try.prog u = .ok (.slice sa (n - (k + 1)) (c - (k + 1))) u := fun u => by have q := run_cut_from_sz (P := Try.prog) u 47 65 2 Try.underlying47 (by kernel_rfl) (some ⟨gl, 0, none⟩) n c (k + 1) (by have := HKN.out; omega); rw [← hsa] at q; exact q
    have src2 := Row.rest (P := Try.prog) (w' := w3) Try.underlying47 HR2.out.1 (fun j u hj => k3'.cell (HR2.out.2 j u hj) (by simp)) (k + 1) (by have := HKN.out; omega) sa hsa
    clear cut1 src1 hsa
    go_upto_region 7 with (at_builtin; refine wpList_append_row2 rfl (.tmp 21) (.tmp 28) 47 rfl 0 65 infT (.agg #[.int .i64 0, .slice none 0 0]) 2 32 Try.underlying47 HIT.out.1 HIT.out.2.1 HIT.out.2.2.1 HIT.out.2.2.2 rfl _ _ _ (by rfl) r3 _ _ _ (by rfl) src2 (by have e1 := HL.out; have e2 := HKN.out; omega) (by have e1 := HL.out; have e2 := HKN.out; unfold maxLen; omega) (by have e1 := HL.out; have e2 := HKN.out; omega) (Nat.zero_le _) ?_; intro v2 w4 r4 k4 o4; obtain ⟨p2, cc2, hv2, -⟩ := Row.shape r4; subst hv2; have FIN := rr_drop HR.out HX.out.1 HX.out.2 k3' o3 (show k + (n - (k + 1)) = P.length - 1 by have e1 := HN.out.1; have e2 := HKN.out; omega) r4 k4 o4; have c4 := FIN.1.cell (j := 1) rfl; have f4 := FIN.1.free 1; have HFIN := @hideH _ FIN.2; clear FIN r4 k4 o4 src2)
    obtain ⟨w9, hw9⟩ : ∃ wx, wx = w4.setCell ⟨g, 1, none⟩ (.slice p2 (k + (n - (k + 1))) cc2) := ⟨_, rfl⟩
    rw [← hw9] at HFIN
    rw [← hw9]
    clear hw9 c4 f4 c1 c3' r3 k3 o3 k3' cut2
    go_wp2
    go_ret
    obtain ⟨F', q1, q2, q3⟩ := HFIN.out
    exact ⟨F', by rw [HE.out]; rfl, q1, q2, q3⟩
end Go.Proofs.Ytpbcfkfhkenhpaa

