import Derived.Test.YtpbcfkfhkenhpaaC1
/-
  OWN WORK (by mkrm2.py). The document's Room (layer 17): what changes it.
-/
namespace Go.Proofs.Ytpbcfkfhkenhpaa
open Go.RowKit
set_option linter.unusedVariables false
set_option linter.unusedSimpArgs false

theorem src_txn {P : Program} (w : World) (t e : TypeId) (ht : P.underlying t = some (.slice e)) (b : Int) : Src P 2 t (.slice (some ⟨w.heap.size, 0, none⟩) 1 1) 1 [.int .i64 b, .slice none 0 0] (w.alloc (.cells #[.int .i64 b, .slice none 0 0] e)) := by
  refine Src.ofSlice _ ht _ _ _ _ rfl (fun j u hj => ?_) (by simp [Value.oneCell'])
  rw [add_none rfl]
  have q := (Blk.new w e [.int .i64 b, .slice none 0 0]).cell hj
  simpa using q
theorem rr_begin {w w7 w8 : World} {g : Nat} {a b : Int} {v v' : Value} {P : List (Tx × Value)} (h : RrP w g a v P) (k7 : Kept [] w w7) (r8 : Row w8 0 2 v' (P.length + 1) (tcells P ++ [.int .i64 b, .slice none 0 0])) (k8 : Kept v.ownBlock.toList w7 w8) (o8 : v'.ownBlock = v.ownBlock ∨ (v'.ownBlock = some w7.heap.size ∧ Kept [] w7 w8))
    (hf : findT (P.map Prod.fst) b = none) (hs : szT (P.map Prod.fst) < 4398046511104) :
    Blk w8 g 49 [.int .i64 a, v] ∧ ∃ F', Rr (w8.setCell ⟨g, 1, none⟩ v') g F' a (begT (P.map Prod.fst) b) ∧ Fr w (blks g v P) F' ∧ Kept (blks g v P) w (w8.setCell ⟨g, 1, none⟩ v') := by
  have hz := k7.size
  have hm : (P ++ [((⟨b, []⟩ : Tx), Value.slice none 0 0)]).map Prod.fst = begT (P.map Prod.fst) b := by rw [(beg_new hf).2]; simp
  obtain ⟨h1, h2, h3, h4⟩ := h.list (P' := P ++ [(⟨b, []⟩, .slice none 0 0)]) ((k7.mono (T := v.ownBlock.toList) (by simp)).trans k8 (fun x hx => .inl hx)) (by rw [List.length_append, tcells_append]; exact r8)
    (o8.imp id (fun q y hy => by rw [q.1] at hy; cases hy; omega)) (fun x hx => by rcases List.mem_append.1 hx with q | q; exact .inl q; (simp at q; subst q; exact .inr ⟨rfl, rfl⟩))
    (by rw [List.map_append, List.pairwise_append]; exact ⟨(List.pairwise_cons.1 h.apt).2, by simp, fun x hx y hy => by simp at hy; subst hy; exact Ap.none rfl⟩) (by rw [hm]; exact h.ok.beg b hs)
  exact ⟨h1, _, ⟨_, _, h2, hm.symm, rfl⟩, h3, h4⟩
theorem rr_drop {w w3 w4 : World} {g : Nat} {a b : Int} {v v1 v2 : Value} {P : List (Tx × Value)} {k N : Nat} {x : Tx × Value} (h : RrP w g a v P) (hk : P[k]? = some x) (hb : x.1.b = b) (k3 : Kept [] w w3) (o3 : v1.ownBlock = none ∨ (v1.ownBlock = some w.heap.size ∧ Kept [] w w3))
    (hN : N = P.length - 1) (r4 : Row w4 0 2 v2 N ((tcells P).take (k * 2) ++ (tcells P).drop ((k + 1) * 2))) (k4 : Kept v1.ownBlock.toList w3 w4) (o4 : v2.ownBlock = v1.ownBlock ∨ (v2.ownBlock = some w3.heap.size ∧ Kept [] w3 w4)) :
    Blk w4 g 49 [.int .i64 a, v] ∧ ∃ F', Rr (w4.setCell ⟨g, 1, none⟩ v2) g F' a (drpT (P.map Prod.fst) b) ∧ Fr w (blks g v P) F' ∧ Kept (blks g v P) w (w4.setCell ⟨g, 1, none⟩ v2) := by
  have s3 := k3.size
  have hkl := (List.getElem?_eq_some_iff.1 hk).1
  have h1 : ∀ y, v1.ownBlock = some y → w.heap.size ≤ y := fun y hy => by
    rcases o3 with o | ⟨o, -⟩
    · rw [o] at hy; cases hy
    · rw [o] at hy; cases hy; omega
  have h2 : ∀ y, v2.ownBlock = some y → w.heap.size ≤ y := fun y hy => by
    rcases o4 with o | ⟨o, -⟩
    · rw [o] at hy; exact h1 y hy
    · rw [o] at hy; cases hy; omega
  have k04 : Kept [] w w4 := k3.trans k4 (fun x hx => .inr (h1 x (own_mem.1 hx)))
  have hm : (P.take k ++ P.drop (k + 1)).map Prod.fst = drpT (P.map Prod.fst) b := by
    have hk' : (P.map Prod.fst)[k]? = some x.1 := by rw [List.getElem?_map, hk]; rfl
    rw [drpT, ← hb, dropL_at h.ok.dif hk', List.map_append, List.map_take, List.map_drop]
  have hsub : (P.take k ++ P.drop (k + 1)).Sublist P := by
    conv => rhs; rw [splitP hk]
    exact (List.Sublist.refl _).append (List.sublist_cons_self _ _)
  obtain ⟨g1, g2, g3, g4⟩ := h.list (P' := P.take k ++ P.drop (k + 1)) (k04.mono (T := v.ownBlock.toList) (by simp)) (by
      rw [tcells_append, ← tcells_take, ← tcells_drop, List.length_append, List.length_take, List.length_drop, show min k P.length + (P.length - (k + 1)) = N by omega]
      exact r4) (.inr h2) (fun x hx => .inl (hsub.subset hx)) ((List.pairwise_cons.1 h.apt).2.sublist (hsub.map _)) (by rw [hm]; exact h.ok.drp b)
  exact ⟨g1, _, ⟨_, _, g2, hm.symm, rfl⟩, g3, g4⟩
theorem run_cut_to_sz {P : Program} (w : World) (t e : TypeId) (sz : Nat) (hu : P.underlying t = some (.slice e)) (hsz : (P.info? e).map (·.size) = some sz) (p : Option Addr) (n c k : Nat) (hk : k ≤ c) :
    (Instr.slice t (.slice p n c) none (some (.int .i64 (k : Int))) none).run P w = .ok (.slice p k c) w := by
  obtain ⟨i, hi, hs⟩ := Option.map_eq_some_iff.1 hsz
  simp [Instr.slice, run_underlying hu, Instr.sliceBounds, run_sliceBound, sizeOf, typeInfo, hi, (by omega : (k : Int) ≤ (c : Int))]
  intro _
  cases p with
  | none => rfl
  | some a =>
    obtain ⟨b, o, s⟩ := a
    cases s <;> simp [Addr.add]
/-- a front of a row is a source -/
theorem Row.fore {P : Program} {w w' : World} {base sz g n c : Nat} {cs : List Value} {t e : TypeId} (ht : P.underlying t = some (.slice e)) (h : Row w base sz (.slice (some ⟨g, 0, none⟩) n c) n cs) (hc : ∀ (j : Nat) u, cs[j]? = some u → w'.cell? ⟨g, j, none⟩ = some u) (k : Nat) (hk : k ≤ n) : Src P sz t (.slice (some ⟨g, 0, none⟩) k c) k (cs.take (k * sz)) w' := by
  obtain ⟨h1, h2, p', c', e', h3, h4, h5⟩ := h
  cases e'
  have hm : k * sz ≤ n * sz := Nat.mul_le_mul_right _ hk
  refine Src.ofSlice w' ht _ _ _ _ (by rw [List.length_take]; omega) (fun j u hj => ?_) (fun u hu => h2 u (List.mem_of_mem_take hu))
  rw [add_none (a := ⟨g, 0, none⟩) rfl]
  rw [List.getElem?_take] at hj
  split at hj
  · simpa using hc _ u hj
  · cases hj
theorem erase_at : ∀ {u : List Int} {j : Nat} {n : Int}, u[j]? = some n → (∀ (i : Nat) (y : Int), i < j → u[i]? = some y → y ≠ n) → u.erase n = u.take j ++ u.drop (j + 1)
  | [], j, n, h, _ => by simp at h
  | m :: r, 0, n, h, _ => by simp at h; subst h; simp
  | m :: r, j + 1, n, h, hn => by
    have h0 : m ≠ n := hn 0 m (by omega) rfl
    have ih := erase_at (u := r) (j := j) (n := n) (by simpa using h) (fun i y hi hy => hn (i + 1) y (by omega) (by simpa using hy))
    rw [List.erase_cons_tail (by simpa using h0), ih]
    simp
theorem not_in {u : List Int} {n : Int} (h : ∀ (i : Nat) (y : Int), i < u.length → u[i]? = some y → y ≠ n) : n ∉ u := fun hm => by
  obtain ⟨i, hi, e⟩ := List.getElem_of_mem hm
  exact h i n hi (List.getElem?_eq_some_iff.2 ⟨hi, e⟩) rfl
theorem i64s_take (l : List Int) (k : Nat) : (i64s l).take k = i64s (l.take k) := by simp [i64s, List.map_take]
theorem i64s_drop (l : List Int) (k : Nat) : (i64s l).drop k = i64s (l.drop k) := by simp [i64s, List.map_drop]
theorem i64s_append (a b : List Int) : i64s (a ++ b) = i64s a ++ i64s b := by simp [i64s]
set_option maxRecDepth 20000 in
set_option maxHeartbeats 1600000 in
theorem rBegin {g : Nat} {F : List Nat} {a : Int} {T : List Tx} (b : Int) (w : World) (h : Rr w g F a T) (hs : szT T < 4398046511104) : Calls Try.prog 26 #[.pointer (some ⟨g, 0, none⟩), .int .i64 b] w fun e w' => ∃ F', e = .returned (.int .i64 (begE T b)) ∧ Rr w' g F' a (begT T b) ∧ Fr w F F' ∧ Kept F w w' := by
  obtain ⟨v, P, h, hT, hF⟩ := h
  subst hT hF
  have HA := @hideH _ (rAt b w h)
  have HRr := @hideH _ (show Rr w g (blks g v P) a (P.map Prod.fst) from ⟨v, P, h, rfl, rfl⟩)
  obtain ⟨p, c, hv, hnc, hcm⟩ := h.row.shape
  subst hv
  obtain ⟨n, hn⟩ : ∃ n, n = P.length := ⟨_, rfl⟩
  have HR := @hideH _ h
  have HN := @hideH _ (And.intro hn (And.intro hnc hcm))
  have B := h.box
  rw [← hn] at B
  have c1 := B.cell (j := 1) rfl
  have HS := @hideH _ hs
  have HL := @hideH _ (show n < 4398046511104 by have := len_szT (P.map Prod.fst); rw [List.length_map, ← hn] at this; omega)
  clear hs
  clear h hn B hnc hcm
  obtain ⟨infT, hin1, hin2, hin3, hin4⟩ := info_parts3 (show (Try.prog.info? 65).map (fun i => (i.zero, i.size, i.bytes)) = some (some (.agg #[.int .i64 0, .slice none 0 0]), 2, 32) by kernel_rfl)
  have HIT := @hideH _ (And.intro hin1 (And.intro hin2 (And.intro hin3 hin4)))
  clear hin1 hin2 hin3 hin4
  go_enter Try.func26, Try.ntmps26
  go_wp2_with fail
  refine HA.out.mono ?_
  clear HA
  rintro e wx ⟨hwx, i, rfl, hi⟩
  rw [hwx]
  clear hwx wx
  rcases hi with ⟨rfl, he⟩ | ⟨k, x, rfl, hx, hb, he⟩
  · have HE := @hideH _ he
    clear he
    obtain ⟨w7, hw7⟩ : ∃ wx, wx = w.alloc (.cells #[.int .i64 b, .slice none 0 0] 65) := ⟨_, rfl⟩
    have k7 : Kept [] w w7 := by rw [hw7]; exact (Kept.refl [] w).alloc _
    have hsrc := src_txn (P := Try.prog) w 47 65 Try.underlying47 b
    rw [← hw7] at hsrc
    have HK7 := @hideH _ k7
    have R7 := HR.out.row.kept k7 (by simp)
    rw [← HN.out.1] at R7
    have c7 := k7.cell c1 (by simp)
    clear k7
    go_upto_region 4 with (at_builtin; rw [← hw7]; clear hw7; refine wpList_append_row2 rfl (.tmp 13) (.tmp 16) 47 rfl 0 65 infT (.agg #[.int .i64 0, .slice none 0 0]) 2 32 Try.underlying47 HIT.out.1 HIT.out.2.1 HIT.out.2.2.1 HIT.out.2.2.2 rfl _ _ _ (by rfl) R7 _ 1 _ (by rfl) hsrc (by have e1 := HL.out; omega) (by have e1 := HL.out; unfold maxLen; omega) (by have e1 := HL.out; omega) (Nat.zero_le _) ?_; intro v' w8 r8 k8 o8; obtain ⟨p', c', hv', -⟩ := Row.shape r8; subst hv'; have FIN := rr_begin (w8 := w8) (v' := .slice p' (n + 1) c') (b := b) HR.out HK7.out (by rw [← HN.out.1]; exact r8) (by rw [← HN.out.1]; exact k8) (by rw [← HN.out.1]; exact o8) HE.out HS.out; have B8 := FIN.1; rw [← HN.out.1] at B8; have c8 := B8.cell (j := 1) rfl; have f8 := B8.free 1; have HFIN := @hideH _ FIN.2; clear FIN B8 r8 k8 o8 hsrc R7)
    obtain ⟨w9, hw9⟩ : ∃ wx, wx = w8.setCell ⟨g, 1, none⟩ (.slice p' (n + 1) c') := ⟨_, rfl⟩
    rw [← hw9] at HFIN
    rw [← hw9]
    clear hw9 c8 f8 c7
    go_wp2
    go_ret
    obtain ⟨F', q1, q2, q3⟩ := HFIN.out
    exact ⟨F', by rw [(beg_new HE.out).1]; rfl, q1, q2, q3⟩
  · have h0 : (0 : Int) ≤ (k : Int) := by omega
    have HE := @hideH _ (beg_old he)
    clear he hx hb
    go_wp2
    go_ret
    exact ⟨_, by rw [HE.out.1]; rfl, by rw [HE.out.2]; exact HRr.out, Fr.refl _ _, Kept.refl _ _⟩
end Go.Proofs.Ytpbcfkfhkenhpaa

/-
  OWN WORK (by mkrm2.py). The document's Room (layer 17): Update.
-/
namespace Go.Proofs.Ytpbcfkfhkenhpaa
open Go.RowKit
set_option linter.unusedVariables false
set_option linter.unusedSimpArgs false

theorem rr_update {w w7 w8 : World} {g : Nat} {a n : Int} {gl N c : Nat} {P : List (Tx × Value)} {k : Nat} {t : Tx} {u u' : Value} (h : RrP w g a (.slice (some ⟨gl, 0, none⟩) N c) P) (hk : P[k]? = some (t, u)) (hn : isN n) (hs : szT (P.map Prod.fst) < 4398046511104) (k7 : Kept [] w w7) (r8 : Row w8 0 1 u' (t.u.length + 1) (i64s t.u ++ [.int .i64 n])) (k8 : Kept u.ownBlock.toList w7 w8) (o8 : u'.ownBlock = u.ownBlock ∨ (u'.ownBlock = some w7.heap.size ∧ Kept [] w7 w8)) (hf : findT (P.map Prod.fst) t.b = some t) :
    (∃ x, w8.cell? ⟨gl, k * 2 + 1, none⟩ = some x) ∧ w8.cell? ⟨g, 1, none⟩ = some (.slice (some ⟨gl, 0, none⟩) N c) ∧ w8.cell? ⟨gl, k * 2 + 1, none⟩ = some u ∧ w8.frozen? ⟨gl, k * 2 + 1, none⟩ = false ∧ ∃ F', Rr (w8.setCell ⟨gl, k * 2 + 1, none⟩ u') g F' a (updT (P.map Prod.fst) t.b n) ∧ Fr w (blks g (.slice (some ⟨gl, 0, none⟩) N c) P) F' ∧ Kept (blks g (.slice (some ⟨gl, 0, none⟩) N c) P) w (w8.setCell ⟨gl, k * 2 + 1, none⟩ u') := by
  have hz := k7.size
  have k08 : Kept u.ownBlock.toList w w8 := (k7.mono (T := u.ownBlock.toList) (by simp)).trans k8 (fun x hx => .inl hx)
  have hum : u ∈ P.map Prod.snd := List.mem_map.2 ⟨_, List.mem_of_getElem? hk, rfl⟩
  have hgu : g ∉ u.ownBlock.toList := fun hm => h.far u (List.mem_cons_of_mem _ hum) (own_mem.1 hm)
  have hglu : gl ∉ u.ownBlock.toList := fun hm => (List.pairwise_cons.1 h.apt).1 u hum gl rfl (own_mem.1 hm)
  have hlt := (h.row.lt gl rfl).2
  obtain ⟨gl', e, -, d1, -, f1⟩ := h.at hk
  cases e
  have e1 := (upd_ok hf hn).2
  obtain ⟨q1, q2, q3, q4⟩ := h.set (l' := t.u ++ [n]) hk k08 (by unfold Ns; rw [List.length_append, i64s_append]; exact r8) (o8.imp id (fun q y hy => by rw [q.1] at hy; cases hy; omega)) (by rw [← e1]; exact h.ok.upd _ _ hs)
  refine ⟨⟨_, k08.cell d1 hglu⟩, k08.cell (h.box.cell (j := 1) rfl) hgu, k08.cell d1 hglu, ?_, _, ⟨_, _, q1, ?_, rfl⟩, q3, q4⟩
  · rw [frozen_of_block (k08.block gl hlt hglu)]; exact f1
  · rw [q2, e1]
set_option maxRecDepth 20000 in
set_option maxHeartbeats 1600000 in
theorem rUpdate {g : Nat} {F : List Nat} {a : Int} {T : List Tx} (b m : Int) (w : World) (h : Rr w g F a T) (hs : szT T < 4398046511104) : Calls Try.prog 27 #[.pointer (some ⟨g, 0, none⟩), .int .i64 b, .int .i64 m] w fun e w' => ∃ F', e = .returned (.int .i64 (updE T b m)) ∧ Rr w' g F' a (updT T b m) ∧ Fr w F F' ∧ Kept F w w' := by
  obtain ⟨v, P, h, hT, hF⟩ := h
  subst hT hF
  have HA := @hideH _ (rAt b w h)
  have HRr := @hideH _ (show Rr w g (blks g v P) a (P.map Prod.fst) from ⟨v, P, h, rfl, rfl⟩)
  obtain ⟨p, c, hv, hnc, hcm⟩ := h.row.shape
  subst hv
  obtain ⟨n, hn⟩ : ∃ n, n = P.length := ⟨_, rfl⟩
  have HR := @hideH _ h
  have HN := @hideH _ (And.intro hn (And.intro hnc hcm))
  have B := h.box
  rw [← hn] at B
  have c1 := B.cell (j := 1) rfl
  have HS := @hideH _ hs
  have HL := @hideH _ (show n < 4398046511104 by have := len_szT (P.map Prod.fst); rw [List.length_map, ← hn] at this; omega)
  clear hs
  clear h hn B hnc hcm
  obtain ⟨infI, hin1, hin2, hin3, hin4⟩ := info_parts3 (show (Try.prog.info? 3).map (fun i => (i.zero, i.size, i.bytes)) = some (some (.int .i64 0), 1, 8) by kernel_rfl)
  have HII := @hideH _ (And.intro hin1 (And.intro hin2 (And.intro hin3 hin4)))
  clear hin1 hin2 hin3 hin4
  go_enter Try.func27, Try.ntmps27
  go_wp2_with fail
  refine HA.out.mono ?_
  clear HA
  rintro e wx ⟨hwx, i, rfl, hi⟩
  rw [hwx]
  clear hwx wx
  rcases hi with ⟨rfl, he⟩ | ⟨k, x, rfl, hx, hb, he⟩
  · have HE := @hideH _ (upd_none (n := m) he)
    clear he
    go_wp2
    go_ret
    exact ⟨_, by rw [HE.out.1]; rfl, by rw [HE.out.2]; exact HRr.out, Fr.refl _ _, Kept.refl _ _⟩
  have hkl' : (k : Int) < (n : Int) := by have := (List.getElem?_eq_some_iff.1 hx).1; have := HN.out.1; omega
  have h0 : (0 : Int) ≤ (k : Int) := by omega
  have h0' : ¬ (k : Int) < (0 : Int) := by omega
  by_cases hm : isN m
  rotate_left
  · have HE := @hideH _ (upd_range he hm)
    clear he hx hb
    by_cases h1 : m < 1
    · clear hm
      go_wp2
      go_ret
      exact ⟨_, by rw [HE.out.1]; rfl, by rw [HE.out.2]; exact HRr.out, Fr.refl _ _, Kept.refl _ _⟩
    · have h2 : (65535 : Int) < m := by unfold isN at hm; omega
      clear hm
      go_wp2
      go_ret
      exact ⟨_, by rw [HE.out.1]; rfl, by rw [HE.out.2]; exact HRr.out, Fr.refl _ _, Kept.refl _ _⟩
  have h1 : ¬ m < 1 := by have := hm.1; omega
  have h2 : ¬ (65535 : Int) < m := by have := hm.2; omega
  have HM := @hideH _ hm
  obtain ⟨gl, hp, d0, d1, -⟩ := HR.out.at hx
  subst hp
  obtain ⟨t, u⟩ := x
  have hN := HR.out.ups _ (List.mem_of_getElem? hx)
  dsimp only at hN d0 d1 hb he
  subst hb
  have HX := @hideH _ (And.intro hx he)
  obtain ⟨pu, cu, hu, hmc, hcm⟩ := hN.shape
  subst hu
  obtain ⟨q, hq⟩ : ∃ q, q = t.u.length := ⟨_, rfl⟩
  have HU := @hideH _ hN
  have HQ := @hideH _ (show q = t.u.length ∧ q < 4398046511104 from ⟨hq, by rw [hq]; exact Nat.lt_trans (len_upd (List.mem_map_of_mem (f := Prod.fst) (List.mem_of_getElem? HX.out.1))) HS.out⟩)
  rw [← hq] at d1
  clear hx he hN hq hmc hcm d0 hm
  go_upto_region 6 with fail
  obtain ⟨w6, hw6⟩ : ∃ wx, wx = w.drew := ⟨_, rfl⟩
  have k6 : Kept [] w w6 := by rw [hw6]; exact (Kept.refl [] w).drew
  have hS : (fun w' => w'.cell? ⟨g, 1, none⟩ = some (.slice (some ⟨gl, 0, none⟩) n c) ∧ w'.cell? ⟨gl, k * 2 + 1, none⟩ = some (.slice pu q cu)) w6 := ⟨k6.cell c1 (by simp), k6.cell d1 (by simp)⟩
  try dsimp only at hS
  obtain ⟨w7, hw7⟩ : ∃ wx, wx = w6.alloc (.cells #[.int .i64 m] 3) := ⟨_, rfl⟩
  have k7 : Kept [] w6 w7 := by rw [hw7]; exact (Kept.refl [] w6).alloc _
  have hS7 := (⟨k7.cell hS.1 (by simp), k7.cell hS.2 (by simp)⟩ : (fun w' => w'.cell? ⟨g, 1, none⟩ = some (.slice (some ⟨gl, 0, none⟩) n c) ∧ w'.cell? ⟨gl, k * 2 + 1, none⟩ = some (.slice pu q cu)) w7)
  try dsimp only at hS7
  refine wp_region_late (fun w' => w'.cell? ⟨g, 1, none⟩ = some (.slice (some ⟨gl, 0, none⟩) n c) ∧ w'.cell? ⟨gl, k * 2 + 1, none⟩ = some (.slice pu q cu)) 18 (by kernel_rfl) ?_
  rw [← hw6]
  clear hw6 c1 d1
  refine wpAnyZ_take 0 (v := ?va0) rfl (by kernel_rfl) (by kernel_rfl) (by kernel_rfl) (by kernel_rfl) (fun _ _ _ h => h) (by rfl) ?hya0 hS ?resta0
  case hya0 => (intro wx hSx; obtain ⟨s1, s2⟩ := hSx; go_simp; (try with_reducible rfl))
  (try simp only [Act.put, List.getElem_toArray, List.getElem_cons_zero, List.getElem_cons_succ, List.setIfInBounds_toArray, List.set_cons_zero, List.set_cons_succ])
  refine wpAnyZ_take 1 (v := ?va1) rfl (by kernel_rfl) (by kernel_rfl) (by kernel_rfl) (by kernel_rfl) (fun _ _ _ h => h) (by rfl) ?hya1 hS ?resta1
  case hya1 => (intro wx hSx; obtain ⟨s1, s2⟩ := hSx; go_simp; (try with_reducible rfl))
  (try simp only [Act.put, List.getElem_toArray, List.getElem_cons_zero, List.getElem_cons_succ, List.setIfInBounds_toArray, List.set_cons_zero, List.set_cons_succ])
  refine wpAnyZ_take 2 (v := ?va2) rfl (by kernel_rfl) (by kernel_rfl) (by kernel_rfl) (by kernel_rfl) (fun _ _ _ h => h) (by rfl) ?hya2 hS ?resta2
  case hya2 => (intro wx hSx; obtain ⟨s1, s2⟩ := hSx; go_simp; (try with_reducible rfl))
  (try simp only [Act.put, List.getElem_toArray, List.getElem_cons_zero, List.getElem_cons_succ, List.setIfInBounds_toArray, List.set_cons_zero, List.set_cons_succ])
  refine wpAnyZ_take 3 (v := ?va3) rfl (by kernel_rfl) (by kernel_rfl) (by kernel_rfl) (by kernel_rfl) (fun _ _ _ h => h) (by rfl) ?hya3 hS ?resta3
  case hya3 => (intro wx hSx; obtain ⟨s1, s2⟩ := hSx; go_simp; (try with_reducible rfl))
  (try simp only [Act.put, List.getElem_toArray, List.getElem_cons_zero, List.getElem_cons_succ, List.setIfInBounds_toArray, List.set_cons_zero, List.set_cons_succ])
  refine wpAnyZ_take 4 (v := ?va4) rfl (by kernel_rfl) (by kernel_rfl) (by kernel_rfl) (by kernel_rfl) (fun _ _ _ h => h) (by rfl) ?hya4 hS ?resta4
  case hya4 => (intro wx hSx; obtain ⟨s1, s2⟩ := hSx; go_simp; (try with_reducible rfl))
  (try simp only [Act.put, List.getElem_toArray, List.getElem_cons_zero, List.getElem_cons_succ, List.setIfInBounds_toArray, List.set_cons_zero, List.set_cons_succ])
  refine wpAnyZ_take 5 (v := ?va5) rfl (by kernel_rfl) (by kernel_rfl) (by kernel_rfl) (by kernel_rfl) (fun _ _ _ h => h) (by rfl) ?hya5 hS ?resta5
  case hya5 => (intro wx hSx; obtain ⟨s1, s2⟩ := hSx; go_simp; (try with_reducible rfl))
  (try simp only [Act.put, List.getElem_toArray, List.getElem_cons_zero, List.getElem_cons_succ, List.setIfInBounds_toArray, List.set_cons_zero, List.set_cons_succ])
  refine wpAnyZ_take 6 (v := ?va6) rfl (by kernel_rfl) (by kernel_rfl) (by kernel_rfl) (by kernel_rfl) (fun _ _ _ h => h) (by rfl) ?hya6 hS ?resta6
  case hya6 => (intro wx hSx; obtain ⟨s1, s2⟩ := hSx; go_simp; (try with_reducible rfl))
  (try simp only [Act.put, List.getElem_toArray, List.getElem_cons_zero, List.getElem_cons_succ, List.setIfInBounds_toArray, List.set_cons_zero, List.set_cons_succ])
  refine wpAnyZ_take 7 (v := ?va7) rfl (by kernel_rfl) (by kernel_rfl) (by kernel_rfl) (by kernel_rfl) (fun _ _ _ h => h) (by rfl) ?hya7 hS ?resta7
  case hya7 => (intro wx hSx; obtain ⟨s1, s2⟩ := hSx; go_simp; (try with_reducible rfl))
  (try simp only [Act.put, List.getElem_toArray, List.getElem_cons_zero, List.getElem_cons_succ, List.setIfInBounds_toArray, List.set_cons_zero, List.set_cons_succ])
  refine wpAnyZ_take 8 (v := ?va8) rfl (by kernel_rfl) (by kernel_rfl) (by kernel_rfl) (by kernel_rfl) (fun _ _ _ h => h) (by rfl) ?hya8 hS ?resta8
  case hya8 => (intro wx hSx; obtain ⟨s1, s2⟩ := hSx; go_simp; (try with_reducible rfl))
  (try simp only [Act.put, List.getElem_toArray, List.getElem_cons_zero, List.getElem_cons_succ, List.setIfInBounds_toArray, List.set_cons_zero, List.set_cons_succ])
  refine wpAnyZ_take 9 (v := ?va9) rfl (by kernel_rfl) (by kernel_rfl) (by kernel_rfl) (by kernel_rfl) (fun _ _ _ h => h) (by rfl) ?hya9 hS ?resta9
  case hya9 => (intro wx hSx; obtain ⟨s1, s2⟩ := hSx; go_simp; (try with_reducible rfl))
  (try simp only [Act.put, List.getElem_toArray, List.getElem_cons_zero, List.getElem_cons_succ, List.setIfInBounds_toArray, List.set_cons_zero, List.set_cons_succ])
  refine wpAnyZ_take 10 (v := ?va10) rfl (by kernel_rfl) (by kernel_rfl) (by kernel_rfl) (by kernel_rfl) (fun _ _ _ h => h) (by rfl) ?hya10 hS ?resta10
  case hya10 => (intro wx hSx; obtain ⟨s1, s2⟩ := hSx; go_simp; (try with_reducible rfl))
  (try simp only [Act.put, List.getElem_toArray, List.getElem_cons_zero, List.getElem_cons_succ, List.setIfInBounds_toArray, List.set_cons_zero, List.set_cons_succ])
  refine wpAnyZ_take 11 (v := ?va11) rfl (by kernel_rfl) (by kernel_rfl) (by kernel_rfl) (by kernel_rfl) (fun _ _ _ h => h) (by rfl) ?hya11 hS ?resta11
  case hya11 => (intro wx hSx; obtain ⟨s1, s2⟩ := hSx; go_simp; (try with_reducible rfl))
  (try simp only [Act.put, List.getElem_toArray, List.getElem_cons_zero, List.getElem_cons_succ, List.setIfInBounds_toArray, List.set_cons_zero, List.set_cons_succ])
  refine wpAnyZ_take 12 (v := ?va12) rfl (by kernel_rfl) (by kernel_rfl) (by kernel_rfl) (by kernel_rfl) (fun _ _ _ h => h) (by rfl) ?hya12 hS ?resta12
  case hya12 => (intro wx hSx; obtain ⟨s1, s2⟩ := hSx; go_simp; (try with_reducible rfl))
  (try simp only [Act.put, List.getElem_toArray, List.getElem_cons_zero, List.getElem_cons_succ, List.setIfInBounds_toArray, List.set_cons_zero, List.set_cons_succ])
  refine wpAnyZ_take 13 (v := ?va13) rfl (by kernel_rfl) (by kernel_rfl) (by kernel_rfl) (by kernel_rfl) (fun _ _ _ h => h) (by rfl) ?hya13 hS ?resta13
  case hya13 => (intro wx hSx; obtain ⟨s1, s2⟩ := hSx; go_simp; (try with_reducible rfl))
  (try simp only [Act.put, List.getElem_toArray, List.getElem_cons_zero, List.getElem_cons_succ, List.setIfInBounds_toArray, List.set_cons_zero, List.set_cons_succ])
  refine wpAnyZ_one 14 rfl (by kernel_rfl) (fun K hK => ?_)
  go_simp
  refine hK _ _ (fun _ => by rw [← hw7]; exact hS7) ?_
  clear hK K
  (try simp only [Act.put, List.getElem_toArray, List.getElem_cons_zero, List.getElem_cons_succ, List.setIfInBounds_toArray, List.set_cons_zero, List.set_cons_succ])
  have hsrc := src_i64 (P := Try.prog) w6 33 3 Try.underlying33 m
  rw [← hw7] at hsrc
  rw [← hw7]
  clear hw7
  have k07 := k6.then k7
  have R7 := HU.out.kept k07 (by simp)
  unfold Ns at R7
  rw [← HQ.out.1] at R7
  refine wpAnyZ_one 15 rfl (by kernel_rfl) (fun K hK => ?_)
  refine step_append_row2 rfl (.tmp 31) (.tmp 33) 33 rfl 0 3 infI (.int .i64 0) 1 8 Try.underlying33 HII.out.1 HII.out.2.1 HII.out.2.2.1 HII.out.2.2.2 rfl _ _ _ (by rfl) R7 _ 1 _ (by rfl) hsrc (by have e1 := HQ.out.2; omega) (by have e1 := HQ.out.2; unfold maxLen; omega) (by have e1 := HQ.out.2; omega) (Nat.zero_le _) ?_
  intro v' w8 r8 k8 o8
  obtain ⟨p', c', hv', -⟩ := Row.shape r8
  subst hv'
  have FIN := rr_update (w8 := w8) (u' := .slice p' (q + 1) c') HR.out HX.out.1 HM.out HS.out k07 (by rw [← HQ.out.1]; exact r8) (by rw [← HQ.out.1]; exact k8) (by rw [← HQ.out.1]; exact o8) HX.out.2
  obtain ⟨⟨x8, d8⟩, c8, d8', f8, FIN⟩ := FIN
  rw [← HQ.out.1] at d8'
  rw [← HN.out.1] at c8
  have hS8 := (⟨c8, d8'⟩ : (fun w' => w'.cell? ⟨g, 1, none⟩ = some (.slice (some ⟨gl, 0, none⟩) n c) ∧ w'.cell? ⟨gl, k * 2 + 1, none⟩ = some (.slice pu q cu)) w8)
  try dsimp only at hS8
  have HFIN := @hideH _ FIN
  clear FIN r8 k8 o8 hsrc R7 k07 hS7 k7 hS k6 d8 c8
  refine hK _ _ (fun _ => hS8) ?_
  clear hK K
  (try simp only [Act.put, List.getElem_toArray, List.getElem_cons_zero, List.getElem_cons_succ, List.setIfInBounds_toArray, List.set_cons_zero, List.set_cons_succ])
  refine wpAnyZ_one 16 rfl (by kernel_rfl) (fun K hK => ?_)
  go_simp
  refine hK _ _ (fun _ => hS8) ?_
  clear hK K
  (try simp only [Act.put, List.getElem_toArray, List.getElem_cons_zero, List.getElem_cons_succ, List.setIfInBounds_toArray, List.set_cons_zero, List.set_cons_succ])
  refine wpAnyZ_one 17 rfl (by kernel_rfl) (fun K hK => ?_)
  go_simp
  refine hK _ _ (fun _ => hS8) ?_
  clear hK K
  (try simp only [Act.put, List.getElem_toArray, List.getElem_cons_zero, List.getElem_cons_succ, List.setIfInBounds_toArray, List.set_cons_zero, List.set_cons_succ])
  refine wpAnyZ_one 18 rfl (by kernel_rfl) (fun K hK => ?_)
  go_simp
  refine hK _ _ (fun h => absurd rfl h) ?_
  clear hK K
  (try simp only [Act.put, List.getElem_toArray, List.getElem_cons_zero, List.getElem_cons_succ, List.setIfInBounds_toArray, List.set_cons_zero, List.set_cons_succ])
  refine wpAnyZ_done (by kernel_rfl) ?_ _
  obtain ⟨w9, hw9⟩ : ∃ wx, wx = w8.setCell ⟨gl, k * 2 + 1, none⟩ (.slice p' (q + 1) c') := ⟨_, rfl⟩
  rw [← hw9] at HFIN
  rw [← hw9]
  clear hw9 hS8 f8 d8'
  go_wp2
  go_ret
  obtain ⟨F', q1, q2, q3⟩ := HFIN.out
  exact ⟨F', by rw [(upd_ok HX.out.2 HM.out).1]; rfl, q1, q2, q3⟩
end Go.Proofs.Ytpbcfkfhkenhpaa

/-
  OWN WORK (by mkrm2.py). The document's Room (layer 17): Undone.
-/
namespace Go.Proofs.Ytpbcfkfhkenhpaa
open Go.RowKit
set_option linter.unusedVariables false
set_option linter.unusedSimpArgs false

theorem rr_undone {w w3 w4 : World} {g : Nat} {a n : Int} {gl N c j : Nat} {P : List (Tx × Value)} {k : Nat} {t : Tx} {u v1 v2 : Value} (h : RrP w g a (.slice (some ⟨gl, 0, none⟩) N c) P) (hk : P[k]? = some (t, u)) (hj : t.u[j]? = some n) (hlo : ∀ (i : Nat) (y : Int), i < j → t.u[i]? = some y → y ≠ n) (hf : findT (P.map Prod.fst) t.b = some t)
    (k3 : Kept [] w w3) (o3 : v1.ownBlock = none ∨ (v1.ownBlock = some w.heap.size ∧ Kept [] w w3)) {M : Nat} (hM : M = t.u.length - 1) (r4 : Row w4 0 1 v2 M ((i64s t.u).take (j * 1) ++ (i64s t.u).drop ((j + 1) * 1))) (k4 : Kept v1.ownBlock.toList w3 w4) (o4 : v2.ownBlock = v1.ownBlock ∨ (v2.ownBlock = some w3.heap.size ∧ Kept [] w3 w4)) :
    w4.cell? ⟨g, 1, none⟩ = some (.slice (some ⟨gl, 0, none⟩) N c) ∧ w4.cell? ⟨gl, k * 2 + 1, none⟩ = some u ∧ w4.frozen? ⟨gl, k * 2 + 1, none⟩ = false ∧ n ∈ t.u ∧ ∃ F', Rr (w4.setCell ⟨gl, k * 2 + 1, none⟩ v2) g F' a (undT (P.map Prod.fst) t.b n) ∧ Fr w (blks g (.slice (some ⟨gl, 0, none⟩) N c) P) F' ∧ Kept (blks g (.slice (some ⟨gl, 0, none⟩) N c) P) w (w4.setCell ⟨gl, k * 2 + 1, none⟩ v2) := by
  have s3 := k3.size
  have hjl := (List.getElem?_eq_some_iff.1 hj).1
  have hmem : n ∈ t.u := List.mem_of_getElem? hj
  have h1 : ∀ y, v1.ownBlock = some y → w.heap.size ≤ y := fun y hy => by
    rcases o3 with o | ⟨o, -⟩
    · rw [o] at hy; cases hy
    · rw [o] at hy; cases hy; omega
  have h2 : ∀ y, v2.ownBlock = some y → w.heap.size ≤ y := fun y hy => by
    rcases o4 with o | ⟨o, -⟩
    · rw [o] at hy; exact h1 y hy
    · rw [o] at hy; cases hy; omega
  have k04 : Kept [] w w4 := k3.trans k4 (fun x hx => .inr (h1 x (own_mem.1 hx)))
  have e1 := (und_ok hf hmem).2
  have hlt := (h.row.lt gl rfl).2
  obtain ⟨gl', e, -, d1, -, f1⟩ := h.at hk
  cases e
  rw [Nat.mul_one, Nat.mul_one, i64s_take, i64s_drop, ← i64s_append, ← erase_at hj hlo] at r4
  have hlen : (t.u.erase n).length = M := by rw [List.length_erase_of_mem hmem, hM]
  obtain ⟨q1, q2, q3, q4⟩ := h.set (l' := t.u.erase n) hk (k04.mono (T := u.ownBlock.toList) (by simp)) (by unfold Ns; rw [hlen]; exact r4) (.inr h2) (by rw [← e1]; exact h.ok.und _ _)
  refine ⟨k04.cell (h.box.cell (j := 1) rfl) (by simp), k04.cell d1 (by simp), ?_, hmem, _, ⟨_, _, q1, ?_, rfl⟩, q3, q4⟩
  · rw [frozen_of_block (k04.block gl hlt (by simp))]; exact f1
  · rw [q2, e1]
set_option maxRecDepth 20000 in
set_option maxHeartbeats 1600000 in
theorem rUndone {g : Nat} {F : List Nat} {a : Int} {T : List Tx} (b m : Int) (w : World) (h : Rr w g F a T) : Calls Try.prog 28 #[.pointer (some ⟨g, 0, none⟩), .int .i64 b, .int .i64 m] w fun e w' => ∃ F', e = .returned (.int .i64 (undE T b m)) ∧ Rr w' g F' a (undT T b m) ∧ Fr w F F' ∧ Kept F w w' := by
  obtain ⟨v, P, h, hT, hF⟩ := h
  subst hT hF
  have HA := @hideH _ (rAt b w h)
  have HRr := @hideH _ (show Rr w g (blks g v P) a (P.map Prod.fst) from ⟨v, P, h, rfl, rfl⟩)
  obtain ⟨p, c, hv, hnc, hcm⟩ := h.row.shape
  subst hv
  obtain ⟨n, hn⟩ : ∃ n, n = P.length := ⟨_, rfl⟩
  have HR := @hideH _ h
  have HN := @hideH _ (And.intro hn (And.intro hnc hcm))
  have B := h.box
  rw [← hn] at B
  have c1 := B.cell (j := 1) rfl
  clear h hn B hnc hcm
  obtain ⟨infI, hin1, hin2, hin3, hin4⟩ := info_parts3 (show (Try.prog.info? 3).map (fun i => (i.zero, i.size, i.bytes)) = some (some (.int .i64 0), 1, 8) by kernel_rfl)
  have HII := @hideH _ (And.intro hin1 (And.intro hin2 (And.intro hin3 hin4)))
  clear hin1 hin2 hin3 hin4
  go_enter Try.func28, Try.ntmps28
  go_wp2_with fail
  refine HA.out.mono ?_
  clear HA
  rintro e wx ⟨hwx, i, rfl, hi⟩
  rw [hwx]
  clear hwx wx
  rcases hi with ⟨rfl, he⟩ | ⟨k, x, rfl, hx, hb, he⟩
  · have HE := @hideH _ (und_none (n := m) he)
    clear he
    go_wp2
    go_ret
    exact ⟨_, by rw [HE.out.1]; rfl, by rw [HE.out.2]; exact HRr.out, Fr.refl _ _, Kept.refl _ _⟩
  have hkl' : (k : Int) < (n : Int) := by have := (List.getElem?_eq_some_iff.1 hx).1; have := HN.out.1; omega
  have h0 : (0 : Int) ≤ (k : Int) := by omega
  have h0' : ¬ (k : Int) < (0 : Int) := by omega
  obtain ⟨gl, hp, d0, d1, -⟩ := HR.out.at hx
  subst hp
  obtain ⟨t, u⟩ := x
  have hN := HR.out.ups _ (List.mem_of_getElem? hx)
  dsimp only at hN d0 d1 hb he
  subst hb
  have HX := @hideH _ (And.intro hx he)
  obtain ⟨pu, cu, hu, hmc, hcm⟩ := hN.shape
  subst hu
  obtain ⟨q, hq⟩ : ∃ q, q = t.u.length := ⟨_, rfl⟩
  have HU := @hideH _ hN
  have HQ := @hideH _ (show q = t.u.length ∧ q < 4398046511104 ∧ q ≤ cu from ⟨hq, by rw [hq]; exact Nat.lt_of_lt_of_le (len_upd (List.mem_map_of_mem (f := Prod.fst) (List.mem_of_getElem? HX.out.1))) HR.out.ok.sz, by rw [hq]; exact hmc⟩)
  rw [← hq] at d1
  clear hx he hN hq hmc hcm d0
  go_wp2
  go_loopw [9] (fun i wr => ∃ j : Nat, j ≤ q ∧ i = .int .i64 j ∧ wr = w ∧ Hid (∀ (i : Nat) (y : Int), i < j → t.u[i]? = some y → y ≠ m)) (fun i _ => q - (intOf i).toNat)
  case atStart => exact ⟨0, Nat.zero_le _, rfl, rfl, fun i y hi => absurd hi (Nat.not_lt_zero i)⟩
  case round =>
    obtain ⟨j, hj, rfl, hw, hh⟩ := hrel
    subst hw
    by_cases hjl : j < q
    rotate_left
    · have hjl' : ¬ (j : Int) < (q : Int) := by omega
      have HE := @hideH _ (und_range HX.out.2 (not_in (fun i y hi hy => hh.out i y (by rw [← HQ.out.1] at hi; omega) hy)))
      go_wp2
      go_ret
      exact ⟨by rw [HE.out.1]; rfl, _, by rw [HE.out.2]; exact HRr.out, Fr.refl _ _, Kept.refl _ _⟩
    have hjl' : (j : Int) < (q : Int) := by omega
    have hj0 : (0 : Int) ≤ (j : Int) := by omega
    have wj : IntKind.i64.wrap ((j : Int) + 1) = (j : Int) + 1 := wrap_i64_of (by omega) (by have := HQ.out.2.1; omega)
    obtain ⟨z, hz⟩ : ∃ z, t.u[j]? = some z := ⟨_, List.getElem?_eq_getElem (by have := HQ.out.1; omega)⟩
    obtain ⟨gu, hpu, -, -, e0, -⟩ := HU.out.at hz
    subst hpu
    have HZ := @hideH _ hz
    clear hz
    by_cases e : z = m
    rotate_left
    · have e' : (z == m) = false := by simpa using e
      have HB := @hideH _ e
      clear e
      go_wp2
      go_roundw
      case rel => exact ⟨j + 1, by omega, by go_num, by first | rfl | trivial, fun i y hi hy => by
        by_cases c : i = j
        · subst c; rw [HZ.out] at hy; cases hy; exact HB.out
        · exact hh.out i y (by omega) hy⟩
      case measure => simp [intOf]; omega
    subst e
    have HJ := @hideH _ hjl
    clear hjl hj
    have R2 := HU.out
    unfold Ns at R2
    rw [← HQ.out.1] at R2
    obtain ⟨gu', e', -, -, hc2, -⟩ := R2.pos (by have := HJ.out; omega)
    cases e'
    have cut1 := fun (u : World) => run_cut_to_sz (P := Try.prog) u 33 3 1 Try.underlying33 (by kernel_rfl) (some ⟨gu, 0, none⟩) q cu j (by have := HQ.out.2.2; have := HJ.out; omega)
    have src1 := Row.fore (P := Try.prog) (w' := wr) Try.underlying33 R2 hc2 j (by have := HJ.out; omega)
    have HR2 := @hideH _ (And.intro R2 hc2)
    clear R2 hc2
    go_upto_region 11 with (at_builtin; refine wpList_append_row2 rfl (.tmp 36) (.tmp 39) 33 rfl 0 3 infI (.int .i64 0) 1 8 Try.underlying33 HII.out.1 HII.out.2.1 HII.out.2.2.1 HII.out.2.2.2 rfl _ 0 [] (by rfl) (Row.nil _ _ _) _ j _ (by rfl) src1 (by have e1 := HQ.out.2.1; have e2 := HJ.out; omega) (by have e1 := HQ.out.2.1; have e2 := HJ.out; unfold maxLen; omega) (by have e1 := HQ.out.2.1; have e2 := HJ.out; omega) (Nat.zero_le _) ?_; intro v1 w3 r3 k3 o3; rw [Nat.zero_add, List.nil_append] at r3; obtain ⟨p1, c3, hv1, -⟩ := Row.shape r3; subst hv1)
    have k3' : Kept [] wr w3 := k3
    obtain ⟨sa, hsa⟩ : ∃ sa, sa = (if cu = j + 1 then some (⟨gu, 0, none⟩ : Addr) else Option.map (fun x : Addr => x.add ((j + 1) * 1)) (some ⟨gu, 0, none⟩)) := ⟨_, rfl⟩
    have cut2 : ∀ u : World, (Instr.slice 33 (.slice (some ⟨gu, 0, none⟩) q cu) (some (.int .i64 ((j : Int) + 1))) none none).run Try.prog u = .ok (.slice sa (q - (j + 1)) (cu - (j + 1))) u := fun u => by have q' := run_cut_from_sz (P := Try.prog) u 33 3 1 Try.underlying33 (by kernel_rfl) (some ⟨gu, 0, none⟩) q cu (j + 1) (by have := HJ.out; omega); rw [← hsa] at q'; exact q'
    clear cut1 src1
    obtain ⟨w6, hw6⟩ : ∃ wx, wx = w3.drew := ⟨_, rfl⟩
    have k6 : Kept [] w3 w6 := by rw [hw6]; exact (Kept.refl [] w3).drew
    have k06 := k3'.then k6
    have src2 := Row.rest (P := Try.prog) (w' := w6) Try.underlying33 HR2.out.1 (fun j u hj => k06.cell (HR2.out.2 j u hj) (by simp)) (j + 1) (by have := HJ.out; omega) sa hsa
    clear hsa
    have r6 := r3.kept k6 (by simp)
    have hS : (fun w' => w'.cell? ⟨g, 1, none⟩ = some (.slice (some ⟨gl, 0, none⟩) n c) ∧ w'.cell? ⟨gl, k * 2 + 1, none⟩ = some (.slice (some ⟨gu, 0, none⟩) q cu)) w6 := ⟨k06.cell c1 (by simp), k06.cell d1 (by simp)⟩
    try dsimp only at hS
    refine wp_region_late (fun w' => w'.cell? ⟨g, 1, none⟩ = some (.slice (some ⟨gl, 0, none⟩) n c) ∧ w'.cell? ⟨gl, k * 2 + 1, none⟩ = some (.slice (some ⟨gu, 0, none⟩) q cu)) 13 (by kernel_rfl) ?_
    rw [← hw6]
    clear hw6 c1 d1
    refine wpAnyZ_take 0 (v := ?va0) rfl (by kernel_rfl) (by kernel_rfl) (by kernel_rfl) (by kernel_rfl) (fun _ _ _ h => h) (by rfl) ?hya0 hS ?resta0
    case hya0 => (intro wx hSx; obtain ⟨s1, s2⟩ := hSx; go_simp; (try with_reducible rfl))
    (try simp only [Act.put, List.getElem_toArray, List.getElem_cons_zero, List.getElem_cons_succ, List.setIfInBounds_toArray, List.set_cons_zero, List.set_cons_succ])
    refine wpAnyZ_take 1 (v := ?va1) rfl (by kernel_rfl) (by kernel_rfl) (by kernel_rfl) (by kernel_rfl) (fun _ _ _ h => h) (by rfl) ?hya1 hS ?resta1
    case hya1 => (intro wx hSx; obtain ⟨s1, s2⟩ := hSx; go_simp; (try with_reducible rfl))
    (try simp only [Act.put, List.getElem_toArray, List.getElem_cons_zero, List.getElem_cons_succ, List.setIfInBounds_toArray, List.set_cons_zero, List.set_cons_succ])
    refine wpAnyZ_take 2 (v := ?va2) rfl (by kernel_rfl) (by kernel_rfl) (by kernel_rfl) (by kernel_rfl) (fun _ _ _ h => h) (by rfl) ?hya2 hS ?resta2
    case hya2 => (intro wx hSx; obtain ⟨s1, s2⟩ := hSx; go_simp; (try with_reducible rfl))
    (try simp only [Act.put, List.getElem_toArray, List.getElem_cons_zero, List.getElem_cons_succ, List.setIfInBounds_toArray, List.set_cons_zero, List.set_cons_succ])
    refine wpAnyZ_take 3 (v := ?va3) rfl (by kernel_rfl) (by kernel_rfl) (by kernel_rfl) (by kernel_rfl) (fun _ _ _ h => h) (by rfl) ?hya3 hS ?resta3
    case hya3 => (intro wx hSx; obtain ⟨s1, s2⟩ := hSx; go_simp; (try with_reducible rfl))
    (try simp only [Act.put, List.getElem_toArray, List.getElem_cons_zero, List.getElem_cons_succ, List.setIfInBounds_toArray, List.set_cons_zero, List.set_cons_succ])
    refine wpAnyZ_take 4 (v := ?va4) rfl (by kernel_rfl) (by kernel_rfl) (by kernel_rfl) (by kernel_rfl) (fun _ _ _ h => h) (by rfl) ?hya4 hS ?resta4
    case hya4 => (intro wx hSx; obtain ⟨s1, s2⟩ := hSx; go_simp; (try with_reducible rfl))
    (try simp only [Act.put, List.getElem_toArray, List.getElem_cons_zero, List.getElem_cons_succ, List.setIfInBounds_toArray, List.set_cons_zero, List.set_cons_succ])
    refine wpAnyZ_take 5 (v := ?va5) rfl (by kernel_rfl) (by kernel_rfl) (by kernel_rfl) (by kernel_rfl) (fun _ _ _ h => h) (by rfl) ?hya5 hS ?resta5
    case hya5 => (intro wx hSx; obtain ⟨s1, s2⟩ := hSx; go_simp; (try with_reducible rfl))
    (try simp only [Act.put, List.getElem_toArray, List.getElem_cons_zero, List.getElem_cons_succ, List.setIfInBounds_toArray, List.set_cons_zero, List.set_cons_succ])
    refine wpAnyZ_take 6 (v := ?va6) rfl (by kernel_rfl) (by kernel_rfl) (by kernel_rfl) (by kernel_rfl) (fun _ _ _ h => h) (by rfl) ?hya6 hS ?resta6
    case hya6 => (intro wx hSx; obtain ⟨s1, s2⟩ := hSx; go_simp; (try with_reducible rfl))
    (try simp only [Act.put, List.getElem_toArray, List.getElem_cons_zero, List.getElem_cons_succ, List.setIfInBounds_toArray, List.set_cons_zero, List.set_cons_succ])
    refine wpAnyZ_take 7 (v := ?va7) rfl (by kernel_rfl) (by kernel_rfl) (by kernel_rfl) (by kernel_rfl) (fun _ _ _ h => h) (by rfl) ?hya7 hS ?resta7
    case hya7 => (intro wx hSx; obtain ⟨s1, s2⟩ := hSx; go_simp; (try with_reducible rfl))
    (try simp only [Act.put, List.getElem_toArray, List.getElem_cons_zero, List.getElem_cons_succ, List.setIfInBounds_toArray, List.set_cons_zero, List.set_cons_succ])
    refine wpAnyZ_take 8 (v := ?va8) rfl (by kernel_rfl) (by kernel_rfl) (by kernel_rfl) (by kernel_rfl) (fun _ _ _ h => h) (by rfl) ?hya8 hS ?resta8
    case hya8 => (intro wx hSx; obtain ⟨s1, s2⟩ := hSx; go_simp; (try with_reducible rfl))
    (try simp only [Act.put, List.getElem_toArray, List.getElem_cons_zero, List.getElem_cons_succ, List.setIfInBounds_toArray, List.set_cons_zero, List.set_cons_succ])
    refine wpAnyZ_take 9 (v := ?va9) rfl (by kernel_rfl) (by kernel_rfl) (by kernel_rfl) (by kernel_rfl) (fun _ _ _ h => h) (by rfl) ?hya9 hS ?resta9
    case hya9 => (intro wx hSx; obtain ⟨s1, s2⟩ := hSx; go_simp; (try with_reducible rfl))
    (try simp only [Act.put, List.getElem_toArray, List.getElem_cons_zero, List.getElem_cons_succ, List.setIfInBounds_toArray, List.set_cons_zero, List.set_cons_succ])
    refine wpAnyZ_one 10 rfl (by kernel_rfl) (fun K hK => ?_)
    refine step_append_row2 rfl (.tmp 46) (.tmp 50) 33 rfl 0 3 infI (.int .i64 0) 1 8 Try.underlying33 HII.out.1 HII.out.2.1 HII.out.2.2.1 HII.out.2.2.2 rfl _ j ((i64s t.u).take (j * 1)) (by rfl) r6 _ (q - (j + 1)) ((i64s t.u).drop ((j + 1) * 1)) (by rfl) src2 (by have e1 := HQ.out.2.1; have e2 := HJ.out; omega) (by have e1 := HQ.out.2.1; have e2 := HJ.out; unfold maxLen; omega) (by have e1 := HQ.out.2.1; have e2 := HJ.out; omega) (Nat.zero_le _) ?_
    intro v' w8 r8 k8 o8
    obtain ⟨p', c', hv', -⟩ := Row.shape r8
    subst hv'
    have FIN := rr_undone (w4 := w8) (v1 := .slice p1 j c3) (v2 := .slice p' (j + (q - (j + 1))) c') (M := j + (q - (j + 1))) HR.out HX.out.1 HZ.out hh.out HX.out.2 k06 (o3.imp id (fun o => ⟨o.1, k06⟩)) (by have e1 := HQ.out.1; have e2 := HJ.out; omega) r8 k8 (o8.imp id id)
    obtain ⟨c8, d8', f8, hmem, FIN⟩ := FIN
    rw [← HQ.out.1] at d8'
    rw [← HN.out.1] at c8
    have hS8 := (⟨c8, d8'⟩ : (fun w' => w'.cell? ⟨g, 1, none⟩ = some (.slice (some ⟨gl, 0, none⟩) n c) ∧ w'.cell? ⟨gl, k * 2 + 1, none⟩ = some (.slice (some ⟨gu, 0, none⟩) q cu)) w8)
    try dsimp only at hS8
    have HFIN := @hideH _ (And.intro hmem FIN)
    clear FIN r8 k8 o8 src2 r6 r3 k3 o3 k3' k06 hS k6 c8 hmem cut2
    refine hK _ _ (fun _ => hS8) ?_
    clear hK K
    (try simp only [Act.put, List.getElem_toArray, List.getElem_cons_zero, List.getElem_cons_succ, List.setIfInBounds_toArray, List.set_cons_zero, List.set_cons_succ])
    refine wpAnyZ_one 11 rfl (by kernel_rfl) (fun K hK => ?_)
    go_simp
    refine hK _ _ (fun _ => hS8) ?_
    clear hK K
    (try simp only [Act.put, List.getElem_toArray, List.getElem_cons_zero, List.getElem_cons_succ, List.setIfInBounds_toArray, List.set_cons_zero, List.set_cons_succ])
    refine wpAnyZ_one 12 rfl (by kernel_rfl) (fun K hK => ?_)
    go_simp
    refine hK _ _ (fun _ => hS8) ?_
    clear hK K
    (try simp only [Act.put, List.getElem_toArray, List.getElem_cons_zero, List.getElem_cons_succ, List.setIfInBounds_toArray, List.set_cons_zero, List.set_cons_succ])
    refine wpAnyZ_one 13 rfl (by kernel_rfl) (fun K hK => ?_)
    go_simp
    refine hK _ _ (fun h => absurd rfl h) ?_
    clear hK K
    (try simp only [Act.put, List.getElem_toArray, List.getElem_cons_zero, List.getElem_cons_succ, List.setIfInBounds_toArray, List.set_cons_zero, List.set_cons_succ])
    refine wpAnyZ_done (by kernel_rfl) ?_ _
    obtain ⟨w9, hw9⟩ : ∃ wx, wx = w8.setCell ⟨gl, k * 2 + 1, none⟩ (.slice p' (j + (q - (j + 1))) c') := ⟨_, rfl⟩
    rw [← hw9] at HFIN
    rw [← hw9]
    clear hw9 hS8 f8 d8'
    go_wp2
    go_ret
    obtain ⟨hmem, F', q1, q2, q3⟩ := HFIN.out
    exact ⟨F', by rw [(und_ok HX.out.2 hmem).1]; rfl, q1, q2, q3⟩
end Go.Proofs.Ytpbcfkfhkenhpaa

/-
  OWN WORK (by mkrm2.py). The document's Room (layer 17): Drop.
-/
namespace Go.Proofs.Ytpbcfkfhkenhpaa
open Go.RowKit
set_option linter.unusedVariables false
set_option linter.unusedSimpArgs false

set_option maxRecDepth 20000 in
set_option maxHeartbeats 1600000 in
theorem rDrop {g : Nat} {F : List Nat} {a : Int} {T : List Tx} (b : Int) (w : World) (h : Rr w g F a T) : Calls Try.prog 29 #[.pointer (some ⟨g, 0, none⟩), .int .i64 b] w fun e w' => ∃ F', e = .returned (.int .i64 (drpE T b)) ∧ Rr w' g F' a (drpT T b) ∧ Fr w F F' ∧ Kept F w w' := by
  obtain ⟨v, P, h, hT, hF⟩ := h
  subst hT hF
  have HA := @hideH _ (rAt b w h)
  have HRr := @hideH _ (show Rr w g (blks g v P) a (P.map Prod.fst) from ⟨v, P, h, rfl, rfl⟩)
  obtain ⟨p, c, hv, hnc, hcm⟩ := h.row.shape
  subst hv
  obtain ⟨n, hn⟩ : ∃ n, n = P.length := ⟨_, rfl⟩
  have HR := @hideH _ h
  have HN := @hideH _ (And.intro hn (And.intro hnc hcm))
  have B := h.box
  rw [← hn] at B
  have c1 := B.cell (j := 1) rfl
  clear h hn B hnc hcm
  have HL := @hideH _ (show n ≤ 4398046511104 by have := len_szT (P.map Prod.fst); have e2 := HR.out.ok.sz; rw [List.length_map, ← HN.out.1] at this; omega)
  obtain ⟨infT, hin1, hin2, hin3, hin4⟩ := info_parts3 (show (Try.prog.info? 65).map (fun i => (i.zero, i.size, i.bytes)) = some (some (.agg #[.int .i64 0, .slice none 0 0]), 2, 32) by kernel_rfl)
  have HIT := @hideH _ (And.intro hin1 (And.intro hin2 (And.intro hin3 hin4)))
  clear hin1 hin2 hin3 hin4
  go_enter Try.func29, Try.ntmps29
  go_wp2_with fail
  refine HA.out.mono ?_
  clear HA
  rintro e wx ⟨hwx, i, rfl, hi⟩
  rw [hwx]
  clear hwx wx
  rcases hi with ⟨rfl, he⟩ | ⟨k, x, rfl, hx, hb, he⟩
  · have HE := @hideH _ (drp_none he)
    clear he
    go_wp2
    go_ret
    exact ⟨_, by rw [HE.out.1]; rfl, by rw [HE.out.2]; exact HRr.out, Fr.refl _ _, Kept.refl _ _⟩
  · have hkn : k < n := by have := (List.getElem?_eq_some_iff.1 hx).1; have := HN.out.1; omega
    have hkl' : (k : Int) < (n : Int) := by omega
    have h0 : (0 : Int) ≤ (k : Int) := by omega
    have h0' : ¬ (k : Int) < (0 : Int) := by omega
    have wk : IntKind.i64.wrap ((k : Int) + 1) = (k : Int) + 1 := wrap_i64_of (by omega) (by have := HL.out; omega)
    obtain ⟨gl, hp, -⟩ := HR.out.at hx
    subst hp
    have HX := @hideH _ (And.intro hx hb)
    have HE := @hideH _ (drp_ok he).1
    have HKN := @hideH _ hkn
    clear hx hb he hkn
    have R2 := HR.out.row
    rw [← HN.out.1] at R2
    obtain ⟨gl', e', -, -, hc2, -⟩ := R2.pos (by have := HKN.out; omega)
    cases e'
    have cut1 := fun (u : World) => run_cut_to_sz (P := Try.prog) u 47 65 2 Try.underlying47 (by kernel_rfl) (some ⟨gl, 0, none⟩) n c k (by have := HN.out.2.1; have := HN.out.1; have := HKN.out; omega)
    have src1 := Row.fore (P := Try.prog) (w' := w) Try.underlying47 R2 hc2 k (by have := HKN.out; omega)
    have HR2 := @hideH _ (And.intro R2 hc2)
    clear R2 hc2
    go_upto_region 6 with (at_builtin; refine wpList_append_row2 rfl (.tmp 12) (.tmp 18) 47 rfl 0 65 infT (.agg #[.int .i64 0, .slice none 0 0]) 2 32 Try.underlying47 HIT.out.1 HIT.out.2.1 HIT.out.2.2.1 HIT.out.2.2.2 rfl _ 0 [] (by rfl) (Row.nil _ _ _) _ k _ (by rfl) src1 (by have e1 := HL.out; have e2 := HKN.out; omega) (by have e1 := HL.out; have e2 := HKN.out; unfold maxLen; omega) (by have e1 := HL.out; have e2 := HKN.out; omega) (Nat.zero_le _) ?_; intro v1 w3 r3 k3 o3; rw [Nat.zero_add, List.nil_append] at r3; obtain ⟨p1, c3, hv1, -⟩ := Row.shape r3; subst hv1)
    have k3' : Kept [] w w3 := k3
    have c3' := k3'.cell c1 (by simp)
    obtain ⟨sa, hsa⟩ : ∃ sa, sa = (if c = k + 1 then some (⟨gl, 0, none⟩ : Addr) else Option.map (fun x : Addr => x.add ((k + 1) * 2)) (some ⟨gl, 0, none⟩)) := ⟨_, rfl⟩
    have cut2 : ∀ u : World, (Instr.slice 47 (.slice (some ⟨gl, 0, none⟩) n c) (some (.int .i64 ((k : Int) + 1))) none none).run Try.prog u = .ok (.slice sa (n - (k + 1)) (c - (k + 1))) u := fun u => by have q := run_cut_from_sz (P := Try.prog) u 47 65 2 Try.underlying47 (by kernel_rfl) (some ⟨gl, 0, none⟩) n c (k + 1) (by have := HKN.out; omega); rw [← hsa] at q; exact q
    have src2 := Row.rest (P := Try.prog) (w' := w3) Try.underlying47 HR2.out.1 (fun j u hj => k3'.cell (HR2.out.2 j u hj) (by simp)) (k + 1) (by have := HKN.out; omega) sa hsa
    clear cut1 src1 hsa
    go_upto_region 7 with (at_builtin; refine wpList_append_row2 rfl (.tmp 21) (.tmp 28) 47 rfl 0 65 infT (.agg #[.int .i64 0, .slice none 0 0]) 2 32 Try.underlying47 HIT.out.1 HIT.out.2.1 HIT.out.2.2.1 HIT.out.2.2.2 rfl _ _ _ (by rfl) r3 _ _ _ (by rfl) src2 (by have e1 := HL.out; have e2 := HKN.out; omega) (by have e1 := HL.out; have e2 := HKN.out; unfold maxLen; omega) (by have e1 := HL.out; have e2 := HKN.out; omega) (Nat.zero_le _) ?_; intro v2 w4 r4 k4 o4; obtain ⟨p2, cc2, hv2, -⟩ := Row.shape r4; subst hv2; have FIN := rr_drop HR.out HX.out.1 HX.out.2 k3' o3 (show k + (n - (k + 1)) = P.length - 1 by have e1 := HN.out.1; have e2 := HKN.out; omega) r4 k4 o4; have c4 := FIN.1.cell (j := 1) rfl; have f4 := FIN.1.free 1; have HFIN := @hideH _ FIN.2; clear FIN r4 k4 o4 src2)
    obtain ⟨w9, hw9⟩ : ∃ wx, wx = w4.setCell ⟨g, 1, none⟩ (.slice p2 (k + (n - (k + 1))) cc2) := ⟨_, rfl⟩
    rw [← hw9] at HFIN
    rw [← hw9]
    clear hw9 c4 f4 c1 c3' r3 k3 o3 k3' cut2
    go_wp2
    go_ret
    obtain ⟨F', q1, q2, q3⟩ := HFIN.out
    exact ⟨F', by rw [HE.out]; rfl, q1, q2, q3⟩
end Go.Proofs.Ytpbcfkfhkenhpaa

/-
  OWN WORK (by mkrm6.py). The law: one step of both.
-/
namespace Go.Proofs.Ytpbcfkfhkenhpaa
open Go.RowKit
set_option linter.unusedVariables false
set_option linter.unusedSimpArgs false

theorem dis_left {w : World} {F F' G : List Nat} (hn : ∀ x ∈ F, x ∉ G) (fr : Fr w F F') (lt : ∀ x ∈ G, x < w.heap.size) : ∀ x ∈ F', x ∉ G := fun x hx hm => by
  rcases fr x hx with q | q
  · exact hn x q hm
  · have := lt x hm; omega
theorem dis_right {w : World} {F G G' : List Nat} (hn : ∀ x ∈ F, x ∉ G) (fr : Fr w G G') (lt : ∀ x ∈ F, x < w.heap.size) : ∀ x ∈ F, x ∉ G' := fun x hx hm => by
  rcases fr x hm with q | q
  · exact hn x hx q
  · have := lt x hx; omega
theorem dis_swap {F G : List Nat} (hn : ∀ x ∈ F, x ∉ G) : ∀ x ∈ G, x ∉ F := fun x hx hm => hn x hm hx
theorem rOf {g : Nat} {F : List Nat} {a : Int} {T : List Tx} (b : Int) (w : World) (h : Rr w g F a T) : Calls Try.prog 22 #[.pointer (some ⟨g, 0, none⟩), .int .i64 b] w fun e w' => e = .returned (.int .i64 (ofT T b)) ∧ Kept [] w w' := by
  obtain ⟨v, P, h1, rfl, rfl⟩ := h
  refine (rOfP b w h1).mono ?_
  rintro e w' ⟨rfl, rfl⟩
  exact ⟨rfl, Kept.refl _ _⟩
theorem rKept {g : Nat} {F : List Nat} {a : Int} {T : List Tx} (w : World) (h : Rr w g F a T) : Calls Try.prog 21 #[.pointer (some ⟨g, 0, none⟩)] w fun e w' => e = .returned (.int .i64 (keptT T)) ∧ Kept [] w w' := by
  obtain ⟨v, P, h1, rfl, rfl⟩ := h
  refine (rKeptP w h1).mono ?_
  rintro e w' ⟨rfl, rfl⟩
  exact ⟨rfl, Kept.refl _ _⟩
theorem rFits {g : Nat} {F : List Nat} {a : Int} {T : List Tx} (u m k : Int) (w : World) (h : Rr w g F a T) (ha : I64 a) (hu : I64 u) (hm : I64 m) (hk : I64 k) : Calls Try.prog 30 #[.pointer (some ⟨g, 0, none⟩), .int .i64 u, .int .i64 m, .int .i64 k] w fun e w' => e = .returned (.bool (fitsB a T u m k)) ∧ Kept [] w w' := by
  obtain ⟨v, P, h1, rfl, rfl⟩ := h
  exact rFitsP u m k w h1 ha hu hm hk
set_option maxRecDepth 20000 in
set_option maxHeartbeats 12800000 in
theorem step_any {Rm : World → Nat → List Nat → Int → List Tx → Prop} (O : RmOps Rm) {gP : Nat} {F : List Nat} {gR : Nat} {G : List Nat} {a : Int} {T : List Tx} (s : OpR) (w : World) (l : Rm w gP F a T) (r : Rr w gR G a T) (hn : ∀ x ∈ F, x ∉ G) (nn : s.i64) (ha : I64 a) (hs : szT T < 4398046511104) : Calls Try.prog 20 #[.pointer (some ⟨gP, 0, none⟩), .pointer (some ⟨gR, 0, none⟩), .agg #[.int .i64 s.kind, .int .i64 s.birth, .int .i64 s.n, .int .i64 s.m]] w fun e w' => e = .returned (.bool true) ∧ ∃ F' G', Rm w' gP F' a (playR T s) ∧ Rr w' gR G' a (playR T s) ∧ (∀ x ∈ F', x ∉ G') ∧ Fr w F F' ∧ Fr w G G' ∧ Kept (F ++ G) w w' := by
  have HNN := @hideH _ (And.intro nn (And.intro ha hs))
  have n0 : w.heap.size ∉ F := fun hm => by have := O.lt l _ hm; omega
  have n1 : w.heap.size ∉ G := fun hm => by have := r.lt _ hm; omega
  obtain ⟨w1, hw1⟩ : ∃ wx, wx = w.alloc (.cells #[.int .i64 s.kind, .int .i64 s.birth, .int .i64 s.n, .int .i64 s.m] 35) := ⟨_, rfl⟩
  have k1 : Kept [] w w1 := by rw [hw1]; exact (Kept.refl [] w).alloc _
  have B : Blk w1 w.heap.size 35 [.int .i64 s.kind, .int .i64 s.birth, .int .i64 s.n, .int .i64 s.m] := by rw [hw1]; exact Blk.new w _ _
  have d0 := B.cell (j := 0) rfl
  have d1 := B.cell (j := 1) rfl
  have d2 := B.cell (j := 2) rfl
  have d3 := B.cell (j := 3) rfl
  have HK1 := @hideH _ k1
  have HLR := @hideH _ (And.intro (O.kept l k1 (by simp)) (And.intro (r.kept k1 (by simp)) hn))
  clear B l r nn k1 hn ha hs
  go_enter Try.func20, Try.ntmps20
  go_upto_region 1 with fail
  rw [← hw1]
  clear hw1
  by_cases q0 : s.kind = 0
  · have HP := @hideH _ (play0 (T := T) q0)
    rw [q0] at d0
    clear q0 
    have hq := O.beg s.birth w1 HLR.out.1 HNN.out.1.2.1 HNN.out.2.2
    have HQ := @hideH _ hq
    have HRR := @hideH _ (fun w6 (h : Rr w6 gR G a T) => rBegin s.birth w6 h HNN.out.2.2)
    obtain ⟨E, hE⟩ : ∃ E, E = begE T s.birth := ⟨_, rfl⟩
    rw [← hE] at HQ HRR
    clear hE hq
    go_wp2_with fail
    refine HQ.out.mono ?_
    clear HQ
    rintro e w3 ⟨F3, rfl, l3, fr3, k3⟩
    have r3 := HLR.out.2.1.kept k3 (dis_swap HLR.out.2.2)
    have ds3 := dis_left HLR.out.2.2 fr3 HLR.out.2.1.lt
    replace d1 := k3.cell d1 n0
    replace d2 := k3.cell d2 n0
    replace d3 := k3.cell d3 n0
    have HQ := @hideH _ (HRR.out w3 r3)
    clear HRR
    go_wp2_with fail
    refine HQ.out.mono ?_
    clear HQ
    rintro e w5 ⟨G5, rfl, r5, fr5, k5⟩
    have l5 := O.kept l3 k5 ds3
    have ds5 := dis_right ds3 fr5 (O.lt l3)
    have FIN := @hideH _ (show ∃ F' G', Rm w5 gP F' a (playR T s) ∧ Rr w5 gR G' a (playR T s) ∧ (∀ x ∈ F', x ∉ G') ∧ Fr w F F' ∧ Fr w G G' ∧ Kept (F ++ G) w w5 from ⟨F3, G5, by rw [HP.out]; exact l5, by rw [HP.out]; exact r5, ds5, fr3.old HK1.out.size, fr5.old (Nat.le_trans HK1.out.size k3.size), ((HK1.out.mono (T := F ++ G) (by simp)).trans k3 (fun x hx => .inl (List.mem_append_left _ hx))).trans k5 (fun x hx => .inl (List.mem_append_right _ hx))⟩)
    clear l3 fr3 k3 r3 ds3 l5 ds5 r5 fr5 k5 HLR
    go_wp2
    go_ret
    exact ⟨by first | rfl | simp, FIN.out⟩
  have q0' : (s.kind == 0) = false := by simpa using q0
  by_cases q1 : s.kind = 1
  · have HP := @hideH _ (play1 (T := T) q1)
    rw [q1] at d0
    clear q1 q0
    have hq := O.upd s.birth s.n w1 HLR.out.1 HNN.out.1.2.1 HNN.out.1.2.2.1 HNN.out.2.2
    have HQ := @hideH _ hq
    have HRR := @hideH _ (fun w6 (h : Rr w6 gR G a T) => rUpdate s.birth s.n w6 h HNN.out.2.2)
    obtain ⟨E, hE⟩ : ∃ E, E = updE T s.birth s.n := ⟨_, rfl⟩
    rw [← hE] at HQ HRR
    clear hE hq
    go_wp2_with fail
    refine HQ.out.mono ?_
    clear HQ
    rintro e w3 ⟨F3, rfl, l3, fr3, k3⟩
    have r3 := HLR.out.2.1.kept k3 (dis_swap HLR.out.2.2)
    have ds3 := dis_left HLR.out.2.2 fr3 HLR.out.2.1.lt
    replace d1 := k3.cell d1 n0
    replace d2 := k3.cell d2 n0
    replace d3 := k3.cell d3 n0
    have HQ := @hideH _ (HRR.out w3 r3)
    clear HRR
    go_wp2_with fail
    refine HQ.out.mono ?_
    clear HQ
    rintro e w5 ⟨G5, rfl, r5, fr5, k5⟩
    have l5 := O.kept l3 k5 ds3
    have ds5 := dis_right ds3 fr5 (O.lt l3)
    have FIN := @hideH _ (show ∃ F' G', Rm w5 gP F' a (playR T s) ∧ Rr w5 gR G' a (playR T s) ∧ (∀ x ∈ F', x ∉ G') ∧ Fr w F F' ∧ Fr w G G' ∧ Kept (F ++ G) w w5 from ⟨F3, G5, by rw [HP.out]; exact l5, by rw [HP.out]; exact r5, ds5, fr3.old HK1.out.size, fr5.old (Nat.le_trans HK1.out.size k3.size), ((HK1.out.mono (T := F ++ G) (by simp)).trans k3 (fun x hx => .inl (List.mem_append_left _ hx))).trans k5 (fun x hx => .inl (List.mem_append_right _ hx))⟩)
    clear l3 fr3 k3 r3 ds3 l5 ds5 r5 fr5 k5 HLR
    go_wp2
    go_ret
    exact ⟨by first | rfl | simp, FIN.out⟩
  have q1' : (s.kind == 1) = false := by simpa using q1
  by_cases q2 : s.kind = 2
  · have HP := @hideH _ (play2 (T := T) q2)
    rw [q2] at d0
    clear q2 q0 q1
    have hq := O.und s.birth s.n w1 HLR.out.1 HNN.out.1.2.1 HNN.out.1.2.2.1
    have HQ := @hideH _ hq
    have HRR := @hideH _ (fun w6 (h : Rr w6 gR G a T) => rUndone s.birth s.n w6 h)
    obtain ⟨E, hE⟩ : ∃ E, E = undE T s.birth s.n := ⟨_, rfl⟩
    rw [← hE] at HQ HRR
    clear hE hq
    go_wp2_with fail
    refine HQ.out.mono ?_
    clear HQ
    rintro e w3 ⟨F3, rfl, l3, fr3, k3⟩
    have r3 := HLR.out.2.1.kept k3 (dis_swap HLR.out.2.2)
    have ds3 := dis_left HLR.out.2.2 fr3 HLR.out.2.1.lt
    replace d1 := k3.cell d1 n0
    replace d2 := k3.cell d2 n0
    replace d3 := k3.cell d3 n0
    have HQ := @hideH _ (HRR.out w3 r3)
    clear HRR
    go_wp2_with fail
    refine HQ.out.mono ?_
    clear HQ
    rintro e w5 ⟨G5, rfl, r5, fr5, k5⟩
    have l5 := O.kept l3 k5 ds3
    have ds5 := dis_right ds3 fr5 (O.lt l3)
    have FIN := @hideH _ (show ∃ F' G', Rm w5 gP F' a (playR T s) ∧ Rr w5 gR G' a (playR T s) ∧ (∀ x ∈ F', x ∉ G') ∧ Fr w F F' ∧ Fr w G G' ∧ Kept (F ++ G) w w5 from ⟨F3, G5, by rw [HP.out]; exact l5, by rw [HP.out]; exact r5, ds5, fr3.old HK1.out.size, fr5.old (Nat.le_trans HK1.out.size k3.size), ((HK1.out.mono (T := F ++ G) (by simp)).trans k3 (fun x hx => .inl (List.mem_append_left _ hx))).trans k5 (fun x hx => .inl (List.mem_append_right _ hx))⟩)
    clear l3 fr3 k3 r3 ds3 l5 ds5 r5 fr5 k5 HLR
    go_wp2
    go_ret
    exact ⟨by first | rfl | simp, FIN.out⟩
  have q2' : (s.kind == 2) = false := by simpa using q2
  by_cases q3 : s.kind = 3
  · have HP := @hideH _ (play3 (T := T) q3)
    rw [q3] at d0
    clear q3 q0 q1 q2
    have hq := O.drp s.birth w1 HLR.out.1 HNN.out.1.2.1
    have HQ := @hideH _ hq
    have HRR := @hideH _ (fun w6 (h : Rr w6 gR G a T) => rDrop s.birth w6 h)
    obtain ⟨E, hE⟩ : ∃ E, E = drpE T s.birth := ⟨_, rfl⟩
    rw [← hE] at HQ HRR
    clear hE hq
    go_wp2_with fail
    refine HQ.out.mono ?_
    clear HQ
    rintro e w3 ⟨F3, rfl, l3, fr3, k3⟩
    have r3 := HLR.out.2.1.kept k3 (dis_swap HLR.out.2.2)
    have ds3 := dis_left HLR.out.2.2 fr3 HLR.out.2.1.lt
    replace d1 := k3.cell d1 n0
    replace d2 := k3.cell d2 n0
    replace d3 := k3.cell d3 n0
    have HQ := @hideH _ (HRR.out w3 r3)
    clear HRR
    go_wp2_with fail
    refine HQ.out.mono ?_
    clear HQ
    rintro e w5 ⟨G5, rfl, r5, fr5, k5⟩
    have l5 := O.kept l3 k5 ds3
    have ds5 := dis_right ds3 fr5 (O.lt l3)
    have FIN := @hideH _ (show ∃ F' G', Rm w5 gP F' a (playR T s) ∧ Rr w5 gR G' a (playR T s) ∧ (∀ x ∈ F', x ∉ G') ∧ Fr w F F' ∧ Fr w G G' ∧ Kept (F ++ G) w w5 from ⟨F3, G5, by rw [HP.out]; exact l5, by rw [HP.out]; exact r5, ds5, fr3.old HK1.out.size, fr5.old (Nat.le_trans HK1.out.size k3.size), ((HK1.out.mono (T := F ++ G) (by simp)).trans k3 (fun x hx => .inl (List.mem_append_left _ hx))).trans k5 (fun x hx => .inl (List.mem_append_right _ hx))⟩)
    clear l3 fr3 k3 r3 ds3 l5 ds5 r5 fr5 k5 HLR
    go_wp2
    go_ret
    exact ⟨by first | rfl | simp, FIN.out⟩
  have q3' : (s.kind == 3) = false := by simpa using q3
  by_cases q5 : s.kind = 5
  · have HP := @hideH _ (playE (T := T) q0 q1 q2 q3)
    rw [q5] at d0
    clear q5 q0 q1 q2 q3
    have lx := O.kept HLR.out.1 (Kept.refl [] w1).drew (by simp)
    have rx := HLR.out.2.1.kept (Kept.refl [] w1).drew (by simp)
    have kx : Kept [] w1 w1.drew := (Kept.refl _ w1).drew
    obtain ⟨E, hE⟩ : ∃ E, E = fitsB a T s.birth s.n s.m := ⟨_, rfl⟩
    have HQ := @hideH _ (fun w6 (h : Rm w6 gP F a T) => O.fits s.birth s.n s.m w6 h HNN.out.1.2.1 HNN.out.1.2.2.1 HNN.out.1.2.2.2)
    have HRR := @hideH _ (fun w6 (h : Rr w6 gR G a T) => rFits s.birth s.n s.m w6 h HNN.out.2.1 HNN.out.1.2.1 HNN.out.1.2.2.1 HNN.out.1.2.2.2)
    rw [← hE] at HQ HRR
    clear hE
    go_upto_region 15 with fail
    go_region_held3 (fun w' => w'.cell? ⟨w.heap.size, 1, none⟩ = some (.int .i64 s.birth) ∧ w'.cell? ⟨w.heap.size, 2, none⟩ = some (.int .i64 s.n) ∧ w'.cell? ⟨w.heap.size, 3, none⟩ = some (.int .i64 s.m))
      (first
        | (exact ⟨kx.cell d1 (by simp), kx.cell d2 (by simp), kx.cell d3 (by simp)⟩)
        | fail)
      (first
        | (go_at_call 11; refine (HQ.out _ lx).mono ?_; rintro e w6 ⟨rfl, k6⟩; replace kx := kx.then k6; replace lx := O.kept lx k6 (by simp); replace rx := rx.kept k6 (by simp); clear k6)
        | (go_at_call 30; refine (HRR.out _ rx).mono ?_; rintro e w7 ⟨rfl, k6⟩; replace kx := kx.then k6; replace lx := O.kept lx k6 (by simp); replace rx := rx.kept k6 (by simp); clear k6)
        | fail)
    all_goals (have FIN := @hideH _ (And.intro lx (And.intro rx (HK1.out.then kx))))
    all_goals (clear lx rx kx HQ HRR)
    all_goals go_wp2
    all_goals go_ret
    all_goals exact ⟨by first | rfl | simp, F, G, by rw [HP.out]; exact FIN.out.1, by rw [HP.out]; exact FIN.out.2.1, HLR.out.2.2, Fr.refl _ _, Fr.refl _ _, FIN.out.2.2.mono (by simp)⟩
  have q5' : (s.kind == 5) = false := by simpa using q5
  have HP := @hideH _ (playE (T := T) q0 q1 q2 q3)
  clear q0 q1 q2 q3 q5
  have lx := O.kept HLR.out.1 (Kept.refl [] w1).drew (by simp)
  have rx := HLR.out.2.1.kept (Kept.refl [] w1).drew (by simp)
  have kx : Kept [] w1 w1.drew := (Kept.refl _ w1).drew
  obtain ⟨E, hE⟩ : ∃ E, E = ofT T s.birth := ⟨_, rfl⟩
  have HQ := @hideH _ (fun w6 (h : Rm w6 gP F a T) => O.of s.birth w6 h HNN.out.1.2.1)
  have HRR := @hideH _ (fun w6 (h : Rr w6 gR G a T) => rOf s.birth w6 h)
  rw [← hE] at HQ HRR
  clear hE
  go_upto_region 16 with fail
  go_region_held3 (fun w' => w'.cell? ⟨w.heap.size, 1, none⟩ = some (.int .i64 s.birth))
    (first
      | (exact kx.cell d1 (by simp))
      | fail)
    (first
      | (go_at_call 15; refine (HQ.out _ lx).mono ?_; rintro e w6 ⟨rfl, k6⟩; replace kx := kx.then k6; replace lx := O.kept lx k6 (by simp); replace rx := rx.kept k6 (by simp); clear k6)
      | (go_at_call 22; refine (HRR.out _ rx).mono ?_; rintro e w7 ⟨rfl, k6⟩; replace kx := kx.then k6; replace lx := O.kept lx k6 (by simp); replace rx := rx.kept k6 (by simp); clear k6)
      | fail)
  all_goals (have FIN := @hideH _ (And.intro lx (And.intro rx (HK1.out.then kx))))
  all_goals (clear lx rx kx HQ HRR)
  all_goals go_wp2
  all_goals go_ret
  all_goals exact ⟨by first | rfl | simp, F, G, by rw [HP.out]; exact FIN.out.1, by rw [HP.out]; exact FIN.out.2.1, HLR.out.2.2, Fr.refl _ _, Fr.refl _ _, FIN.out.2.2.mono (by simp)⟩
end Go.Proofs.Ytpbcfkfhkenhpaa

/-
  OWN WORK (by mkrm9.py). RoomSums: a Room, and two lists beside it.
-/
namespace Go.Proofs.Ytpbcfkfhkenhpaa
open Go.RowKit
set_option linter.unusedVariables false
set_option linter.unusedSimpArgs false

def Bi (T : List Tx) : Prop := ∀ t ∈ T, I64 t.b
theorem bi_setU {T : List Tx} {b : Int} (u : List Int) (h : Bi T) (hb : I64 b) : Bi (setU T b u) := fun t ht => by
  obtain ⟨x, hx, rfl⟩ := List.mem_map.1 ht
  split
  · exact hb
  · exact h x hx
theorem bi_beg {T : List Tx} {b : Int} (h : Bi T) (hb : I64 b) : Bi (begT T b) := by
  unfold begT
  split
  · exact h
  · intro t ht
    rcases List.mem_append.1 ht with q | q
    · exact h t q
    · simp at q; subst q; exact hb
theorem bi_upd {T : List Tx} {b n : Int} (h : Bi T) (hb : I64 b) : Bi (updT T b n) := by
  unfold updT
  split
  · exact h
  · split
    · exact bi_setU _ h hb
    · exact h
theorem bi_und {T : List Tx} {b n : Int} (h : Bi T) (hb : I64 b) : Bi (undT T b n) := by
  unfold undT
  split
  · exact h
  · split
    · exact bi_setU _ h hb
    · exact h
theorem bi_drp {T : List Tx} {b : Int} (h : Bi T) : Bi (drpT T b) := fun t ht => h t (List.mem_filter.1 ht).1
structure S0 (Rm : World → Nat → List Nat → Int → List Tx → Prop) (w wr : World) (gP : Nat) (a : Int) (k : Nat) (F : List Nat) (T : List Tx) (vb vk : Value) (lb lk : List Int) : Prop where
  l : Rm wr gP F a T
  b : Ns wr w.heap.size vb lb
  s : Ns wr w.heap.size vk lk
  ap : Ap vb vk
  fb : ∀ x ∈ F, vb.ownBlock ≠ some x
  fk : ∀ x ∈ F, vk.ownBlock ≠ some x
  lo : ∀ x ∈ F, w.heap.size ≤ x
  kp : Kept [] w wr
  sz : szT T ≤ k
  bi : Bi T
theorem S0.then {Rm : World → Nat → List Nat → Int → List Tx → Prop} (O : RmOps Rm) {w wr w' : World} {gP : Nat} {a : Int} {k : Nat} {F : List Nat} {T : List Tx} {vb vk : Value} {lb lk : List Int} (h : S0 Rm w wr gP a k F T vb vk lb lk) (kk : Kept [] wr w') : S0 Rm w w' gP a k F T vb vk lb lk :=
  ⟨O.kept h.l kk (by simp), h.b.kept kk (by simp), h.s.kept kk (by simp), h.ap, h.fb, h.fk, h.lo, h.kp.then kk, h.sz, h.bi⟩
theorem S0.op {Rm : World → Nat → List Nat → Int → List Tx → Prop} (O : RmOps Rm) {w wr w' : World} {gP : Nat} {a : Int} {k : Nat} {F : List Nat} {T : List Tx} {vb vk : Value} {lb lk : List Int} {F' : List Nat} {T' : List Tx} (h : S0 Rm w wr gP a k F T vb vk lb lk) (l : Rm w' gP F' a T') (fr : Fr wr F F') (kk : Kept F wr w') (hs : szT T' ≤ szT T + 1) (hb : Bi T') : S0 Rm w w' gP a (k + 1) F' T' vb vk lb lk := by
  refine ⟨l, h.b.kept kk (fun x hx hm => h.fb x hm hx), h.s.kept kk (fun x hx hm => h.fk x hm hx), h.ap, fun x hx e => ?_, fun x hx e => ?_, fun x hx => ?_, h.kp.trans kk (fun x hx => .inr (h.lo x hx)), by have := h.sz; omega, hb⟩
  · rcases fr x hx with q | q
    · exact h.fb x q e
    · have := (h.b.lt e).2; omega
  · rcases fr x hx with q | q
    · exact h.fk x q e
    · have := (h.s.lt e).2; omega
  · rcases fr x hx with q | q
    · exact h.lo x q
    · have := h.kp.size; omega
theorem S0.setB {Rm : World → Nat → List Nat → Int → List Tx → Prop} (O : RmOps Rm) {w wr w' : World} {gP : Nat} {a : Int} {k : Nat} {F : List Nat} {T : List Tx} {vb vk : Value} {lb lk : List Int} {vb' : Value} {lb' : List Int} (h : S0 Rm w wr gP a k F T vb vk lb lk) (b : Ns w' w.heap.size vb' lb') (kk : Kept vb.ownBlock.toList wr w') (o : vb'.ownBlock = vb.ownBlock ∨ ∀ x, vb'.ownBlock = some x → wr.heap.size ≤ x) : S0 Rm w w' gP a k F T vb' vk lb' lk := by
  refine ⟨O.kept h.l kk (fun x hx hm => h.fb x hx (own_mem.1 hm)), b, h.s.kept kk (fun x hx hm => h.ap x (own_mem.1 hm) hx), fun x hx e => ?_, fun x hx e => ?_, h.fk, h.lo, h.kp.trans kk (fun x hx => .inr (h.b.lt (own_mem.1 hx)).1), h.sz, h.bi⟩
  · rcases o with q | q
    · exact h.ap x (by rw [← q]; exact hx) e
    · have := q x hx; have := (h.s.lt e).2; omega
  · rcases o with q | q
    · exact h.fb x hx (by rw [← q]; exact e)
    · have := q x e; have := O.lt h.l x hx; omega
theorem S0.setK {Rm : World → Nat → List Nat → Int → List Tx → Prop} (O : RmOps Rm) {w wr w' : World} {gP : Nat} {a : Int} {k : Nat} {F : List Nat} {T : List Tx} {vb vk : Value} {lb lk : List Int} {vk' : Value} {lk' : List Int} (h : S0 Rm w wr gP a k F T vb vk lb lk) (s : Ns w' w.heap.size vk' lk') (kk : Kept vk.ownBlock.toList wr w') (o : vk'.ownBlock = vk.ownBlock ∨ ∀ x, vk'.ownBlock = some x → wr.heap.size ≤ x) : S0 Rm w w' gP a k F T vb vk' lb lk' := by
  refine ⟨O.kept h.l kk (fun x hx hm => h.fk x hx (own_mem.1 hm)), h.b.kept kk (fun x hx hm => h.ap x hx (own_mem.1 hm)), s, fun x hx e => ?_, h.fb, fun x hx e => ?_, h.lo, h.kp.trans kk (fun x hx => .inr (h.s.lt (own_mem.1 hx)).1), h.sz, h.bi⟩
  · rcases o with q | q
    · exact h.ap x hx (by rw [← q]; exact e)
    · have := q x e; have := (h.b.lt hx).2; omega
  · rcases o with q | q
    · exact h.fk x hx (by rw [← q]; exact e)
    · have := q x e; have := O.lt h.l x hx; omega
/-- where a birth stands, among the first j -/
def Fnd (l : List Int) (b : Int) (j : Nat) (x : Int) : Prop := (x = -1 ∧ ∀ (i : Nat) y, i < j → l[i]? = some y → y ≠ b) ∨ ∃ i : Nat, x = (i : Int) ∧ i < j ∧ l[i]? = some b
theorem Fnd.start (l : List Int) (b : Int) : Fnd l b 0 (-1) := .inl ⟨rfl, fun i y hi => absurd hi (Nat.not_lt_zero i)⟩
theorem Fnd.hit {l : List Int} {b : Int} {j : Nat} (hj : l[j]? = some b) : Fnd l b (j + 1) (j : Int) := .inr ⟨j, rfl, by omega, hj⟩
theorem Fnd.miss {l : List Int} {b x y : Int} {j : Nat} (h : Fnd l b j x) (hj : l[j]? = some y) (hy : y ≠ b) : Fnd l b (j + 1) x := by
  rcases h with ⟨h1, h2⟩ | ⟨i, h1, h2, h3⟩
  · refine .inl ⟨h1, fun i z hi hz => ?_⟩
    by_cases c : i = j
    · subst c; rw [hj] at hz; cases hz; exact hy
    · exact h2 i z (by omega) hz
  · exact .inr ⟨i, h1, by omega, h3⟩
theorem Fnd.done {T : List Tx} {b x : Int} (ok : OkR T) (h : Fnd (T.map Tx.b) b T.length x) : (x = -1 ∧ findT T b = none) ∨ ∃ (i : Nat) (t : Tx), x = (i : Int) ∧ T[i]? = some t ∧ t.b = b ∧ findT T b = some t := by
  rcases h with ⟨h1, h2⟩ | ⟨i, h1, h2, h3⟩
  · exact .inl ⟨h1, findT_no (fun i y hi hy => h2 i y.b hi (by rw [List.getElem?_map, hy]; rfl))⟩
  · rw [List.getElem?_map] at h3
    obtain ⟨t, ht, e⟩ := Option.map_eq_some_iff.1 h3
    refine .inr ⟨i, t, h1, ht, e, findT_at ht e (fun i' y hi hy => ?_)⟩
    have q1 := List.getElem?_eq_some_iff.1 ht
    have q2 := List.getElem?_eq_some_iff.1 hy
    have := List.pairwise_iff_getElem.1 ok.dif i' i q2.1 q1.1 hi
    rw [q1.2, q2.2, e] at this
    exact this
theorem Ns.set {w : World} {base g n c : Nat} {l : List Int} (h : Ns w base (.slice (some ⟨g, 0, none⟩) n c) l) {k : Nat} (hk : k < l.length) (x : Int) : Ns (w.setCell ⟨g, k, none⟩ (.int .i64 x)) base (.slice (some ⟨g, 0, none⟩) n c) (l.set k x) ∧ Kept [g] w (w.setCell ⟨g, k, none⟩ (.int .i64 x)) := by
  have h' : Row w base 1 (.slice (some ⟨g, 0, none⟩) n c) l.length (i64s l) := h
  obtain ⟨p', c', e, -, -⟩ := Row.shape h'
  cases e
  obtain ⟨r, kk⟩ := h'.set k (by omega) (.int .i64 x) rfl
  refine ⟨?_, kk⟩
  unfold Ns
  rw [List.length_set, show i64s (l.set k x) = (i64s l).set k (.int .i64 x) by simp [i64s, List.map_set]]
  exact r
theorem Row.fronts {w : World} {base sz : Nat} {p : Option Addr} {n c : Nat} {cs : List Value} (h : Row w base sz (.slice p n c) n cs) (i : Nat) (hi : i ≤ n) (hn : 0 < n) : Row w base sz (.slice p i c) i (cs.take (i * sz)) := by
  obtain ⟨g, rfl, h6, h7, h8, h9⟩ := h.pos hn
  obtain ⟨h1, h2, p', c', e, h3, h4, h5⟩ := h
  cases e
  have hm : i * sz ≤ n * sz := Nat.mul_le_mul_right _ hi
  refine ⟨by rw [List.length_take]; omega, fun u hu => h2 u (List.mem_of_mem_take hu), _, c, rfl, by omega, by omega, .inr ⟨g, rfl, h6, h7, fun j u hj => ?_, fun j hj => h9 j (by omega)⟩⟩
  rw [List.getElem?_take] at hj
  split at hj
  · exact h8 j u hj
  · cases hj
theorem map_setU_b {T : List Tx} (b : Int) (u : List Int) : (setU T b u).map Tx.b = T.map Tx.b := by
  unfold setU
  rw [List.map_map]
  apply List.map_congr_left
  intro x hx
  simp only [Function.comp]
  split
  · rename_i h; simp [h]
  · rfl
theorem map_setU_s {T : List Tx} (ok : OkR T) {i : Nat} {t : Tx} (hi : T[i]? = some t) (u : List Int) : (setU T t.b u).map Tx.sum = (T.map Tx.sum).set i (99 + sumU u) := by
  rw [setU_at ok.dif hi, List.map_set]
  rfl
theorem map_drop {T : List Tx} (ok : OkR T) {i : Nat} {t : Tx} (hi : T[i]? = some t) {α : Type} (f : Tx → α) : (dropL T t.b).map f = (T.map f).take i ++ (T.map f).drop (i + 1) := by
  rw [dropL_at ok.dif hi, List.map_append, List.map_take, List.map_drop]
end Go.Proofs.Ytpbcfkfhkenhpaa

/-
  OWN WORK. As Late: the last operation may wait for a read by others between them.
-/
namespace Go.Proofs.Ytpbcfkfhkenhpaa
open Go.RowKit
set_option linter.unusedVariables false

section
variable {P : Program} {ops : Array Oper} {Q : Exit → Act → World → Prop} {md : Region.Mode} {S : World → Prop} {z : Nat}
/-- each of C waits for number i, or for another of C -/
def guards (md : Region.Mode) (ops : Array Oper) (C : List Nat) (i : Nat) : Bool := C.all fun j => match ops[j]? with
  | some o => o.after.any fun e => Region.binds md e && (e.on == i || C.contains e.on)
  | none => false
theorem guards_ready {C : List Nat} {i j : Nat} {listed : Array Bool} (h : guards md ops C i = true) (hi : listed.getD i false = false) (hC : ∀ k ∈ C, listed.getD k false = false) (hj : j ∈ Region.ready md ops listed) : j ∉ C := fun hm => by
  obtain ⟨-, o, ho, hall⟩ := mem_ready.1 hj
  have q := List.all_eq_true.1 h j hm
  rw [ho] at q
  obtain ⟨k, hk, he⟩ := Array.any_eq_true.1 q
  simp at he
  have := hall (o.after[k]) (Array.getElem_mem hk) he.1
  rcases he.2 with e | e
  · rw [e, hi] at this; cases this
  · rw [hC _ e] at this; cases this
theorem wpAnyZ_firstC {i : Nat} {oi : Oper} {v : Value} {C : List Nat} (hi : ops[i]? = some oi) (hsel : ∀ (j : Nat) (o : Oper) cs b, ops[j]? = some o → o.op ≠ .select cs b)
    (hQ : ∀ c a w, Q (.panic c) (a.put oi.dst v) w → Q (.panic c) a w) (hg : guards md ops C i = true) (hz : z ∈ C) :
    ∀ (n : Nat) (listed : Array Bool) (a : Act) (w : World),
      (∀ k ∈ C, listed.getD k false = false) →
      (∀ j oj, ops[j]? = some oj → j ≠ i → listed.getD j true = false → (∀ e ∈ oj.after, Region.binds md e = true → e.on ≠ i) → oi.apart ops oj = true) →
      i ∈ Region.ready md ops listed → YieldsIf P ops S oi v a → S w →
      wpAnyZ P md ops Q S z n (listed.setIfInBounds i true) (a.put oi.dst v) w → wpAnyZ P md ops Q S z (n + 1) listed a w := by
  intro n
  induction n with
  | zero =>
    intro listed a w _ _ hr hy hS H
    refine ⟨fun h => (by rw [h] at hr; cases hr), fun j hj => ?_⟩
    by_cases e : j = i
    · subst e; exact hy.wpOp hi hS ⟨fun _ => hS, H⟩
    · have := ready_mono hj e
      rw [H.1] at this
      cases this
  | succ n ih =>
    intro listed a w hC hfree hr hy hS H
    have hun := (mem_ready.1 hr).1
    have hunf : listed.getD i false = false := by
      rcases Nat.lt_or_ge i listed.size with c | c
      · simp [c] at hun ⊢; exact hun
      · simp [c]
    refine ⟨fun h => (by rw [h] at hr; cases hr), fun j hj => ?_⟩
    by_cases e : j = i
    · subst e; exact hy.wpOp hi hS ⟨fun _ => hS, H⟩
    · have hjC := guards_ready hg hunf hC hj
      have hjz : j ≠ z := fun c => hjC (c ▸ hz)
      obtain ⟨hju, oj, hoj, hall⟩ := mem_ready.1 hj
      have hno : ∀ e ∈ oj.after, Region.binds md e = true → e.on ≠ i := fun e he hb c => by
        have := hall e he hb
        rw [c, hunf] at this
        cases this
      have h2 := wpOp_putIf hoj (hfree j oj hoj e hju hno) (fun cs b => hsel i oi cs b hi) (fun cs b => hsel j oj cs b hoj) hQ hy (H.2 j (ready_mono hj e))
      have hfree2 : ∀ k ok, ops[k]? = some ok → k ≠ i → (listed.setIfInBounds j true).getD k true = false → (∀ e ∈ ok.after, Region.binds md e = true → e.on ≠ i) → oi.apart ops ok = true := fun k ok hk hki hkj hnk => by
        by_cases c : j = k
        · subst c; exact hfree j ok hk hki hju hnk
        · exact hfree k ok hk hki (by rwa [getD_set_ne true c] at hkj) hnk
      have hC2 : ∀ k ∈ C, (listed.setIfInBounds j true).getD k false = false := fun k hk => by
        have hne : j ≠ k := fun c => hjC (by rw [c]; exact hk)
        rw [getD_set_ne false hne]
        exact hC k hk
      refine wpOp_mono (fun a' w' h3 => ⟨h3.2.1, ih (listed.setIfInBounds j true) a' w' hC2 hfree2 (ready_mono hr (Ne.symm e)) h3.1 (h3.2.1 hjz) ?_⟩) h2
      rw [Array.setIfInBounds_comm _ _ e]
      exact h3.2.2
/-- take number i first -/
theorem wpAnyZ_takeC (i : Nat) (C : List Nat) {oi : Oper} {v : Value} {n : Nat} {listed : Array Bool} {a : Act} {w : World} (hi : ops[i]? = some oi)
    (hs : Region.noSelect ops = true) (hg : guards md ops C i = true) (hz : C.contains z = true) (hl : C.all (fun k => !listed.getD k false) = true) (hf : Region.free md ops listed i = true) (hr : (Region.ready md ops listed).contains i = true)
    (hQ : ∀ c a w, Q (.panic c) (a.put oi.dst v) w → Q (.panic c) a w) (hw : Region.wanted oi (yielded ops a.tmps) = true) (hy : ∀ w, S w → (execOp a.eval oi).run P w = .ok (.value v) w) (hS : S w)
    (h : wpAnyZ P md ops Q S z n (listed.setIfInBounds i true) (a.put oi.dst v) w) : wpAnyZ P md ops Q S z (n + 1) listed a w :=
  wpAnyZ_firstC hi (Region.noSelect_spec hs) hQ hg (by simpa using hz) n listed a w (fun k hk => by simpa using List.all_eq_true.1 hl k hk) (Region.free_spec hi hf) (by simpa using hr) (.inl ⟨hw, hy⟩) hS h
end
end Go.Proofs.Ytpbcfkfhkenhpaa

/-
  OWN WORK. As Late: two operations that may come up; reads taken behind the last one.
-/
namespace Go.Proofs.Ytpbcfkfhkenhpaa
open Go.RowKit
set_option linter.unusedVariables false

section
variable {P : Program} {ops : Array Oper} {Q : Exit → Act → World → Prop} {md : Region.Mode} {S : World → Prop} {z : Nat}
theorem wpAnyZ_firstD {i : Nat} {oi : Oper} {v : Value} (hi : ops[i]? = some oi) (hsel : ∀ (j : Nat) (o : Oper) cs b, ops[j]? = some o → o.op ≠ .select cs b)
    (hQ : ∀ c a w, Q (.panic c) (a.put oi.dst v) w → Q (.panic c) a w) :
    ∀ (n : Nat) (listed : Array Bool) (a : Act) (w : World),
      listed.getD z true = true →
      (∀ j oj, ops[j]? = some oj → j ≠ i → listed.getD j true = false → (∀ e ∈ oj.after, Region.binds md e = true → e.on ≠ i) → oi.apart ops oj = true) →
      i ∈ Region.ready md ops listed → YieldsIf P ops S oi v a → S w →
      wpAnyZ P md ops Q S z n (listed.setIfInBounds i true) (a.put oi.dst v) w → wpAnyZ P md ops Q S z (n + 1) listed a w := by
  intro n
  induction n with
  | zero =>
    intro listed a w _ _ hr hy hS H
    refine ⟨fun h => (by rw [h] at hr; cases hr), fun j hj => ?_⟩
    by_cases e : j = i
    · subst e; exact hy.wpOp hi hS ⟨fun _ => hS, H⟩
    · have := ready_mono hj e
      rw [H.1] at this
      cases this
  | succ n ih =>
    intro listed a w hz hfree hr hy hS H
    have hun := (mem_ready.1 hr).1
    have hunf : listed.getD i false = false := by
      rcases Nat.lt_or_ge i listed.size with c | c
      · simp [c] at hun ⊢; exact hun
      · simp [c]
    refine ⟨fun h => (by rw [h] at hr; cases hr), fun j hj => ?_⟩
    by_cases e : j = i
    · subst e; exact hy.wpOp hi hS ⟨fun _ => hS, H⟩
    · obtain ⟨hju, oj, hoj, hall⟩ := mem_ready.1 hj
      have hjz : j ≠ z := fun c => by rw [c, hz] at hju; cases hju
      have hno : ∀ e ∈ oj.after, Region.binds md e = true → e.on ≠ i := fun e he hb c => by
        have := hall e he hb
        rw [c, hunf] at this
        cases this
      have h2 := wpOp_putIf hoj (hfree j oj hoj e hju hno) (fun cs b => hsel i oi cs b hi) (fun cs b => hsel j oj cs b hoj) hQ hy (H.2 j (ready_mono hj e))
      have hfree2 : ∀ k ok, ops[k]? = some ok → k ≠ i → (listed.setIfInBounds j true).getD k true = false → (∀ e ∈ ok.after, Region.binds md e = true → e.on ≠ i) → oi.apart ops ok = true := fun k ok hk hki hkj hnk => by
        by_cases c : j = k
        · subst c; exact hfree j ok hk hki hju hnk
        · exact hfree k ok hk hki (by rwa [getD_set_ne true c] at hkj) hnk
      refine wpOp_mono (fun a' w' h3 => ⟨h3.2.1, ih (listed.setIfInBounds j true) a' w' (by rw [getD_set_ne true hjz]; exact hz) hfree2 (ready_mono hr (Ne.symm e)) h3.1 (h3.2.1 hjz) ?_⟩) h2
      rw [Array.setIfInBounds_comm _ _ e]
      exact h3.2.2
/-- take number i first, where z is done -/
theorem wpAnyZ_takeD (i : Nat) {oi : Oper} {v : Value} {n : Nat} {listed : Array Bool} {a : Act} {w : World} (hi : ops[i]? = some oi)
    (hs : Region.noSelect ops = true) (hz : listed.getD z true = true) (hf : Region.free md ops listed i = true) (hr : (Region.ready md ops listed).contains i = true)
    (hQ : ∀ c a w, Q (.panic c) (a.put oi.dst v) w → Q (.panic c) a w) (hw : Region.wanted oi (yielded ops a.tmps) = true) (hy : ∀ w, S w → (execOp a.eval oi).run P w = .ok (.value v) w) (hS : S w)
    (h : wpAnyZ P md ops Q S z n (listed.setIfInBounds i true) (a.put oi.dst v) w) : wpAnyZ P md ops Q S z (n + 1) listed a w :=
  wpAnyZ_firstD hi (Region.noSelect_spec hs) hQ n listed a w hz (Region.free_spec hi hf) (by simpa using hr) (.inl ⟨hw, hy⟩) hS h
/-- only numbers i and j may come up -/
theorem wpAnyZ_two (i j : Nat) {oi oj : Oper} {n : Nat} {listed : Array Bool} {a : Act} {w : World} (hi : ops[i]? = some oi) (hj : ops[j]? = some oj) (hr : Region.ready md ops listed = [i, j])
    (h1 : ∀ K : Act → World → Prop, (∀ a' w', (i ≠ z → S w') → wpAnyZ P md ops Q S z n (listed.setIfInBounds i true) a' w' → K a' w') → if Region.wanted oi (yielded ops a.tmps) = true then Oper.wp P oi a w K Q else K (a.put oi.dst undef) w)
    (h2 : ∀ K : Act → World → Prop, (∀ a' w', (j ≠ z → S w') → wpAnyZ P md ops Q S z n (listed.setIfInBounds j true) a' w' → K a' w') → if Region.wanted oj (yielded ops a.tmps) = true then Oper.wp P oj a w K Q else K (a.put oj.dst undef) w) : wpAnyZ P md ops Q S z (n + 1) listed a w := by
  refine ⟨fun c => absurd (hr.symm.trans c) (by simp), fun k hk => ?_⟩
  rw [hr] at hk
  simp at hk
  rcases hk with rfl | rfl
  · exact wpOp_step hi fun K hK => h1 K fun a' w' q1 q2 => hK a' w' ⟨q1, q2⟩
  · exact wpOp_step hj fun K hK => h2 K fun a' w' q1 q2 => hK a' w' ⟨q1, q2⟩
end
end Go.Proofs.Ytpbcfkfhkenhpaa

