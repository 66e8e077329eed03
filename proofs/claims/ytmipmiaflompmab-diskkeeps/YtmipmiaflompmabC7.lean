import Derived.Test.YtmipmiaflompmabRows
import Derived.Deep.Slices
import Derived.Test.YtmipmiaflompmabC6
/-
  OWN WORK. The laws of disk: stands.
-/
namespace Go.Proofs.Ytmipmiaflompmab
open Go.RowKit
set_option linter.unusedVariables false

theorem QD.fields {w : World} {v : Value} {d : DS} {F : List Nat} (h : QD w v d F) : ∃ g, v = .pointer (some ⟨g, 0, none⟩) ∧ w.cell? ⟨g, 0, none⟩ = some (.int .i64 (d.np : Int)) ∧ w.cell? ⟨g, 1, none⟩ = some (.int .i64 (d.ns : Int)) ∧ w.cell? ⟨g, 2, none⟩ = some (.int .i64 (d.lm : Int)) ∧ (∃ p c, w.cell? ⟨g, 9, none⟩ = some (.slice p d.log.length c)) ∧ w.cell? ⟨g, 11, none⟩ = some (.int .i64 d.acts) ∧ w.cell? ⟨g, 13, none⟩ = some (.bool d.dead) := by
  obtain ⟨g, R, e, h, -⟩ := h
  obtain ⟨p, c, el, -⟩ := h.shapes
  have c9 := h.blk.cell (j := 9) rfl
  rw [el] at c9
  exact ⟨g, e, h.blk.cell (j := 0) rfl, h.blk.cell (j := 1) rfl, h.blk.cell (j := 2) rfl, ⟨p, c, c9⟩, h.blk.cell (j := 11) rfl, h.blk.cell (j := 13) rfl⟩
theorem OwnIm.see {w : World} {b : Nat} {V : IV} {m : IM} (h : OwnIm w b V m) : SeeIm w V m := by
  have hl := h.len
  have at' : ∀ (i : Nat) v l, V.rows[i]? = some v → m.all[i]? = some l → Bs w v l := fun i v l hv hl => Bs.ofOwn (h.fam.own i v l hv hl)
  refine ⟨?_, hl, fun i v l hv hll => ?_, at' 1 _ _ rfl rfl, at' 0 _ _ rfl rfl, ?_, ?_⟩
  · rcases h.row.2 with ⟨e, e0⟩ | ⟨g, cap, cur, e, -, h2, h3, h4, -, h5⟩
    · exact ⟨none, 0, by rw [e, e0], by omega, by unfold maxLen; omega, fun a ha => (by cases ha), fun _ => e0⟩
    · refine ⟨some ⟨g, 0, none⟩, cap, e, h3, h4, fun a ha i v hv => ?_, fun hn => (by cases hn)⟩
      cases ha
      rw [add_none rfl]
      have hi := (List.getElem?_eq_some_iff.1 hv).1
      have hc : cur[i]? = some v := by
        have : (cur.toList.take (V.pv.length * 1))[i]? = some v := by rw [h5]; exact hv
        rw [List.getElem?_take, if_pos (by omega)] at this
        simpa using this
      simp [World.cell?, h2, hc]
  · have hi := (List.getElem?_eq_some_iff.1 hv).1
    refine at' (i + 2) v l ?_ ?_
    · show (V.pv ++ [V.m0, V.m1])[i]? = some v
      rw [List.getElem?_append_left hi]; exact hv
    · show (m.ps ++ [m.m0, m.m1])[i]? = some l
      rw [List.getElem?_append_left (by omega)]; exact hll
  · refine at' (V.pv.length + 2) _ _ ?_ ?_
    · show (V.pv ++ [V.m0, V.m1])[V.pv.length]? = some V.m0
      simp
    · show (m.ps ++ [m.m0, m.m1])[V.pv.length]? = some m.m0
      rw [hl]; simp
  · refine at' (V.pv.length + 3) _ _ ?_ ?_
    · show (V.pv ++ [V.m0, V.m1])[V.pv.length + 1]? = some V.m1
      simp
    · show (m.ps ++ [m.m0, m.m1])[V.pv.length + 1]? = some m.m1
      rw [hl]; simp
set_option maxHeartbeats 6400000 in
theorem stands_any (base g k : Nat) (vD vR : Value) (E : List Ent) (e : Ent) (w : World) (h : Book base w g vD vR E) (hi : E[k]? = some e) :
    Calls Try.prog 18 #[.pointer (some ⟨g, 0, none⟩), .int .i64 (k : Int)] w fun r w' => r = .returned (.bool true) ∧ Kept [] w w' := by
  obtain ⟨bD, cD, bR, cR, rfl, rfl, d0, r0, g0, g1⟩ := h.at hi
  obtain ⟨v, u, d, F⟩ := e
  obtain ⟨A, B, hp, hq, -, -⟩ := h.both _ (List.mem_of_getElem? hi)
  simp only at hp hq d0 r0
  obtain ⟨gv, rfl⟩ := hp.ptr
  obtain ⟨gu, e1, f0, f1, f2, ⟨p9, q9, f9⟩, f11, f13⟩ := hq.fields
  subst e1
  have hkl : k < E.length := (List.getElem?_eq_some_iff.1 hi).1
  have hkl' : (k : Int) < (E.length : Int) := by omega
  have hk0 : (0 : Int) ≤ (k : Int) := by omega
  have HP : Hid (PF w (.pointer (some ⟨gv, 0, none⟩)) d A) := hp
  have HQ : Hid (QD w (.pointer (some ⟨gu, 0, none⟩)) d B) := hq
  clear hp hq hi h
  go_enter Try.func18, Try.ntmps18
  go_wp2
  go_region_held3 (fun w' => w'.cell? ⟨g, 0, none⟩ = some (.slice (some ⟨bD, 0, none⟩) E.length cD) ∧ w'.cell? ⟨g, 1, none⟩ = some (.slice (some ⟨bR, 0, none⟩) E.length cR) ∧ w'.cell? ⟨bD, k, none⟩ = some (.pointer (some ⟨gv, 0, none⟩)) ∧ w'.cell? ⟨bR, k, none⟩ = some (.pointer (some ⟨gu, 0, none⟩)))
    (first | (exact ⟨g0, g1, d0, r0⟩) | go_keep) (fail)
  clear g0 g1 d0 r0
  go_wp2_with fail
  refine (fImage _ d A _ (HP.out.kept (Kept.refl [] w).drew (by simp))).mono ?_
  rintro e w1 ⟨V1, rfl, hV1, k1⟩
  go_wp2_with fail
  refine (fLasts _ d A _ ((HP.out.kept (Kept.refl [] w).drew (by simp)).kept k1 (by simp))).mono ?_
  rintro e w2 ⟨V2, rfl, hV2, k2⟩
  obtain ⟨vp1, pv1, pair1, log1, m01, m11⟩ := V1
  obtain ⟨u0, v0, u1, v1, u2, v2, u3, v3, u4, v4, x0, x1, x2, x3, x4⟩ := hV1.shapes
  simp only at x0 x1 x2 x3 x4
  subst x0 x1 x2 x3 x4
  obtain ⟨vp2, pv2, pair2, log2, m02, m12⟩ := V2
  obtain ⟨a0, b0, a1, b1, a2, b2, a3, b3, a4, b4, y0, y1, y2, y3, y4⟩ := hV2.shapes
  simp only at y0 y1 y2 y3 y4
  subst y0 y1 y2 y3 y4
  unfold IV.agg
  dsimp only
  go_wp2_with fail
  obtain ⟨w4, hw4⟩ : ∃ w4, w4 = (w2.alloc (.cells #[.slice u0 pv1.length v0, .slice u1 d.image.pair.length v1, .slice u2 d.image.log.length v2, .slice u3 d.image.m0.length v3, .slice u4 d.image.m1.length v4] 28)).alloc (.cells #[.slice a0 pv2.length b0, .slice a1 d.lasts.pair.length b1, .slice a2 d.lasts.log.length b2, .slice a3 d.lasts.m0.length b3, .slice a4 d.lasts.m1.length b4] 28) := ⟨_, rfl⟩
  have k4 : Kept [] w2 w4 := by rw [hw4]; exact ((Kept.refl [] w2).alloc _).alloc _
  have kw : Kept [] w w4 := (((Kept.refl [] w).drew.then k1).then k2).then k4
  have bV : Blk w4 w2.heap.size 28 [.slice u0 pv1.length v0, .slice u1 d.image.pair.length v1, .slice u2 d.image.log.length v2, .slice u3 d.image.m0.length v3, .slice u4 d.image.m1.length v4] := by
    rw [hw4]
    exact (Blk.new w2 _ _).kept ((Kept.refl [] _).alloc _) (by simp)
  have bU : Blk w4 (w2.heap.size + 1) 28 [.slice a0 pv2.length b0, .slice a1 d.lasts.pair.length b1, .slice a2 d.lasts.log.length b2, .slice a3 d.lasts.m0.length b3, .slice a4 d.lasts.m1.length b4] := by
    rw [hw4]
    have := Blk.new (w2.alloc (.cells #[.slice u0 pv1.length v0, .slice u1 d.image.pair.length v1, .slice u2 d.image.log.length v2, .slice u3 d.image.m0.length v3, .slice u4 d.image.m1.length v4] 28)) 28 [.slice a0 pv2.length b0, .slice a1 d.lasts.pair.length b1, .slice a2 d.lasts.log.length b2, .slice a3 d.lasts.m0.length b3, .slice a4 d.lasts.m1.length b4]
    rwa [World.size_alloc] at this
  obtain ⟨⟨i0, i1, i2, i3, i4⟩, -⟩ := bV.five
  obtain ⟨⟨j0, j1, j2, j3, j4⟩, -⟩ := bU.five
  have x0 := kw.cell f0 (by simp)
  have x1 := kw.cell f1 (by simp)
  have x2 := kw.cell f2 (by simp)
  have x9 := kw.cell f9 (by simp)
  have x11 := kw.cell f11 (by simp)
  have x13 := kw.cell f13 (by simp)
  have P4 : Hid (PF w4 (.pointer (some ⟨gv, 0, none⟩)) d A) := HP.out.kept kw (by simp)
  have Q4 : Hid (QD w4 (.pointer (some ⟨gu, 0, none⟩)) d B) := HQ.out.kept kw (by simp)
  have S1 : Hid (SeeIm w4 ⟨.slice u0 pv1.length v0, pv1, .slice u1 d.image.pair.length v1, .slice u2 d.image.log.length v2, .slice u3 d.image.m0.length v3, .slice u4 d.image.m1.length v4⟩ d.image) := (hV1.see.kept k2).kept k4
  have S2 : Hid (SeeIm w4 ⟨.slice a0 pv2.length b0, pv2, .slice a1 d.lasts.pair.length b1, .slice a2 d.lasts.log.length b2, .slice a3 d.lasts.m0.length b3, .slice a4 d.lasts.m1.length b4⟩ d.lasts) := hV2.see.kept k4
  have KW : Hid (Kept [] w w4) := kw
  have kk : Kept [] w4 w4.drew := (Kept.refl [] w4).drew
  rw [← hw4]
  clear hV1 hV2 k1 k2 k4 bV bU f0 f1 f2 f9 f11 f13 HP HQ hw4 kw hkl hkl' hk0
  generalize w2.heap.size = z2 at *
  have tok : True := trivial
  go_region_held3 (fun w' => w'.cell? ⟨gu, 0, none⟩ = some (.int .i64 (d.np : Int)) ∧ w'.cell? ⟨gu, 1, none⟩ = some (.int .i64 (d.ns : Int)) ∧ w'.cell? ⟨gu, 2, none⟩ = some (.int .i64 (d.lm : Int)) ∧ w'.cell? ⟨gu, 9, none⟩ = some (.slice p9 d.log.length q9) ∧ w'.cell? ⟨gu, 11, none⟩ = some (.int .i64 d.acts) ∧ w'.cell? ⟨gu, 13, none⟩ = some (.bool d.dead) ∧ w'.cell? ⟨z2, 0, none⟩ = some (.slice u0 pv1.length v0) ∧ w'.cell? ⟨z2, 1, none⟩ = some (.slice u1 d.image.pair.length v1) ∧ w'.cell? ⟨z2, 2, none⟩ = some (.slice u2 d.image.log.length v2) ∧ w'.cell? ⟨z2, 3, none⟩ = some (.slice u3 d.image.m0.length v3) ∧ w'.cell? ⟨z2, 4, none⟩ = some (.slice u4 d.image.m1.length v4) ∧ w'.cell? ⟨z2 + 1, 0, none⟩ = some (.slice a0 pv2.length b0) ∧ w'.cell? ⟨z2 + 1, 1, none⟩ = some (.slice a1 d.lasts.pair.length b1) ∧ w'.cell? ⟨z2 + 1, 2, none⟩ = some (.slice a2 d.lasts.log.length b2) ∧ w'.cell? ⟨z2 + 1, 3, none⟩ = some (.slice a3 d.lasts.m0.length b3) ∧ w'.cell? ⟨z2 + 1, 4, none⟩ = some (.slice a4 d.lasts.m1.length b4))
    (first
      | (with_reducible exact ⟨kk.cell x0 (by simp), kk.cell x1 (by simp), kk.cell x2 (by simp), kk.cell x9 (by simp), kk.cell x11 (by simp), kk.cell x13 (by simp), kk.cell i0 (by simp), kk.cell i1 (by simp), kk.cell i2 (by simp), kk.cell i3 (by simp), kk.cell i4 (by simp), kk.cell j0 (by simp), kk.cell j1 (by simp), kk.cell j2 (by simp), kk.cell j3 (by simp), kk.cell j4 (by simp)⟩)
      | fail)
    (first
      | (go_at_call 23; refine (fActs _ d A _ (P4.out.kept kk (by simp))).mono ?_; rintro e w5 ⟨rfl, kn⟩; replace kk := kk.then kn; clear kn)
      | (go_at_call 52; refine (fDead _ d A _ (P4.out.kept kk (by simp))).mono ?_; rintro e w6 ⟨rfl, kn⟩; replace kk := kk.then kn; clear kn)
      | (go_at_call 24; refine (fLogLen _ d A _ (P4.out.kept kk (by simp))).mono ?_; rintro e w7 ⟨rfl, kn⟩; replace kk := kk.then kn; clear kn)
      | (go_at_call 53; refine (fShape _ d A _ (P4.out.kept kk (by simp))).mono ?_; rintro e w8 ⟨rfl, kn⟩; replace kk := kk.then kn; clear kn)
      | (go_at_call 55; refine (qImage _ d B _ (Q4.out.kept kk (by simp))).mono ?_; rintro e w9 ⟨V3, rfl, hV3, kn⟩; replace kk := kk.then kn; clear kn)
      | (go_at_call 40; refine (qLasts _ d B _ (Q4.out.kept kk (by simp))).mono ?_; rintro e w10 ⟨V4, rfl, hV4, kn⟩; replace kk := kk.then kn; clear kn)
      | (go_at_call 54; clear tok; refine (sameImages_eq ⟨.slice u0 pv1.length v0, pv1, .slice u1 d.image.pair.length v1, .slice u2 d.image.log.length v2, .slice u3 d.image.m0.length v3, .slice u4 d.image.m1.length v4⟩ V3 d.image _ (by exact S1.out.kept kk) (by exact hV3.see)).mono ?_; rintro e w11 ⟨rfl, kn⟩; replace kk := kk.then kn; clear kn)
      | (go_at_call 54; refine (sameImages_eq ⟨.slice a0 pv2.length b0, pv2, .slice a1 d.lasts.pair.length b1, .slice a2 d.lasts.log.length b2, .slice a3 d.lasts.m0.length b3, .slice a4 d.lasts.m1.length b4⟩ V4 d.lasts _ (by exact S2.out.kept kk) (by exact hV4.see)).mono ?_; rintro e w12 ⟨rfl, kn⟩; replace kk := kk.then kn; clear kn)
      | fail)
  have kf := KW.out.then kk
  clear S1 S2 P4 Q4 kk
  go_wp2
  go_ret
  exact ⟨by simp, kf⟩
end Go.Proofs.Ytmipmiaflompmab

/-
  OWN WORK. The laws of disk: what lies below a base stays; one call more on a book, in plain words.
-/
namespace Go.Proofs.Ytmipmiaflompmab
open Go.RowKit
set_option linter.unusedVariables false

/-- all that lies below base is as it was -/
def Past (base : Nat) (w w' : World) : Prop := ∃ S, Kept S w w' ∧ ∀ x ∈ S, base ≤ x
theorem Past.of {base : Nat} {w w' : World} {S : List Nat} (k : Kept S w w') (h : ∀ x ∈ S, base ≤ x) : Past base w w' := ⟨S, k, h⟩
theorem Past.kept {base : Nat} {w w' : World} (k : Kept [] w w') : Past base w w' := ⟨[], k, by simp⟩
theorem Past.trans {base : Nat} {a b c : World} (h : Past base a b) (k : Past base b c) : Past base a c := by
  obtain ⟨S, h1, h2⟩ := h
  obtain ⟨T, k1, k2⟩ := k
  exact ⟨S ++ T, (h1.mono (by simp +contextual)).trans k1 (fun x hx => .inl (by simp [hx])), fun x hx => by rcases List.mem_append.1 hx with c | c; exact h2 x c; exact k2 x c⟩
theorem Past.size {base : Nat} {a b : World} (h : Past base a b) : a.heap.size ≤ b.heap.size := by
  obtain ⟨S, k, -⟩ := h
  exact k.size
theorem Past.all {w w' : World} (h : Past w.heap.size w w') : Kept [] w w' := by
  obtain ⟨S, k, hS⟩ := h
  exact ⟨k.os, k.tape, k.output, k.size, fun x hx _ => k.block x hx fun hm => by have := hS x hm; omega⟩
theorem Bs.past {base : Nat} {w w' : World} {v : Value} {l : List UInt8} (h : Bs w v l) (k : Past base w w') (hb : l ≠ [] → ∀ x, v.ownBlock = some x → x < base) : Bs w' v l := by
  obtain ⟨S, k, hS⟩ := k
  exact h.keptNe k fun h0 x hx hm => by have := hb h0 x hx; have := hS x hm; omega
theorem Is.past {base : Nat} {w w' : World} {v : Value} {l : List Int} (h : Is w v l) (k : Past base w w') (hb : l ≠ [] → ∀ x, v.ownBlock = some x → x < base) : Is w' v l := by
  obtain ⟨S, k, hS⟩ := k
  by_cases hl : l = []
  · subst hl
    obtain ⟨p, c, e, h1, h2, h3, h5, -⟩ := h
    exact ⟨p, c, e, h1, h2, h3, h5, fun a _ i x hx => by simp at hx⟩
  · exact h.keptOwn k fun x hx hm => by have := hb hl x hx; have := hS x hm; omega
/-- each disk of the book has at most M loose writes -/
def Few (M : Nat) (E : List Ent) : Prop := ∀ e ∈ E, e.d.loose.length ≤ M
theorem Few.mono {M N : Nat} {E : List Ent} (h : Few M E) (hm : M ≤ N) : Few N E := fun e he => Nat.le_trans (h e he) hm
theorem Few.set {M : Nat} {E : List Ent} {i : Nat} {e : Ent} (h : Few M E) (he : e.d.loose.length ≤ M) : Few M (E.set i e) := fun a ha => by
  obtain ⟨j, hj⟩ := List.getElem?_of_mem ha
  rw [List.getElem?_set] at hj
  split at hj
  · split at hj
    · cases hj; exact he
    · cases hj
  · exact h a (List.mem_of_getElem? hj)
theorem Few.push {M : Nat} {E : List Ent} {e : Ent} (h : Few M E) (he : e.d.loose.length ≤ M) : Few M (E ++ [e]) := fun a ha => by
  rcases List.mem_append.1 ha with c | c
  · exact h a c
  · simp at c; subst c; exact he
theorem wD_loose (d : DS) (k n : Int) (b : List UInt8) : (wD d k n b).loose.length ≤ d.loose.length + 1 := by
  have ha := d.act_loose
  have hwr : ∀ ix, (d.write ix b).loose.length ≤ d.loose.length + 1 := fun ix => by
    unfold DS.write
    split
    · rw [ha]; omega
    · split
      · simp
      · rw [ha]; omega
  have hsy : ∀ m, (d.sync m).loose.length ≤ d.loose.length + 1 := fun m => by
    unfold DS.sync
    split
    · have := List.length_filter_le (fun x : Nat × List UInt8 => !(isMaster d.np x.1 == m)) d.loose
      show (d.loose.filter _).length ≤ _
      omega
    · rw [ha]; omega
  unfold wD
  split
  · exact hwr _
  split
  · exact hwr _
  split
  · exact hwr _
  split
  · exact hsy _
  split
  · exact hsy _
  split
  · unfold DS.append
    split
    · show d.act.loose.length ≤ _
      rw [ha]; omega
    · rw [ha]; omega
  split
  · unfold DS.syncLog
    split
    · show d.act.loose.length ≤ _
      rw [ha]; omega
    · rw [ha]; omega
  split
  · unfold DS.cut
    split
    · show d.act.loose.length ≤ _
      rw [ha]; omega
    · rw [ha]; omega
  · omega
theorem rD_loose (d : DS) (k : Int) : (rD d k).loose.length = d.loose.length := by
  unfold rD
  split
  · rw [d.act_loose]
  · rfl
theorem halts_loose (d : DS) (n : Int) : (d.halts n).loose.length = d.loose.length := by
  unfold DS.halts
  split <;> rfl
/-- all disks of the book have that shape -/
def Shp (a b c : Int) (E : List Ent) : Prop := ∀ e ∈ E, (e.d.np : Int) = a ∧ (e.d.ns : Int) = b ∧ (e.d.lm : Int) = c
/-- the same shape -/
def SameShape (d d' : DS) : Prop := d'.np = d.np ∧ d'.ns = d.ns ∧ d'.lm = d.lm
theorem SameShape.trans {a b c : DS} (h : SameShape a b) (k : SameShape b c) : SameShape a c := ⟨k.1.trans h.1, k.2.1.trans h.2.1, k.2.2.trans h.2.2⟩
theorem Shp.set {a b c : Int} {E : List Ent} {i : Nat} {e e' : Ent} (h : Shp a b c E) (hi : E[i]? = some e) (hd : SameShape e.d e'.d) : Shp a b c (E.set i e') := fun x hx => by
  obtain ⟨j, hj⟩ := List.getElem?_of_mem hx
  rw [List.getElem?_set] at hj
  have h0 := h e (List.mem_of_getElem? hi)
  split at hj
  · split at hj
    · cases hj
      rw [hd.1, hd.2.1, hd.2.2]
      exact h0
    · cases hj
  · exact h x (List.mem_of_getElem? hj)
theorem Shp.push {a b c : Int} {E : List Ent} {i : Nat} {e e' : Ent} (h : Shp a b c E) (hi : E[i]? = some e) (hd : SameShape e.d e'.d) : Shp a b c (E ++ [e']) := fun x hx => by
  rcases List.mem_append.1 hx with q | q
  · exact h x q
  · simp at q
    subst q
    rw [hd.1, hd.2.1, hd.2.2]
    exact h e (List.mem_of_getElem? hi)
theorem act_shape (d : DS) : SameShape d d.act := ⟨d.act_np, d.act_ns, d.act_lm⟩
theorem write_shape (d : DS) (ix : Option Nat) (b : List UInt8) : SameShape d (d.write ix b) := by
  unfold DS.write
  split
  · exact act_shape d
  · split
    · exact act_shape d
    · exact act_shape d
theorem sync_shape (d : DS) (m : Bool) : SameShape d (d.sync m) := by
  unfold DS.sync
  split
  · exact act_shape d
  · exact act_shape d
theorem append_shape (d : DS) (b : List UInt8) : SameShape d (d.append b) := by
  unfold DS.append
  split
  · exact act_shape d
  · exact act_shape d
theorem syncLog_shape (d : DS) : SameShape d d.syncLog := by
  unfold DS.syncLog
  split
  · exact act_shape d
  · exact act_shape d
theorem cut_shape (d : DS) (n : Int) : SameShape d (d.cut n) := by
  unfold DS.cut
  split
  · exact act_shape d
  · exact act_shape d
theorem halts_shape (d : DS) (n : Int) : SameShape d (d.halts n) := by
  unfold DS.halts
  split
  · exact ⟨rfl, rfl, rfl⟩
  · exact ⟨rfl, rfl, rfl⟩
set_option maxHeartbeats 1000000 in
theorem wD_shape (d : DS) (k n : Int) (b : List UInt8) : SameShape d (wD d k n b) := by
  unfold wD
  by_cases h1 : k = 1
  · rw [if_pos h1]; exact write_shape _ _ _
  rw [if_neg h1]
  by_cases h3 : k = 3
  · rw [if_pos h3]; exact write_shape _ _ _
  rw [if_neg h3]
  by_cases h10 : k = 10
  · rw [if_pos h10]; exact write_shape _ _ _
  rw [if_neg h10]
  by_cases h4 : k = 4
  · rw [if_pos h4]; exact sync_shape _ _
  rw [if_neg h4]
  by_cases h11 : k = 11
  · rw [if_pos h11]; exact sync_shape _ _
  rw [if_neg h11]
  by_cases h6 : k = 6
  · rw [if_pos h6]; exact append_shape _ _
  rw [if_neg h6]
  by_cases h7 : k = 7
  · rw [if_pos h7]; exact syncLog_shape _
  rw [if_neg h7]
  by_cases h8 : k = 8
  · rw [if_pos h8]; exact cut_shape _ _
  rw [if_neg h8]
  exact ⟨rfl, rfl, rfl⟩
theorem rD_shape (d : DS) (k : Int) : SameShape d (rD d k) := by
  unfold rD
  split
  · exact act_shape d
  · exact ⟨rfl, rfl, rfl⟩
theorem Book.past {base g i : Nat} {w w' : World} {vD vR : Value} {E : List Ent} {e : Ent} {F' : Foot} (h : Book base w g vD vR E) (hi : E[i]? = some e) (hx : NextP w w' e.F F') : Past base w w' := ⟨e.F.own, hx.1, fun x hm => h.low.2 e (List.mem_of_getElem? hi) x (Foot.inOwn hm)⟩
end Go.Proofs.Ytmipmiaflompmab

/-
  OWN WORK. The laws of disk: play, but for crashes and copies.
-/
namespace Go.Proofs.Ytmipmiaflompmab
open Go.RowKit
set_option linter.unusedVariables false

theorem play_empty (base g M : Nat) (vD vR ub vk : Value) (E : List Ent) (wh n m cl : Int) (b : List UInt8) (keep : List Int) (w : World) (h : Book base w g vD vR E) (hM : Few M E) (hcap : (M + 1) * 40 ≤ 140737488355328) (hcap2 : (E.length + 1) * 8 ≤ 140737488355328) (hb : Bs w ub b) (hk : Is w vk keep) (hub : b ≠ [] → ∀ x, ub.ownBlock = some x → x < base) (hvk : keep ≠ [] → ∀ x, vk.ownBlock = some x → x < base) (hn : IntKind.i64.wrap n = n) (K : Int) (h0 : E = []) :
    Calls Try.prog 16 #[.pointer (some ⟨g, 0, none⟩), .agg #[.int .i64 K, .int .i64 wh, .int .i64 n, .int .i64 m, ub, .int .i64 cl, vk]] w fun r w' => r = .returned (.bool true) ∧ ∃ vD' vR' E', Book base w' g vD' vR' E' ∧ Few (M + 1) E' ∧ E.length ≤ E'.length ∧ E'.length ≤ E.length + 1 ∧ ((E = [] → E' = []) ∧ ∀ a b c, Shp a b c E → Shp a b c E') ∧ Past base w w' := by
  subst h0
  obtain ⟨pb, cb, rfl, -⟩ := id hb
  obtain ⟨pk, ck, rfl, -⟩ := id hk
  have k0 := (Kept.refl [] w).alloc (.cells #[.int .i64 K, .int .i64 wh, .int .i64 n, .int .i64 m, .slice pb b.length cb, .int .i64 cl, .slice pk keep.length ck] 52)
  have g0 := (h.kept k0 (by simp)).blk.cell (j := 0) rfl
  obtain ⟨pD, cD, eD⟩ := own_shape2 h.rowD
  simp only [List.length_nil] at eD
  subst eD
  have fin : ∃ vD' vR' E', Book base (w.alloc (.cells #[.int .i64 K, .int .i64 wh, .int .i64 n, .int .i64 m, .slice pb b.length cb, .int .i64 cl, .slice pk keep.length ck] 52)) g vD' vR' E' ∧ Few (M + 1) E' ∧ ([] : List Ent).length ≤ E'.length ∧ E'.length ≤ ([] : List Ent).length + 1 ∧ ((([] : List Ent) = [] → E' = []) ∧ ∀ a b c, Shp a b c ([] : List Ent) → Shp a b c E') ∧ Past base w (w.alloc (.cells #[.int .i64 K, .int .i64 wh, .int .i64 n, .int .i64 m, .slice pb b.length cb, .int .i64 cl, .slice pk keep.length ck] 52)) := ⟨_, _, [], h.kept k0 (by simp), hM.mono (by omega), by simp, by simp, ⟨fun _ => rfl, fun _ _ _ hs => hs⟩, Past.kept k0⟩
  have FIN : Hid (∃ vD' vR' E', Book base (w.alloc (.cells #[.int .i64 K, .int .i64 wh, .int .i64 n, .int .i64 m, .slice pb b.length cb, .int .i64 cl, .slice pk keep.length ck] 52)) g vD' vR' E' ∧ Few (M + 1) E' ∧ ([] : List Ent).length ≤ E'.length ∧ E'.length ≤ ([] : List Ent).length + 1 ∧ ((([] : List Ent) = [] → E' = []) ∧ ∀ a b c, Shp a b c ([] : List Ent) → Shp a b c E') ∧ Past base w (w.alloc (.cells #[.int .i64 K, .int .i64 wh, .int .i64 n, .int .i64 m, .slice pb b.length cb, .int .i64 cl, .slice pk keep.length ck] 52))) := fin
  clear hb hk hub hvk hM hcap hcap2 h hn fin
  go_enter Try.func16, Try.ntmps16
  go_wp2
  go_ret
  exact ⟨rfl, by simpa using FIN.out⟩
set_option maxHeartbeats 3200000 in
theorem play_rw (base g M : Nat) (vD vR ub vk : Value) (E : List Ent) (wh n m cl : Int) (b : List UInt8) (keep : List Int) (w : World) (h : Book base w g vD vR E) (hM : Few M E) (hcap : (M + 1) * 40 ≤ 140737488355328) (hcap2 : (E.length + 1) * 8 ≤ 140737488355328) (hb : Bs w ub b) (hk : Is w vk keep) (hub : b ≠ [] → ∀ x, ub.ownBlock = some x → x < base) (hvk : keep ≠ [] → ∀ x, vk.ownBlock = some x → x < base) (hn : IntKind.i64.wrap n = n) (hpos : 0 < E.length) (K : Int) (h12 : ¬ K = 12) (h13 : ¬ K = 13) (h14 : ¬ K = 14) :
    Calls Try.prog 16 #[.pointer (some ⟨g, 0, none⟩), .agg #[.int .i64 K, .int .i64 wh, .int .i64 n, .int .i64 m, ub, .int .i64 cl, vk]] w fun r w' => r = .returned (.bool true) ∧ ∃ vD' vR' E', Book base w' g vD' vR' E' ∧ Few (M + 1) E' ∧ E.length ≤ E'.length ∧ E'.length ≤ E.length + 1 ∧ ((E = [] → E' = []) ∧ ∀ a b c, Shp a b c E → Shp a b c E') ∧ Past base w w' := by
  obtain ⟨pb, cb, rfl, -⟩ := id hb
  obtain ⟨pk, ck, rfl, -⟩ := id hk
  obtain ⟨w0, hw0⟩ : ∃ w0, w0 = w.alloc (.cells #[.int .i64 K, .int .i64 wh, .int .i64 n, .int .i64 m, .slice pb b.length cb, .int .i64 cl, .slice pk keep.length ck] 52) := ⟨_, rfl⟩
  have k0 : Kept [] w w0 := by rw [hw0]; exact (Kept.refl [] w).alloc _
  have bO : Blk w0 w.heap.size 52 [.int .i64 K, .int .i64 wh, .int .i64 n, .int .i64 m, .slice pb b.length cb, .int .i64 cl, .slice pk keep.length ck] := by rw [hw0]; exact Blk.new w _ _
  have h0 := h.kept k0 (by simp)
  obtain ⟨k, hkd⟩ : ∃ k, k = restN wh E.length := ⟨_, rfl⟩
  have hkl : k < E.length := by rw [hkd]; have := restN_lt wh (E.length - 1); rw [show E.length - 1 + 1 = E.length by omega] at this; omega
  obtain ⟨e, he⟩ : ∃ e, E[k]? = some e := ⟨_, List.getElem?_eq_getElem hkl⟩
  have HNO : Hid (w.heap.size ∉ e.F.own) := (show w.heap.size ∉ e.F.own from fun hm => by have := (h.both e (List.mem_of_getElem? he)).lt _ (Foot.inOwn hm); omega)
  obtain ⟨bD, cD, bR, cR, rfl, rfl, d0, r0, g0, g1⟩ := h0.at he
  have hmd := mod_any wh E.length (w0.drew) hpos (by omega)
  rw [← hkd] at hmd
  have hkl' : (k : Int) < (E.length : Int) := by omega
  have hE0 : ¬ (E.length : Int) = 0 := by omega
  have q0 := bO.cell (j := 0) rfl
  have q1 := bO.cell (j := 1) rfl
  have HB0 : Hid (Book base w0 g (.slice (some ⟨bD, 0, none⟩) E.length cD) (.slice (some ⟨bR, 0, none⟩) E.length cR) E) := h0
  have HE : Hid (E[k]? = some e) := he
  have HBO : Hid (Blk w0 w.heap.size 52 [.int .i64 K, .int .i64 wh, .int .i64 n, .int .i64 m, .slice pb b.length cb, .int .i64 cl, .slice pk keep.length ck]) := bO
  have HW0 : Hid (w0 = w.alloc (.cells #[.int .i64 K, .int .i64 wh, .int .i64 n, .int .i64 m, .slice pb b.length cb, .int .i64 cl, .slice pk keep.length ck] 52)) := hw0
  have HK0 : Hid (Kept [] w w0) := k0
  have HM : Hid (Few M E) := hM
  have HC : Hid ((M + 1) * 40 ≤ 140737488355328 ∧ (E.length + 1) * 8 ≤ 140737488355328) := ⟨hcap, hcap2⟩
  have HBK : Hid (Bs w0 (.slice pb b.length cb) b ∧ Is w0 (.slice pk keep.length ck) keep ∧ (b ≠ [] → ∀ x, (Value.slice pb b.length cb).ownBlock = some x → x < base) ∧ (keep ≠ [] → ∀ x, (Value.slice pk keep.length ck).ownBlock = some x → x < base)) := ⟨hb.kept k0, hk.kept k0, hub, hvk⟩
  have HBW : Hid (base ≤ w.heap.size) := (show base ≤ w.heap.size from Nat.le_trans h.low.1 (Nat.le_of_lt h.blk.lt))
  obtain ⟨A, B, hp, hq, hap, hF⟩ := h0.both e (List.mem_of_getElem? he)
  obtain ⟨gv, ev⟩ := hp.ptr
  obtain ⟨gu, eu⟩ := hq.ptr
  rw [ev] at d0
  rw [eu] at r0
  have HV : Hid (e.v = .pointer (some ⟨gv, 0, none⟩) ∧ e.u = .pointer (some ⟨gu, 0, none⟩)) := ⟨ev, eu⟩
  rw [hw0] at g0 q0 q1
  clear hb hk hub hvk hM hcap hcap2 h h0 he hw0 hpos hkd bO k0 hp hq hap hF ev eu
  go_enter Try.func16, Try.ntmps16
  go_wp2
  rw [← HW0.out]
  rw [← HW0.out] at g0 q0 q1
  go_region_held3 (fun w' => w'.cell? ⟨w.heap.size, 1, none⟩ = some (.int .i64 wh) ∧ w'.cell? ⟨g, 0, none⟩ = some (.slice (some ⟨bD, 0, none⟩) E.length cD))
    (first | (exact ⟨q1, g0⟩) | go_keep)
    (first
      | (go_at_call 13; refine hmd.mono ?_; rintro e w5 ⟨rfl, rfl⟩)
      | fail)
  clear hmd
  go_wp2
  go_region_held3 (fun w' => w'.cell? ⟨g, 0, none⟩ = some (.slice (some ⟨bD, 0, none⟩) E.length cD) ∧ w'.cell? ⟨g, 1, none⟩ = some (.slice (some ⟨bR, 0, none⟩) E.length cR) ∧ w'.cell? ⟨bD, k, none⟩ = some (.pointer (some ⟨gv, 0, none⟩)) ∧ w'.cell? ⟨bR, k, none⟩ = some (.pointer (some ⟨gu, 0, none⟩)))
    (first | (exact ⟨g0, g1, d0, r0⟩) | go_keep) (fail)
  have c0 := HBO.out.cell (j := 0) rfl
  have c1 := HBO.out.cell (j := 1) rfl
  have c2 := HBO.out.cell (j := 2) rfl
  have c3 := HBO.out.cell (j := 3) rfl
  have c4 := HBO.out.cell (j := 4) rfl
  have c5 := HBO.out.cell (j := 5) rfl
  have c6 := HBO.out.cell (j := 6) rfl
  have kd : Kept [] w0 w0.drew.drew := (Kept.refl [] w0).drew.drew
  have hmem := List.mem_of_getElem? HE.out
  have hBoth := (HB0.out.both e hmem).kept kd (by simp)
  rw [HV.out.1, HV.out.2] at hBoth
  have hfar : b ≠ [] → ∀ x, (Value.slice pb b.length cb).ownBlock = some x → x ∉ e.F.own := fun hb0 x hx hm => by have := HBK.out.2.2.1 hb0 x hx; have := HB0.out.low.2 e hmem x (Foot.inOwn hm); omega
  have hwr := writes_any _ _ (.slice pb b.length cb) (.slice pk keep.length ck) e.d e.F wh n m cl b keep _ hBoth (HBK.out.1.kept kd) (HBK.out.2.1.kept kd) hfar (by have := HM.out e hmem; have := HC.out.1; omega) K
  have hwl := wD_loose e.d K n b
  clear g0 g1 d0 r0 hBoth q0 q1
  cases hw : isW K with
  | true =>
    rw [hw] at hwr
    go_wp2_with fail
    refine hwr.mono ?_
    rintro r w1 ⟨F', rfl, hB1, x1⟩
    have x1' : NextP w0 w1 e.F F' := x1.after kd
    rw [← HV.out.1, ← HV.out.2] at hB1
    have f1 := HB0.out.step HE.out hB1 x1'
    have f2 := (Past.kept HK0.out).trans (HB0.out.past HE.out x1')
    have FIN : Hid (∃ vD' vR' E', Book base w1 g vD' vR' E' ∧ Few (M + 1) E' ∧ E.length ≤ E'.length ∧ E'.length ≤ E.length + 1 ∧ ((E = [] → E' = []) ∧ ∀ a b c, Shp a b c E → Shp a b c E') ∧ Past base w w1) := ⟨_, _, _, f1, (HM.out.mono (by omega)).set (by have := HM.out e hmem; show (wD e.d K n b).loose.length ≤ _; omega), by simp, by simp, ⟨fun e => by rw [e] at hkl; simp at hkl, fun _ _ _ hs => hs.set HE.out (wD_shape _ _ _ _)⟩, f2⟩
    clear hwr f1 f2 hB1 x1 x1' c0 c1 c2 c3 c4 c5 c6
    go_wp2
    go_ret
    exact ⟨by simp, FIN.out⟩
  | false =>
    rw [hw] at hwr
    go_wp2_with fail
    refine hwr.mono ?_
    rintro r w1 ⟨F', rfl, hB1, x1⟩
    have x1' : NextP w0 w1 e.F F' := x1.after kd
    have s0 := x1'.1.cell c0 HNO.out
    have s1 := x1'.1.cell c1 HNO.out
    have s2 := x1'.1.cell c2 HNO.out
    have s3 := x1'.1.cell c3 HNO.out
    have s4 := x1'.1.cell c4 HNO.out
    have s5 := x1'.1.cell c5 HNO.out
    have s6 := x1'.1.cell c6 HNO.out
    have hrd := reads_any _ _ (.slice pb b.length cb) (.slice pk keep.length ck) (wD e.d K n b) F' wh n m cl b keep _ hB1 (HBK.out.1.past (HB0.out.past HE.out x1') HBK.out.2.2.1) (HBK.out.2.1.past (HB0.out.past HE.out x1') HBK.out.2.2.2) K
    clear hwr c0 c1 c2 c3 c4 c5 c6
    go_wp2_with fail
    refine hrd.mono ?_
    rintro r w2 ⟨F2, rfl, hB2, x2⟩
    have x3 : NextP w0 w2 e.F F2 := x1'.trans x2
    rw [← HV.out.1, ← HV.out.2] at hB2
    have f1 := HB0.out.step HE.out hB2 x3
    have f2 := (Past.kept HK0.out).trans (HB0.out.past HE.out x3)
    have FIN : Hid (∃ vD' vR' E', Book base w2 g vD' vR' E' ∧ Few (M + 1) E' ∧ E.length ≤ E'.length ∧ E'.length ≤ E.length + 1 ∧ ((E = [] → E' = []) ∧ ∀ a b c, Shp a b c E → Shp a b c E') ∧ Past base w w2) := ⟨_, _, _, f1, (HM.out.mono (by omega)).set (by have := HM.out e hmem; show (rD (wD e.d K n b) K).loose.length ≤ _; rw [rD_loose]; omega), by simp, by simp, ⟨fun e => by rw [e] at hkl; simp at hkl, fun _ _ _ hs => hs.set HE.out ((wD_shape _ _ _ _).trans (rD_shape _ _))⟩, f2⟩
    clear hrd f1 f2 hB1 hB2 x1 x1' x2 x3 s0 s1 s2 s3 s4 s5 s6
    go_wp2
    go_ret
    exact ⟨rfl, FIN.out⟩
end Go.Proofs.Ytmipmiaflompmab

/-
  OWN WORK. The laws of disk: play: a stop.
-/
namespace Go.Proofs.Ytmipmiaflompmab
open Go.RowKit
set_option linter.unusedVariables false

set_option maxHeartbeats 3200000 in
theorem play_stop (base g M : Nat) (vD vR ub vk : Value) (E : List Ent) (wh n m cl : Int) (b : List UInt8) (keep : List Int) (w : World) (h : Book base w g vD vR E) (hM : Few M E) (hcap : (M + 1) * 40 ≤ 140737488355328) (hcap2 : (E.length + 1) * 8 ≤ 140737488355328) (hb : Bs w ub b) (hk : Is w vk keep) (hub : b ≠ [] → ∀ x, ub.ownBlock = some x → x < base) (hvk : keep ≠ [] → ∀ x, vk.ownBlock = some x → x < base) (hn : IntKind.i64.wrap n = n) (hpos : 0 < E.length) :
    Calls Try.prog 16 #[.pointer (some ⟨g, 0, none⟩), .agg #[.int .i64 12, .int .i64 wh, .int .i64 n, .int .i64 m, ub, .int .i64 cl, vk]] w fun r w' => r = .returned (.bool true) ∧ ∃ vD' vR' E', Book base w' g vD' vR' E' ∧ Few (M + 1) E' ∧ E.length ≤ E'.length ∧ E'.length ≤ E.length + 1 ∧ ((E = [] → E' = []) ∧ ∀ a b c, Shp a b c E → Shp a b c E') ∧ Past base w w' := by
  obtain ⟨pb, cb, rfl, -⟩ := id hb
  obtain ⟨pk, ck, rfl, -⟩ := id hk
  obtain ⟨w0, hw0⟩ : ∃ w0, w0 = w.alloc (.cells #[.int .i64 12, .int .i64 wh, .int .i64 n, .int .i64 m, .slice pb b.length cb, .int .i64 cl, .slice pk keep.length ck] 52) := ⟨_, rfl⟩
  have k0 : Kept [] w w0 := by rw [hw0]; exact (Kept.refl [] w).alloc _
  have bO : Blk w0 w.heap.size 52 [.int .i64 12, .int .i64 wh, .int .i64 n, .int .i64 m, .slice pb b.length cb, .int .i64 cl, .slice pk keep.length ck] := by rw [hw0]; exact Blk.new w _ _
  have h0 := h.kept k0 (by simp)
  obtain ⟨k, hkd⟩ : ∃ k, k = restN wh E.length := ⟨_, rfl⟩
  have hkl : k < E.length := by rw [hkd]; have := restN_lt wh (E.length - 1); rw [show E.length - 1 + 1 = E.length by omega] at this; omega
  obtain ⟨e, he⟩ : ∃ e, E[k]? = some e := ⟨_, List.getElem?_eq_getElem hkl⟩
  have HNO : Hid (w.heap.size ∉ e.F.own) := (show w.heap.size ∉ e.F.own from fun hm => by have := (h.both e (List.mem_of_getElem? he)).lt _ (Foot.inOwn hm); omega)
  obtain ⟨bD, cD, bR, cR, rfl, rfl, d0, r0, g0, g1⟩ := h0.at he
  have hmd := mod_any wh E.length (w0.drew) hpos (by omega)
  rw [← hkd] at hmd
  have hkl' : (k : Int) < (E.length : Int) := by omega
  have hE0 : ¬ (E.length : Int) = 0 := by omega
  have q0 := bO.cell (j := 0) rfl
  have q1 := bO.cell (j := 1) rfl
  have HB0 : Hid (Book base w0 g (.slice (some ⟨bD, 0, none⟩) E.length cD) (.slice (some ⟨bR, 0, none⟩) E.length cR) E) := h0
  have HE : Hid (E[k]? = some e) := he
  have HBO : Hid (Blk w0 w.heap.size 52 [.int .i64 12, .int .i64 wh, .int .i64 n, .int .i64 m, .slice pb b.length cb, .int .i64 cl, .slice pk keep.length ck]) := bO
  have HW0 : Hid (w0 = w.alloc (.cells #[.int .i64 12, .int .i64 wh, .int .i64 n, .int .i64 m, .slice pb b.length cb, .int .i64 cl, .slice pk keep.length ck] 52)) := hw0
  have HK0 : Hid (Kept [] w w0) := k0
  have HM : Hid (Few M E) := hM
  have HC : Hid ((M + 1) * 40 ≤ 140737488355328 ∧ (E.length + 1) * 8 ≤ 140737488355328) := ⟨hcap, hcap2⟩
  have HBK : Hid (Bs w0 (.slice pb b.length cb) b ∧ Is w0 (.slice pk keep.length ck) keep ∧ (b ≠ [] → ∀ x, (Value.slice pb b.length cb).ownBlock = some x → x < base) ∧ (keep ≠ [] → ∀ x, (Value.slice pk keep.length ck).ownBlock = some x → x < base)) := ⟨hb.kept k0, hk.kept k0, hub, hvk⟩
  have HBW : Hid (base ≤ w.heap.size) := (show base ≤ w.heap.size from Nat.le_trans h.low.1 (Nat.le_of_lt h.blk.lt))
  obtain ⟨A, B, hp, hq, hap, hF⟩ := h0.both e (List.mem_of_getElem? he)
  obtain ⟨gv, ev⟩ := hp.ptr
  obtain ⟨gu, eu⟩ := hq.ptr
  rw [ev] at d0
  rw [eu] at r0
  have HV : Hid (e.v = .pointer (some ⟨gv, 0, none⟩) ∧ e.u = .pointer (some ⟨gu, 0, none⟩)) := ⟨ev, eu⟩
  rw [hw0] at g0 q0 q1
  clear hb hk hub hvk hM hcap hcap2 h h0 he hw0 hpos hkd bO k0 hp hq hap hF ev eu
  go_enter Try.func16, Try.ntmps16
  go_wp2
  rw [← HW0.out]
  rw [← HW0.out] at g0 q0 q1
  go_region_held3 (fun w' => w'.cell? ⟨w.heap.size, 1, none⟩ = some (.int .i64 wh) ∧ w'.cell? ⟨g, 0, none⟩ = some (.slice (some ⟨bD, 0, none⟩) E.length cD))
    (first | (exact ⟨q1, g0⟩) | go_keep)
    (first
      | (go_at_call 13; refine hmd.mono ?_; rintro e w5 ⟨rfl, rfl⟩)
      | fail)
  clear hmd
  go_wp2
  go_region_held3 (fun w' => w'.cell? ⟨g, 0, none⟩ = some (.slice (some ⟨bD, 0, none⟩) E.length cD) ∧ w'.cell? ⟨g, 1, none⟩ = some (.slice (some ⟨bR, 0, none⟩) E.length cR) ∧ w'.cell? ⟨bD, k, none⟩ = some (.pointer (some ⟨gv, 0, none⟩)) ∧ w'.cell? ⟨bR, k, none⟩ = some (.pointer (some ⟨gu, 0, none⟩)))
    (first | (exact ⟨g0, g1, d0, r0⟩) | go_keep) (fail)
  have c0 := HBO.out.cell (j := 0) rfl
  have c1 := HBO.out.cell (j := 1) rfl
  have c2 := HBO.out.cell (j := 2) rfl
  have c3 := HBO.out.cell (j := 3) rfl
  have c4 := HBO.out.cell (j := 4) rfl
  have c5 := HBO.out.cell (j := 5) rfl
  have c6 := HBO.out.cell (j := 6) rfl
  have kd : Kept [] w0 w0.drew.drew := (Kept.refl [] w0).drew.drew
  have hmem := List.mem_of_getElem? HE.out
  obtain ⟨A, B, hp, hq, hap, hF⟩ := HB0.out.both e hmem
  rw [HV.out.1] at hp
  rw [HV.out.2] at hq
  have nA : w.heap.size ∉ A.own := fun hm => HNO.out (by rw [hF]; simp [hm])
  have nB : w.heap.size ∉ B := fun hm => HNO.out (by rw [hF]; simp [hm])
  have hst := fStop _ e.d A n _ (hp.kept kd (by simp)) hn
  clear g0 g1 d0 r0 q0 q1
  go_wp2_with fail
  refine hst.mono ?_
  rintro r w1 ⟨A', ⟨rr, rfl⟩, p1, x1⟩
  have hst2 := qHalts _ e.d B n w1 ((hq.kept kd (by simp)).kept x1.1 (fun x hx => hap x (Foot.inOwn hx))) hn
  have x1c := x1.after kd
  have s0 := x1c.1.cell c0 nA
  have s1 := x1c.1.cell c1 nA
  have s2 := x1c.1.cell c2 nA
  have s3 := x1c.1.cell c3 nA
  have s4 := x1c.1.cell c4 nA
  have s5 := x1c.1.cell c5 nA
  have s6 := x1c.1.cell c6 nA
  have HQ : Hid (QD w0.drew.drew (.pointer (some ⟨gu, 0, none⟩)) e.d B) := hq.kept kd (by simp)
  clear hst hp hq c0 c1 c2 c3 c4 c5 c6
  go_wp2_with fail
  refine hst2.mono ?_
  rintro r w2 ⟨⟨rr2, rfl⟩, p2, x2⟩
  have t0 := x2.1.cell s0 nB
  have t1 := x2.1.cell s1 nB
  have t2 := x2.1.cell s2 nB
  have t3 := x2.1.cell s3 nB
  have t4 := x2.1.cell s4 nB
  have t5 := x2.1.cell s5 nB
  have t6 := x2.1.cell s6 nB
  obtain ⟨hB2, x2'⟩ := both_step p1 x1 HQ.out hap p2 x2
  rw [← hF] at x2'
  have y2 : NextP w0 w2 e.F ⟨A'.own ++ B, A'.frz⟩ := x2'.after kd
  have hfar : b ≠ [] → ∀ x, (Value.slice pb b.length cb).ownBlock = some x → x ∉ A'.own ++ B := fun hb0 x hx hm => by
    have h1 := HBK.out.2.2.1 hb0 x hx
    have h2 := HBW.out
    have h3 := HK0.out.size
    rcases y2.2.1 x hm with c | c
    · have := HB0.out.low.2 e hmem x (Foot.inOwn c); omega
    · omega
  have hwr := writes_any _ _ (.slice pb b.length cb) (.slice pk keep.length ck) (e.d.halts n) ⟨A'.own ++ B, A'.frz⟩ wh n m cl b keep _ hB2 (HBK.out.1.past (HB0.out.past HE.out y2) HBK.out.2.2.1) (HBK.out.2.1.past (HB0.out.past HE.out y2) HBK.out.2.2.2) hfar (by have := HM.out e hmem; have := HC.out.1; rw [halts_loose]; omega) 12
  have hwl := wD_loose (e.d.halts n) 12 n b
  rw [halts_loose] at hwl
  clear hst2 s0 s1 s2 s3 s4 s5 s6 p1 p2 x1c
  go_wp2_with fail
  refine hwr.mono ?_
  rintro r w3 ⟨F3, rfl, hB3, x3⟩
  have y3 : NextP w0 w3 e.F F3 := y2.trans x3
  have nO2 : w.heap.size ∉ A'.own ++ B := fun hm => by
    rcases y2.2.1 _ hm with c | c
    · exact HNO.out c
    · have := HBO.out.lt; omega
  have z0 := x3.1.cell t0 nO2
  have z1 := x3.1.cell t1 nO2
  have z2 := x3.1.cell t2 nO2
  have z3 := x3.1.cell t3 nO2
  have z4 := x3.1.cell t4 nO2
  have z5 := x3.1.cell t5 nO2
  have z6 := x3.1.cell t6 nO2
  have hrd := reads_any _ _ (.slice pb b.length cb) (.slice pk keep.length ck) (wD (e.d.halts n) 12 n b) F3 wh n m cl b keep _ hB3 (HBK.out.1.past (HB0.out.past HE.out y3) HBK.out.2.2.1) (HBK.out.2.1.past (HB0.out.past HE.out y3) HBK.out.2.2.2) 12
  rw [show isW 12 = false from rfl]
  clear hwr t0 t1 t2 t3 t4 t5 t6
  go_wp2_with fail
  refine hrd.mono ?_
  rintro r w4 ⟨F4, rfl, hB4, x4⟩
  have y4 : NextP w0 w4 e.F F4 := y3.trans x4
  rw [← HV.out.1, ← HV.out.2] at hB4
  have f1 := HB0.out.step HE.out hB4 y4
  have f2 := (Past.kept HK0.out).trans (HB0.out.past HE.out y4)
  have FIN : Hid (∃ vD' vR' E', Book base w4 g vD' vR' E' ∧ Few (M + 1) E' ∧ E.length ≤ E'.length ∧ E'.length ≤ E.length + 1 ∧ ((E = [] → E' = []) ∧ ∀ a b c, Shp a b c E → Shp a b c E') ∧ Past base w w4) := ⟨_, _, _, f1, (HM.out.mono (by omega)).set (by have := HM.out e hmem; show (rD (wD (e.d.halts n) 12 n b) 12).loose.length ≤ _; rw [rD_loose]; omega), by simp, by simp, ⟨fun e => by rw [e] at hkl; simp at hkl, fun _ _ _ hs => hs.set HE.out (((halts_shape _ _).trans (wD_shape _ _ _ _)).trans (rD_shape _ _))⟩, f2⟩
  clear hrd f1 f2 hB2 hB3 hB4 z0 z1 z2 z3 z4 z5 z6
  go_wp2
  go_ret
  exact ⟨rfl, FIN.out⟩
end Go.Proofs.Ytmipmiaflompmab

/-
  OWN WORK. The laws of disk: one more pair of disks in a book.
-/
namespace Go.Proofs.Ytmipmiaflompmab
open Go.RowKit
set_option linter.unusedVariables false

/-- what one disk turns, no other one has -/
theorem frz_far {base g : Nat} {w : World} {vD vR : Value} {E : List Ent} (h : Book base w g vD vR E) {a e : Ent} (ha : a ∈ E) (he : e ∈ E) {x : Nat} (hx : x ∈ a.F.own) (hz : x ∈ e.F.frz) : False := by
  obtain ⟨i, hi⟩ := List.getElem?_of_mem ha
  obtain ⟨j, hj⟩ := List.getElem?_of_mem he
  obtain ⟨hil, hie⟩ := List.getElem?_eq_some_iff.1 hi
  obtain ⟨hjl, hje⟩ := List.getElem?_eq_some_iff.1 hj
  by_cases c : i = j
  · subst c
    rw [hi] at hj
    cases hj
    exact (h.both a ha).own x hz hx
  · rcases Nat.lt_or_gt_of_ne c with c | c
    · have := (List.pairwise_iff_getElem.1 h.apart) i j hil hjl c
      rw [hie, hje] at this
      exact this.1 x hx (Foot.inFrz hz)
    · have := (List.pairwise_iff_getElem.1 h.apart) j i hjl hil c
      rw [hie, hje] at this
      exact this.2 x hx (Foot.inFrz hz)
/-- half a push: the program's new disk stands in the first row -/
structure Half (base : Nat) (w0 w6 : World) (g : Nat) (vD vR vD' nv : Value) (E : List Ent) (d' : DS) (FA : Foot) : Prop where
  book : Book base w0 g vD vR E
  blk : Blk w6 g 47 [vD', vR]
  kept : Kept (g :: vD.ownBlock.toList) w0 w6
  rowD : w6.ownsRow base 32 1 vD' (E.length + 1) (E.map (·.v) ++ [nv])
  rowR : w6.ownsRow base 36 1 vR E.length (E.map (·.u))
  disk : PF w6 nv d' FA
  new : ∀ x ∈ FA.own, w0.heap.size ≤ x
  old : ∀ x ∈ FA.frz, ∃ e ∈ E, x ∈ e.F.frz
  at' : ∀ x, vD'.ownBlock = some x → (vD.ownBlock = some x ∨ w0.heap.size ≤ x) ∧ x ∉ FA.all
theorem Half.make {base g : Nat} {w0 wA w5 : World} {vD vR vD' nv : Value} {E : List Ent} {d' : DS} {FA : Foot} (h0 : Book base w0 g vD vR E) (kA : Kept [] w0 wA) (pA : PF wA nv d' FA) (fA : ∀ x ∈ FA.own, w0.heap.size ≤ x) (zA : ∀ x ∈ FA.frz, ∃ e ∈ E, x ∈ e.F.frz)
    (o5 : w5.ownsRow base 32 1 vD' (E.length + 1) (E.map (·.v) ++ [nv])) (k5 : Kept vD.ownBlock.toList (wA.alloc (.cells #[nv] 32)) w5) (at5 : vD'.ownBlock = vD.ownBlock ∨ vD'.ownBlock = some (wA.heap.size + 1)) :
    Half base w0 (w5.setCell ⟨g, 0, none⟩ vD') g vD vR vD' nv E d' FA := by
  have hAs := kA.size
  have kB : Kept vD.ownBlock.toList w0 w5 := ((kA.alloc (.cells #[nv] 32)).mono (by simp)).trans k5 (fun x hx => .inl hx)
  have ngD : g ∉ vD.ownBlock.toList := fun hm => h0.blk.far h0.rowD (by decide) g (by simpa using hm) rfl
  have b5 := h0.blk.kept kB ngD
  obtain ⟨b6, k6⟩ := b5.set 0 vD'
  have dlt : ∀ x ∈ vD.ownBlock.toList, x < w0.heap.size := fun x hx => own_lt h0.rowD x (by simpa using hx)
  have kAll : Kept (g :: vD.ownBlock.toList) w0 (w5.setCell ⟨g, 0, none⟩ vD') := (kB.mono (by intro x hx; simp [hx])).trans k6 (by intro x hx; simp at hx; subst hx; exact .inl (by simp))
  refine ⟨h0, b6, kAll, own_of_kept o5 k6 (fun x hx hm => by simp at hm; subst hm; exact b5.far o5 (by decide) _ hx rfl), own_of_kept h0.rowR kAll (fun x hx hm => ?_), ?_, fA, zA, fun x hx => ?_⟩
  · rcases List.mem_cons.1 hm with c | c
    · exact h0.blk.far h0.rowR (by decide) x hx c
    · exact own_differ h0.rowR h0.rowD (by decide) hx (by simpa using c)
  · refine (((pA.kept ((Kept.refl [] wA).alloc (.cells #[nv] 32)) (by simp)).kept k5 (fun x hx hm => by
      rcases Foot.mem_all.1 hm with hm | hm
      · have := dlt x hx; have := fA x hm; omega
      · obtain ⟨e, he, hz⟩ := zA x hm
        exact (h0.own e he).2.1 x (by simpa using hx) (Foot.inFrz hz)))).kept k6 (fun x hx hm => ?_)
    simp at hx
    subst hx
    rcases Foot.mem_all.1 hm with hm | hm
    · have := fA _ hm
      have := h0.blk.lt
      omega
    · obtain ⟨e, he, hz⟩ := zA _ hm
      exact (h0.own e he).1 (Foot.inFrz hz)
  · rcases at5 with e | e
    · rw [e] at hx
      refine ⟨.inl hx, fun hm => ?_⟩
      rcases Foot.mem_all.1 hm with hm | hm
      · have := dlt x (by simp [hx])
        have := fA x hm
        omega
      · obtain ⟨e, he, hz⟩ := zA x hm
        exact (h0.own e he).2.1 x hx (Foot.inFrz hz)
    · rw [e] at hx
      cases hx
      refine ⟨.inr (by omega), fun hm => ?_⟩
      have := pA.lt _ hm
      omega
theorem Half.both {base g : Nat} {w0 w6 : World} {vD vR vD' nv : Value} {E : List Ent} {d' : DS} {FA : Foot} (h : Half base w0 w6 g vD vR vD' nv E d' FA) {e : Ent} (he : e ∈ E) : Both w6 e.v e.u e.d e.F := by
  refine (h.book.both e he).kept h.kept (fun x hx hm => ?_)
  obtain ⟨o1, o2, o3⟩ := h.book.own e he
  rcases List.mem_cons.1 hx with c | c
  · subst c; exact o1 hm
  · exact o2 x (by simpa using c) hm
theorem Half.past {base g : Nat} {w0 w6 : World} {vD vR vD' nv : Value} {E : List Ent} {d' : DS} {FA : Foot} (h : Half base w0 w6 g vD vR vD' nv E d' FA) : Past base w0 w6 := ⟨_, h.kept, fun x hx => by
  rcases List.mem_cons.1 hx with c | c
  · rw [c]; exact h.book.low.1
  · exact own_ge h.book.rowD x (by simpa using c)⟩
/-- the second half -/
theorem Half.done2 {base g : Nat} {w0 w6 wC w8 : World} {vD vR vD' vR' nv nu : Value} {E : List Ent} {d' : DS} {FA : Foot} {FB : List Nat} (h : Half base w0 w6 g vD vR vD' nv E d' FA) (kC : Kept [] w6 wC) (qC : QD wC nu d' FB) (fB : ∀ x ∈ FB, w0.heap.size ≤ x ∧ x ∉ FA.all ∧ vD'.ownBlock ≠ some x)
    (o8 : w8.ownsRow base 36 1 vR' (E.length + 1) (E.map (·.u) ++ [nu])) (k8 : Kept vR.ownBlock.toList (wC.alloc (.cells #[nu] 36)) w8) (at8 : vR'.ownBlock = vR.ownBlock ∨ vR'.ownBlock = some (wC.heap.size + 1)) :
    Book base (w8.setCell ⟨g, 1, none⟩ vR') g vD' vR' (E ++ [⟨nv, nu, d', ⟨FA.own ++ FB, FA.frz⟩⟩]) ∧ Past base w0 (w8.setCell ⟨g, 1, none⟩ vR') := by
  have hs6 := h.kept.size
  have hsC := kC.size
  have kB : Kept vR.ownBlock.toList w6 w8 := ((kC.alloc (.cells #[nu] 36)).mono (by simp)).trans k8 (fun x hx => .inl hx)
  have ngR : g ∉ vR.ownBlock.toList := fun hm => h.blk.far h.rowR (by decide) g (by simpa using hm) rfl
  have b8 := h.blk.kept kB ngR
  obtain ⟨b9, k9⟩ := b8.set 1 vR'
  have rlt : ∀ x ∈ vR.ownBlock.toList, x < w0.heap.size := fun x hx => own_lt h.book.rowR x (by simpa using hx)
  have kAll : Kept (g :: vR.ownBlock.toList) w6 (w8.setCell ⟨g, 1, none⟩ vR') := (kB.mono (by intro x hx; simp [hx])).trans k9 (by intro x hx; simp at hx; subst hx; exact .inl (by simp))
  have glt := h.book.blk.lt
  have alt : ∀ x ∈ FA.all, x < w6.heap.size := h.disk.lt
  have zlt : ∀ x ∈ FA.frz, x < w0.heap.size := fun x hx => by obtain ⟨e, he, hz⟩ := h.old x hx; exact (h.book.both e he).lt x (Foot.inFrz hz)
  have parts : ∀ {x : Nat}, x ∈ (⟨FA.own ++ FB, FA.frz⟩ : Foot).all → x ∈ FA.all ∨ x ∈ FB := fun {x} hx => by
    rcases Foot.mem_all.1 hx with c | c
    · rcases List.mem_append.1 c with c | c
      · exact .inl (Foot.inOwn c)
      · exact .inr c
    · exact .inl (Foot.inFrz c)
  have newer : ∀ x ∈ FA.all, w0.heap.size ≤ x ∨ ∃ e ∈ E, x ∈ e.F.frz := fun x hx => by
    rcases Foot.mem_all.1 hx with c | c
    · exact .inl (h.new x c)
    · exact .inr (h.old x c)
  have blt : ∀ x ∈ FB, x < wC.heap.size := qC.lt
  have hmem : ∀ e ∈ E ++ [⟨nv, nu, d', ⟨FA.own ++ FB, FA.frz⟩⟩], e ∈ E ∨ e = ⟨nv, nu, d', ⟨FA.own ++ FB, FA.frz⟩⟩ := fun e he => by simpa using he
  have rR : ∀ x, vR'.ownBlock = some x → (vR.ownBlock = some x ∨ wC.heap.size < x) := fun x hx => by
    rcases at8 with e | e
    · rw [e] at hx; exact .inl hx
    · rw [e] at hx; cases hx; exact .inr (by omega)
  refine ⟨⟨b9, ?_, ?_, fun e he => ?_, ?_, fun e he => ?_, h.book.low.1, fun e he x hx => ?_⟩, h.past.trans ⟨_, kAll, fun x hx => ?_⟩⟩
  · rw [List.length_append, List.map_append]
    exact own_of_kept h.rowD kAll (fun x hx hm => by
      rcases List.mem_cons.1 hm with c | c
      · exact h.blk.far h.rowD (by decide) x hx c
      · exact own_differ h.rowD h.rowR (by decide) hx (by simpa using c))
  · rw [List.length_append, List.map_append]
    exact own_of_kept o8 k9 (fun x hx hm => by simp at hm; subst hm; exact b8.far o8 (by decide) _ hx rfl)
  · rcases hmem e he with c | c
    · refine (h.both c).kept kAll (fun x hx hm => ?_)
      obtain ⟨o1, o2, o3⟩ := h.book.own e c
      rcases List.mem_cons.1 hx with c2 | c2
      · subst c2; exact o1 hm
      · exact o3 x (by simpa using c2) hm
    · subst c
      refine ⟨FA, FB, h.disk.kept kAll (fun x hx hm => ?_), ((qC.kept ((Kept.refl [] wC).alloc (.cells #[nu] 36)) (by simp)).kept k8 (fun x hx hm => ?_)).kept k9 (fun x hx hm => ?_), fun x hx hm => ?_, rfl⟩
      · rcases newer x hm with c0 | ⟨e0, he0, hz0⟩
        · rcases List.mem_cons.1 hx with c | c
          · omega
          · have := rlt x c; omega
        · obtain ⟨o1, o2, o3⟩ := h.book.own e0 he0
          rcases List.mem_cons.1 hx with c | c
          · subst c; exact o1 (Foot.inFrz hz0)
          · exact o3 x (by simpa using c) (Foot.inFrz hz0)
      · have := rlt x hx; have := (fB x hm).1; omega
      · simp at hx; subst hx; have := (fB _ hm).1; omega
      · exact (fB x hm).2.1 hx
  · refine List.pairwise_append.2 ⟨h.book.apart, by simp, fun a ha c hc => ?_⟩
    simp only [List.mem_singleton] at hc
    subst hc
    have alt0 := (h.book.both a ha).lt
    refine ⟨fun x hx hm => ?_, fun x hx hm => ?_⟩
    · have := alt0 x (Foot.inOwn hx)
      rcases parts hm with c | c
      · rcases newer x c with c | ⟨e0, he0, hz0⟩
        · omega
        · exact frz_far h.book ha he0 hx hz0
      · have := (fB x c).1; omega
    · have := alt0 x hm
      rcases List.mem_append.1 hx with c | c
      · have := h.new x c; omega
      · have := (fB x c).1; omega
  · rcases hmem e he with c | c
    · obtain ⟨o1, o2, o3⟩ := h.book.own e c
      have elt := (h.book.both e c).lt
      refine ⟨o1, fun x hx hm => ?_, fun x hx hm => ?_⟩
      · rcases (h.at' x hx).1 with c2 | c2
        · exact o2 x c2 hm
        · have := elt x hm; omega
      · rcases rR x hx with c2 | c2
        · exact o3 x c2 hm
        · have := elt x hm; omega
    · subst c
      refine ⟨fun hm => ?_, fun x hx hm => ?_, fun x hx hm => ?_⟩
      · rcases parts hm with c | c
        · rcases newer g c with c | ⟨e0, he0, hz0⟩
          · omega
          · exact (h.book.own e0 he0).1 (Foot.inFrz hz0)
        · have := (fB g c).1; omega
      · rcases parts hm with c | c
        · exact (h.at' x hx).2 c
        · exact (fB x c).2.2 hx
      · rcases rR x hx with c2 | c2
        · have := rlt x (by simp [c2])
          rcases parts hm with c | c
          · rcases newer x c with c | ⟨e0, he0, hz0⟩
            · omega
            · exact (h.book.own e0 he0).2.2 x c2 (Foot.inFrz hz0)
          · have := (fB x c).1; omega
        · rcases parts hm with c | c
          · have := alt x c; omega
          · have := blt x c; omega
  · rcases hmem e he with c | c
    · exact h.book.low.2 e c x hx
    · subst c
      have := h.book.low.1
      rcases parts hx with c | c
      · rcases newer x c with c | ⟨e0, he0, hz0⟩
        · omega
        · exact h.book.low.2 e0 he0 x (Foot.inFrz hz0)
      · have := (fB x c).1; omega
  · rcases List.mem_cons.1 hx with c | c
    · rw [c]; exact h.book.low.1
    · exact own_ge h.book.rowR x (by simpa using c)
theorem Half.done {base g : Nat} {w0 w6 wC w8 : World} {vD vR vD' vR' nv nu : Value} {E : List Ent} {d' : DS} {FA : Foot} {FB : List Nat} (h : Half base w0 w6 g vD vR vD' nv E d' FA) (kC : Kept [] w6 wC) (qC : QD wC nu d' FB) (fB : ∀ x ∈ FB, w6.heap.size ≤ x)
    (o8 : w8.ownsRow base 36 1 vR' (E.length + 1) (E.map (·.u) ++ [nu])) (k8 : Kept vR.ownBlock.toList (wC.alloc (.cells #[nu] 36)) w8) (at8 : vR'.ownBlock = vR.ownBlock ∨ vR'.ownBlock = some (wC.heap.size + 1)) :
    Book base (w8.setCell ⟨g, 1, none⟩ vR') g vD' vR' (E ++ [⟨nv, nu, d', ⟨FA.own ++ FB, FA.frz⟩⟩]) ∧ Past base w0 (w8.setCell ⟨g, 1, none⟩ vR') :=
  h.done2 kC qC (fun x hx => ⟨Nat.le_trans h.kept.size (fB x hx), fun hm => by have := h.disk.lt x hm; have := fB x hx; omega, fun e => by have := own_lt h.rowD x e; have := fB x hx; omega⟩) o8 k8 at8
end Go.Proofs.Ytmipmiaflompmab

/-
  OWN WORK. The laws of disk: begins.
-/
namespace Go.Proofs.Ytmipmiaflompmab
open Go.RowKit
set_option linter.unusedVariables false

theorem Blk.past {base g : Nat} {w w' : World} {t : TypeId} {cs : List Value} (h : Blk w g t cs) (k : Past base w w') (hg : g < base) : Blk w' g t cs := by
  obtain ⟨S, k, hS⟩ := k
  exact h.kept k fun hm => by have := hS g hm; omega
theorem Past.mono {base b' : Nat} {w w' : World} (h : Past base w w') (hb : b' ≤ base) : Past b' w w' := by
  obtain ⟨S, k, hS⟩ := h
  exact ⟨S, k, fun x hx => Nat.le_trans hb (hS x hx)⟩
/-- both answers of New, or of Load, side by side -/
theorem made_both {w w1 w2 : World} {v u : Value} {d : DS} {e : Int} (h1 : MadeP w w1 v d e) (h2 : Made QD w1 w2 u d e) :
    (e = 0 ∧ ∃ (FA : Foot) (FB : List Nat), PF w2 v d FA ∧ QD w2 u d FB ∧ ((∀ x ∈ FA.own, w.heap.size ≤ x) ∧ ∀ x ∈ FA.frz, False) ∧ (∀ x ∈ FB, w.heap.size ≤ x ∧ x ∉ FA.all) ∧ Kept [] w w2) ∨ (e ≠ 0 ∧ v = .pointer none ∧ u = .pointer none ∧ Kept [] w w2) := by
  rcases h1 with ⟨h0, FA, p1, f1, k1, z1⟩ | ⟨h0, rfl, k1⟩
  · rcases h2 with ⟨-, FB, q2, f2, k2⟩ | ⟨h9, -⟩
    · exact .inl ⟨h0, FA, FB, p1.kept k2 (by simp), q2, ⟨f1, fun x hx => by have := z1 x hx; simp at this⟩, fun x hx => ⟨Nat.le_trans k1.size (f2 x hx), fun hm => by have := p1.lt x hm; have := f2 x hx; omega⟩, k1.then k2⟩
    · exact absurd h0 h9
  · rcases h2 with ⟨h9, -⟩ | ⟨-, rfl, k2⟩
    · exact absurd h9 h0
    · exact .inr ⟨h0, rfl, rfl, k1.then k2⟩
theorem news_one (w : World) (t : TypeId) (v : Value) (h : v.oneCell' = true) : ∀ (j : Nat) u, [v][j]? = some u → (w.alloc (.cells #[v] t)).cell? ((⟨w.heap.size, 0, none⟩ : Addr).add j) = some u := fun j u hj => by
  rw [add_none rfl]
  rcases j with _ | j
  · simp at hj; subst hj
    simp [go_sem]
  · simp at hj
theorem Book.empty {w : World} {g : Nat} (hb : Blk w g 47 [.slice none 0 0, .slice none 0 0]) : Book g w g (.slice none 0 0) (.slice none 0 0) [] :=
  ⟨hb, World.ownsRow_nil _ _ _ _, World.ownsRow_nil _ _ _ _, fun e he => (by cases he), List.Pairwise.nil, fun e he => (by cases he), Nat.le_refl _, fun e he => (by cases he)⟩
/-- a shape that may be has its blank disk -/
def NewIn (a b c : Int) (E : List Ent) : Prop := newE a b c = 0 → 0 < E.length
/-- disks of that shape on which nothing was done -/
def Fresh (a b c : Int) (E : List Ent) : Prop := ∀ e ∈ E, e.d.acts = 0 ∧ e.d.stop = 0 ∧ e.d.dead = false ∧ e.d.loose = [] ∧ (e.d.np : Int) = a ∧ (e.d.ns : Int) = b ∧ (e.d.lm : Int) = c
theorem Fresh.push {a b c : Int} {E : List Ent} {e : Ent} (h : Fresh a b c E) (he : e.d.acts = 0 ∧ e.d.stop = 0 ∧ e.d.dead = false ∧ e.d.loose = [] ∧ (e.d.np : Int) = a ∧ (e.d.ns : Int) = b ∧ (e.d.lm : Int) = c) : Fresh a b c (E ++ [e]) := fun x hx => by
  rcases List.mem_append.1 hx with q | q
  · exact h x q
  · simp at q; subst q; exact he
theorem Fresh.few {a b c : Int} {E : List Ent} (h : Fresh a b c E) : Few 0 E := fun e he => by rw [(h e he).2.2.2.1]; exact Nat.le_refl _
theorem newD_fresh {a b c : Int} (h : newE a b c = 0) : (newD a b c).acts = 0 ∧ (newD a b c).stop = 0 ∧ (newD a b c).dead = false ∧ (newD a b c).loose = [] ∧ ((newD a b c).np : Int) = a ∧ ((newD a b c).ns : Int) = b ∧ ((newD a b c).lm : Int) = c := by
  cases hs : shapeOk a b c with
  | false => unfold newE at h; rw [hs] at h; simp at h
  | true =>
    obtain ⟨np, ns, lm, rfl, rfl, rfl, -⟩ := shapeOk_nat hs
    exact ⟨rfl, rfl, rfl, rfl, rfl, rfl, rfl⟩
theorem loadD_fresh {a b c : Int} {m : IM} (h : loadE a b c m = 0) : (loadD a b c m).acts = 0 ∧ (loadD a b c m).stop = 0 ∧ (loadD a b c m).dead = false ∧ (loadD a b c m).loose = [] ∧ ((loadD a b c m).np : Int) = a ∧ ((loadD a b c m).ns : Int) = b ∧ ((loadD a b c m).lm : Int) = c := by
  cases hs : shapeOk a b c with
  | false => unfold loadE at h; rw [hs] at h; simp at h
  | true =>
    obtain ⟨np, ns, lm, rfl, rfl, rfl, -⟩ := shapeOk_nat hs
    exact ⟨rfl, rfl, rfl, rfl, rfl, rfl, rfl⟩
end Go.Proofs.Ytmipmiaflompmab

/-
  OWN WORK. The laws of disk: play: a crash, a copy.
-/
namespace Go.Proofs.Ytmipmiaflompmab
open Go.RowKit
set_option linter.unusedVariables false
set_option linter.unusedSimpArgs false

set_option maxHeartbeats 3200000 in
theorem play_crash (base g M : Nat) (vD vR ub vk : Value) (E : List Ent) (wh n m cl : Int) (b : List UInt8) (keep : List Int) (w : World) (h : Book base w g vD vR E) (hM : Few M E) (hcap : (M + 1) * 40 ≤ 140737488355328) (hcap2 : (E.length + 1) * 8 ≤ 140737488355328) (hb : Bs w ub b) (hk : Is w vk keep) (hub : b ≠ [] → ∀ x, ub.ownBlock = some x → x < base) (hvk : keep ≠ [] → ∀ x, vk.ownBlock = some x → x < base) (hn : IntKind.i64.wrap n = n) (hpos : 0 < E.length) :
    Calls Try.prog 16 #[.pointer (some ⟨g, 0, none⟩), .agg #[.int .i64 13, .int .i64 wh, .int .i64 n, .int .i64 m, ub, .int .i64 cl, vk]] w fun r w' => r = .returned (.bool true) ∧ ∃ vD' vR' E', Book base w' g vD' vR' E' ∧ Few (M + 1) E' ∧ E.length ≤ E'.length ∧ E'.length ≤ E.length + 1 ∧ ((E = [] → E' = []) ∧ ∀ a b c, Shp a b c E → Shp a b c E') ∧ Past base w w' := by
  obtain ⟨pb, cb, rfl, -⟩ := id hb
  obtain ⟨pk, ck, rfl, -⟩ := id hk
  obtain ⟨w0, hw0⟩ : ∃ w0, w0 = w.alloc (.cells #[.int .i64 13, .int .i64 wh, .int .i64 n, .int .i64 m, .slice pb b.length cb, .int .i64 cl, .slice pk keep.length ck] 52) := ⟨_, rfl⟩
  have k0 : Kept [] w w0 := by rw [hw0]; exact (Kept.refl [] w).alloc _
  have bO : Blk w0 w.heap.size 52 [.int .i64 13, .int .i64 wh, .int .i64 n, .int .i64 m, .slice pb b.length cb, .int .i64 cl, .slice pk keep.length ck] := by rw [hw0]; exact Blk.new w _ _
  have h0 := h.kept k0 (by simp)
  obtain ⟨k, hkd⟩ : ∃ k, k = restN wh E.length := ⟨_, rfl⟩
  have hkl : k < E.length := by rw [hkd]; have := restN_lt wh (E.length - 1); rw [show E.length - 1 + 1 = E.length by omega] at this; omega
  obtain ⟨e, he⟩ : ∃ e, E[k]? = some e := ⟨_, List.getElem?_eq_getElem hkl⟩
  have HNO : Hid (w.heap.size ∉ e.F.own) := (show w.heap.size ∉ e.F.own from fun hm => by have := (h.both e (List.mem_of_getElem? he)).lt _ (Foot.inOwn hm); omega)
  obtain ⟨bD, cD, bR, cR, rfl, rfl, d0, r0, g0, g1⟩ := h0.at he
  have hmd := mod_any wh E.length (w0.drew) hpos (by omega)
  rw [← hkd] at hmd
  have hkl' : (k : Int) < (E.length : Int) := by omega
  have hE0 : ¬ (E.length : Int) = 0 := by omega
  have q0 := bO.cell (j := 0) rfl
  have q1 := bO.cell (j := 1) rfl
  have HB0 : Hid (Book base w0 g (.slice (some ⟨bD, 0, none⟩) E.length cD) (.slice (some ⟨bR, 0, none⟩) E.length cR) E) := h0
  have HE : Hid (E[k]? = some e) := he
  have HBO : Hid (Blk w0 w.heap.size 52 [.int .i64 13, .int .i64 wh, .int .i64 n, .int .i64 m, .slice pb b.length cb, .int .i64 cl, .slice pk keep.length ck]) := bO
  have HW0 : Hid (w0 = w.alloc (.cells #[.int .i64 13, .int .i64 wh, .int .i64 n, .int .i64 m, .slice pb b.length cb, .int .i64 cl, .slice pk keep.length ck] 52)) := hw0
  have HK0 : Hid (Kept [] w w0) := k0
  have HM : Hid (Few M E) := hM
  have HC : Hid ((M + 1) * 40 ≤ 140737488355328 ∧ (E.length + 1) * 8 ≤ 140737488355328) := ⟨hcap, hcap2⟩
  have HBK : Hid (Bs w0 (.slice pb b.length cb) b ∧ Is w0 (.slice pk keep.length ck) keep ∧ (b ≠ [] → ∀ x, (Value.slice pb b.length cb).ownBlock = some x → x < base) ∧ (keep ≠ [] → ∀ x, (Value.slice pk keep.length ck).ownBlock = some x → x < base)) := ⟨hb.kept k0, hk.kept k0, hub, hvk⟩
  have HBW : Hid (base ≤ w.heap.size) := (show base ≤ w.heap.size from Nat.le_trans h.low.1 (Nat.le_of_lt h.blk.lt))
  obtain ⟨A, B, hp, hq, hap, hF⟩ := h0.both e (List.mem_of_getElem? he)
  obtain ⟨gv, ev⟩ := hp.ptr
  obtain ⟨gu, eu⟩ := hq.ptr
  rw [ev] at d0
  rw [eu] at r0
  have HV : Hid (e.v = .pointer (some ⟨gv, 0, none⟩) ∧ e.u = .pointer (some ⟨gu, 0, none⟩)) := ⟨ev, eu⟩
  rw [hw0] at g0 q0 q1
  clear hb hk hub hvk hM hcap hcap2 h h0 he hw0 hpos hkd bO k0 hp hq hap hF ev eu
  go_enter Try.func16, Try.ntmps16
  go_wp2
  rw [← HW0.out]
  rw [← HW0.out] at g0 q0 q1
  go_region_held3 (fun w' => w'.cell? ⟨w.heap.size, 1, none⟩ = some (.int .i64 wh) ∧ w'.cell? ⟨g, 0, none⟩ = some (.slice (some ⟨bD, 0, none⟩) E.length cD))
    (first | (exact ⟨q1, g0⟩) | go_keep)
    (first
      | (go_at_call 13; refine hmd.mono ?_; rintro e w5 ⟨rfl, rfl⟩)
      | fail)
  clear hmd
  go_wp2
  go_region_held3 (fun w' => w'.cell? ⟨g, 0, none⟩ = some (.slice (some ⟨bD, 0, none⟩) E.length cD) ∧ w'.cell? ⟨g, 1, none⟩ = some (.slice (some ⟨bR, 0, none⟩) E.length cR) ∧ w'.cell? ⟨bD, k, none⟩ = some (.pointer (some ⟨gv, 0, none⟩)) ∧ w'.cell? ⟨bR, k, none⟩ = some (.pointer (some ⟨gu, 0, none⟩)))
    (first | (exact ⟨g0, g1, d0, r0⟩) | go_keep) (fail)
  have c0 := HBO.out.cell (j := 0) rfl
  have c5' := HBO.out.cell (j := 5) rfl
  have c6' := HBO.out.cell (j := 6) rfl
  have kd : Kept [] w0 w0.drew.drew := (Kept.refl [] w0).drew.drew
  have hmem := List.mem_of_getElem? HE.out
  obtain ⟨A, B, hp, hq, hap, hF⟩ := HB0.out.both e hmem
  rw [HV.out.1] at hp
  rw [HV.out.2] at hq
  have hcr := fCrash _ e.d A cl (.slice pk keep.length ck) keep _ (hp.kept kd (by simp)) (HBK.out.2.1.kept kd)
  obtain ⟨pD, qD, eD⟩ := own_shape2 HB0.out.rowD
  clear g1 d0 r0 q0 q1
  go_wp2_with fail
  refine hcr.mono ?_
  rintro r wA ⟨nv, rfl, FA, pA, fA, kA, zA⟩
  clear hcr
  have kA' : Kept [] w0 wA := kd.then kA
  have fA' : ∀ x ∈ FA.own, w0.heap.size ≤ x := fA
  have zA' : ∀ x ∈ FA.frz, ∃ e ∈ E, x ∈ e.F.frz := fun x hx => by have := zA x hx; simp at this
  obtain ⟨gn, rfl⟩ := pA.ptr
  have gA := kA'.cell g0 (by simp)
  have kb := kA'.alloc (.cells #[.pointer (some ⟨gn, 0, none⟩)] 32)
  have gB := kb.cell g0 (by simp)
  have rD5 := own_of_kept HB0.out.rowD kb (by simp)
  have ngD : g ∉ (Value.slice (some ⟨bD, 0, none⟩) E.length cD).ownBlock.toList := fun hm => HB0.out.blk.far HB0.out.rowD (by decide) g (by simpa using hm) rfl
  have hnews : ∀ (j : Nat) u, [Value.pointer (some ⟨gn, 0, none⟩)][j]? = some u → (wA.alloc (.cells #[.pointer (some ⟨gn, 0, none⟩)] 32)).cell? ((⟨wA.heap.size, 0, none⟩ : Addr).add j) = some u := fun j u hj => by
    rw [add_none rfl]
    rcases j with _ | j
    · simp at hj; subst hj
      simp [go_sem]
    · simp at hj
  go_wp2_with (at_builtin; refine wpList_append_own2 rfl (.tmp 63) (.tmp 65) 44 rfl base 32 Try.underlying44 (.pointer none) 8 (by kernel_rfl) rfl _ _ _ (by rfl) rD5 ⟨wA.heap.size, 0, none⟩ 1 1 [.pointer (some ⟨gn, 0, none⟩)] (by rfl) rfl hnews (by simp [Value.oneCell']) (by have := HC.out.2; unfold maxLen; omega) (by have := HC.out.2; omega) (by have := HBW.out; have := kb.size; have := HK0.out.size; omega) ?_; intro v5 w5 o5 g5 at5; obtain ⟨p5, c5, rfl⟩ := own_shape2 o5; have k5 := Kept.ofGrown (S := (Value.slice (some ⟨bD, 0, none⟩) E.length cD).ownBlock.toList) g5 (by intro k e _; simp [e]); have kB5 := ((kb.mono (by simp)).trans k5 (fun x hx => .inl hx)); have y0 := (HB0.out.blk.kept kB5 ngD).cell (j := 0) rfl; have y1 := (HB0.out.blk.kept kB5 ngD).free 0)
  have half := Half.make HB0.out kA' pA fA' zA' o5 k5 (by rcases at5 with e | e; exact .inl e; exact .inr (by have := e.1; simp at this; simpa using this))
  have HH : Hid (Half base w0 (w5.setCell ⟨g, 0, none⟩ (.slice p5 (E.length + 1) c5)) g (.slice (some ⟨bD, 0, none⟩) E.length cD) (.slice (some ⟨bR, 0, none⟩) E.length cR) (.slice p5 (E.length + 1) c5) (.pointer (some ⟨gn, 0, none⟩)) E (e.d.crash cl keep) FA) := half
  obtain ⟨w6, hw6⟩ : ∃ w6, w6 = w5.setCell ⟨g, 0, none⟩ (.slice p5 (E.length + 1) c5) := ⟨_, rfl⟩
  have HW6 : Hid (w6 = w5.setCell ⟨g, 0, none⟩ (.slice p5 (E.length + 1) c5)) := hw6
  rw [← hw6] at half HH
  have g1 := half.blk.cell (j := 1) rfl
  have g1f := half.blk.free 1
  have kw6 := half.kept
  have nO : w.heap.size ∉ g :: (Value.slice (some ⟨bD, 0, none⟩) E.length cD).ownBlock.toList := fun hm => by
    have h1 := HB0.out.blk
    rcases List.mem_cons.1 hm with c | c
    · have := HBO.out.lt
      exact absurd (show Blk w0 w.heap.size 47 _ by rw [c]; exact h1) (fun hb => by have h2 := HBO.out; unfold Blk at hb h2; rw [hb] at h2; simp at h2)
    · exact HBO.out.far HB0.out.rowD (by decide) _ (by simpa using c) rfl
  have e5 := kw6.cell c5' nO
  have e6 := kw6.cell c6' nO
  obtain ⟨A6, B6, -, hq6, -, -⟩ := half.both hmem
  rw [HV.out.2] at hq6
  have hcr2 := qCrash _ e.d B6 cl (.slice pk keep.length ck) keep w6.drew (hq6.kept (Kept.refl [] w6).drew (by simp)) ((HBK.out.2.1.past half.past HBK.out.2.2.2).kept (Kept.refl [] w6).drew)
  have rR6 := half.rowR
  have ngR : g ∉ (Value.slice (some ⟨bR, 0, none⟩) E.length cR).ownBlock.toList := fun hm => half.blk.far half.rowR (by decide) g (by simpa using hm) rfl
  clear half hp hq g0 gA gB rD5 hnews o5 k5 g5 at5 kB5 y0 y1 pA fA zA zA' hw6
  go_upto_region 12 with fail
  rw [← HW6.out]
  refine wp_region_late (fun w' => w'.cell? ⟨g, 1, none⟩ = some (.slice (some ⟨bR, 0, none⟩) E.length cR) ∧ w'.cell? ⟨w.heap.size, 5, none⟩ = some (.int .i64 cl) ∧ w'.cell? ⟨w.heap.size, 6, none⟩ = some (.slice pk keep.length ck)) 13 (by kernel_rfl) ?_
  have hS : w6.drew.cell? ⟨g, 1, none⟩ = some (.slice (some ⟨bR, 0, none⟩) E.length cR) ∧ w6.drew.cell? ⟨w.heap.size, 5, none⟩ = some (.int .i64 cl) ∧ w6.drew.cell? ⟨w.heap.size, 6, none⟩ = some (.slice pk keep.length ck) := ⟨g1, e5, e6⟩
  refine wpAnyZ_take 0 (v := ?v0) rfl (by kernel_rfl) (by kernel_rfl) (by kernel_rfl) (by kernel_rfl) (fun _ _ _ h => h) (by rfl) ?hy0 hS ?rest0
  case hy0 => (intro wx hSx; (try dsimp only at hSx); go_simp; (try with_reducible rfl))
  (try simp only [Act.put, List.setIfInBounds_toArray, List.set_cons_zero, List.set_cons_succ])
  refine wpAnyZ_take 1 (v := ?v1) rfl (by kernel_rfl) (by kernel_rfl) (by kernel_rfl) (by kernel_rfl) (fun _ _ _ h => h) (by rfl) ?hy1 hS ?rest1
  case hy1 => (intro wx hSx; (try dsimp only at hSx); go_simp; (try with_reducible rfl))
  (try simp only [Act.put, List.setIfInBounds_toArray, List.set_cons_zero, List.set_cons_succ])
  refine wpAnyZ_take 2 (v := ?v2) rfl (by kernel_rfl) (by kernel_rfl) (by kernel_rfl) (by kernel_rfl) (fun _ _ _ h => h) (by rfl) ?hy2 hS ?rest2
  case hy2 => (intro wx hSx; (try dsimp only at hSx); go_simp; (try with_reducible rfl))
  (try simp only [Act.put, List.setIfInBounds_toArray, List.set_cons_zero, List.set_cons_succ])
  refine wpAnyZ_take 3 (v := ?v3) rfl (by kernel_rfl) (by kernel_rfl) (by kernel_rfl) (by kernel_rfl) (fun _ _ _ h => h) (by rfl) ?hy3 hS ?rest3
  case hy3 => (intro wx hSx; (try dsimp only at hSx); go_simp; (try with_reducible rfl))
  (try simp only [Act.put, List.setIfInBounds_toArray, List.set_cons_zero, List.set_cons_succ])
  refine wpAnyZ_take 4 (v := ?v4) rfl (by kernel_rfl) (by kernel_rfl) (by kernel_rfl) (by kernel_rfl) (fun _ _ _ h => h) (by rfl) ?hy4 hS ?rest4
  case hy4 => (intro wx hSx; (try dsimp only at hSx); go_simp; (try with_reducible rfl))
  (try simp only [Act.put, List.setIfInBounds_toArray, List.set_cons_zero, List.set_cons_succ])
  refine wpAnyZ_take 5 (v := ?v5) rfl (by kernel_rfl) (by kernel_rfl) (by kernel_rfl) (by kernel_rfl) (fun _ _ _ h => h) (by rfl) ?hy5 hS ?rest5
  case hy5 => (intro wx hSx; (try dsimp only at hSx); go_simp; (try with_reducible rfl))
  (try simp only [Act.put, List.setIfInBounds_toArray, List.set_cons_zero, List.set_cons_succ])
  refine wpAnyZ_take 6 (v := ?v6) rfl (by kernel_rfl) (by kernel_rfl) (by kernel_rfl) (by kernel_rfl) (fun _ _ _ h => h) (by rfl) ?hy6 hS ?rest6
  case hy6 => (intro wx hSx; (try dsimp only at hSx); go_simp; (try with_reducible rfl))
  (try simp only [Act.put, List.setIfInBounds_toArray, List.set_cons_zero, List.set_cons_succ])
  refine wpAnyZ_take 7 (v := ?v7) rfl (by kernel_rfl) (by kernel_rfl) (by kernel_rfl) (by kernel_rfl) (fun _ _ _ h => h) (by rfl) ?hy7 hS ?rest7
  case hy7 => (intro wx hSx; (try dsimp only at hSx); go_simp; (try with_reducible rfl))
  (try simp only [Act.put, List.setIfInBounds_toArray, List.set_cons_zero, List.set_cons_succ])
  refine wpAnyZ_one 8 rfl (by kernel_rfl) (fun K hK => ?_)
  go_simp
  refine hcr2.mono ?_
  rintro r wC ⟨nu, rfl, FB, qC, fB, kC⟩
  have kC' : Kept [] w6 wC := (Kept.refl [] w6).drew.then kC
  obtain ⟨gm, rfl⟩ := qC.ptr
  dsimp only
  have hS3 : wC.cell? ⟨g, 1, none⟩ = some (.slice (some ⟨bR, 0, none⟩) E.length cR) ∧ wC.cell? ⟨w.heap.size, 5, none⟩ = some (.int .i64 cl) ∧ wC.cell? ⟨w.heap.size, 6, none⟩ = some (.slice pk keep.length ck) := ⟨kC'.cell g1 (by simp), kC'.cell e5 (by simp), kC'.cell e6 (by simp)⟩
  refine hK _ _ (fun _ => hS3) ?_
  clear hK K hcr2 hS
  (try simp only [Act.put, List.setIfInBounds_toArray, List.set_cons_zero, List.set_cons_succ])
  refine wpAnyZ_one 9 rfl (by kernel_rfl) (fun K hK => ?_)
  have kc2 := kC'.alloc (.cells #[.pointer (some ⟨gm, 0, none⟩)] 36)
  have hS4 : (wC.alloc (.cells #[.pointer (some ⟨gm, 0, none⟩)] 36)).cell? ⟨g, 1, none⟩ = some (.slice (some ⟨bR, 0, none⟩) E.length cR) ∧ (wC.alloc (.cells #[.pointer (some ⟨gm, 0, none⟩)] 36)).cell? ⟨w.heap.size, 5, none⟩ = some (.int .i64 cl) ∧ (wC.alloc (.cells #[.pointer (some ⟨gm, 0, none⟩)] 36)).cell? ⟨w.heap.size, 6, none⟩ = some (.slice pk keep.length ck) := ⟨kc2.cell g1 (by simp), kc2.cell e5 (by simp), kc2.cell e6 (by simp)⟩
  go_simp
  refine hK _ _ (fun _ => hS4) ?_
  clear hK K
  refine wpAnyZ_one 10 rfl (by kernel_rfl) (fun K hK => ?_)
  have hnews2 : ∀ (j : Nat) u, [Value.pointer (some ⟨gm, 0, none⟩)][j]? = some u → (wC.alloc (.cells #[.pointer (some ⟨gm, 0, none⟩)] 36)).cell? ((⟨wC.heap.size, 0, none⟩ : Addr).add j) = some u := fun j u hj => by
    rw [add_none rfl]
    rcases j with _ | j
    · simp at hj; subst hj
      simp [go_sem]
    · simp at hj
  refine step_append_own2 (by rfl) (.tmp 73) (.tmp 78) 45 (by rfl) base 36 Try.underlying45 (.pointer none) 8 (by kernel_rfl) rfl _ _ _ (by rfl) (own_of_kept rR6 kc2 (by simp)) ⟨wC.heap.size, 0, none⟩ 1 1 [.pointer (some ⟨gm, 0, none⟩)] (by rfl) rfl hnews2 (by simp [Value.oneCell']) (by have := HC.out.2; unfold maxLen; omega) (by have := HC.out.2; omega) (by have := HBW.out; have := kc2.size; have := HK0.out.size; have := kw6.size; omega) ?_
  intro v8 w8 o8 g8 at8
  obtain ⟨p8, c8, rfl⟩ := own_shape2 o8
  have k8 := Kept.ofGrown (S := (Value.slice (some ⟨bR, 0, none⟩) E.length cR).ownBlock.toList) g8 (by intro k e _; simp [e])
  have kB8 := ((kc2.mono (by simp)).trans k8 (fun x hx => .inl hx))
  have z0 := (HH.out.blk.kept kB8 ngR).cell (j := 1) rfl
  have z1 := (HH.out.blk.kept kB8 ngR).free 1
  have nO8 : w.heap.size ∉ (Value.slice (some ⟨bR, 0, none⟩) E.length cR).ownBlock.toList := fun hm => HBO.out.far HB0.out.rowR (by decide) _ (by simpa using hm) rfl
  have hS5 : w8.cell? ⟨g, 1, none⟩ = some (.slice (some ⟨bR, 0, none⟩) E.length cR) ∧ w8.cell? ⟨w.heap.size, 5, none⟩ = some (.int .i64 cl) ∧ w8.cell? ⟨w.heap.size, 6, none⟩ = some (.slice pk keep.length ck) := ⟨z0, kB8.cell e5 nO8, kB8.cell e6 nO8⟩
  refine hK _ _ (fun _ => hS5) ?_
  clear hK K
  (try simp only [Act.put, List.setIfInBounds_toArray, List.set_cons_zero, List.set_cons_succ])
  refine wpAnyZ_one 11 rfl (by kernel_rfl) (fun K hK => ?_)
  go_simp
  refine hK _ _ (fun _ => hS5) ?_
  clear hK K
  refine wpAnyZ_one 12 rfl (by kernel_rfl) (fun K hK => ?_)
  go_simp
  refine hK _ _ (fun _ => hS5) ?_
  clear hK K
  refine wpAnyZ_one 13 rfl (by kernel_rfl) (fun K hK => ?_)
  go_simp
  refine hK _ _ (fun h => absurd rfl h) ?_
  clear hK K
  refine wpAnyZ_done (by kernel_rfl) ?_ _
  obtain ⟨f1, f2⟩ := HH.out.done kC' qC fB o8 k8 (by rcases at8 with e | e; exact .inl e; exact .inr (by have := e.1; simp at this; simpa using this))
  have FIN : Hid (∃ vD' vR' E', Book base (w8.setCell ⟨g, 1, none⟩ (.slice p8 (E.length + 1) c8)) g vD' vR' E' ∧ Few (M + 1) E' ∧ E.length ≤ E'.length ∧ E'.length ≤ E.length + 1 ∧ ((E = [] → E' = []) ∧ ∀ a b c, Shp a b c E → Shp a b c E') ∧ Past base w (w8.setCell ⟨g, 1, none⟩ (.slice p8 (E.length + 1) c8))) := ⟨_, _, _, f1, (HM.out.mono (by omega)).push (by have := HM.out e hmem; show (e.d.crash cl keep).loose.length ≤ _; exact Nat.zero_le _), by simp, by simp, ⟨fun e => by rw [e] at hkl; simp at hkl, fun _ _ _ hs => hs.push HE.out ⟨rfl, rfl, rfl⟩⟩, (Past.kept HK0.out).trans f2⟩
  clear f1 f2 o8 k8 g8 at8 kB8 z0 z1 hS3 hS4 hS5 hnews2 qC fB
  go_wp2
  go_ret
  exact ⟨by simp, FIN.out⟩
set_option maxHeartbeats 3200000 in
theorem play_copy (base g M : Nat) (vD vR ub vk : Value) (E : List Ent) (wh n m cl : Int) (b : List UInt8) (keep : List Int) (w : World) (h : Book base w g vD vR E) (hM : Few M E) (hcap : (M + 1) * 40 ≤ 140737488355328) (hcap2 : (E.length + 1) * 8 ≤ 140737488355328) (hb : Bs w ub b) (hk : Is w vk keep) (hub : b ≠ [] → ∀ x, ub.ownBlock = some x → x < base) (hvk : keep ≠ [] → ∀ x, vk.ownBlock = some x → x < base) (hn : IntKind.i64.wrap n = n) (hpos : 0 < E.length) :
    Calls Try.prog 16 #[.pointer (some ⟨g, 0, none⟩), .agg #[.int .i64 14, .int .i64 wh, .int .i64 n, .int .i64 m, ub, .int .i64 cl, vk]] w fun r w' => r = .returned (.bool true) ∧ ∃ vD' vR' E', Book base w' g vD' vR' E' ∧ Few (M + 1) E' ∧ E.length ≤ E'.length ∧ E'.length ≤ E.length + 1 ∧ ((E = [] → E' = []) ∧ ∀ a b c, Shp a b c E → Shp a b c E') ∧ Past base w w' := by
  obtain ⟨pb, cb, rfl, -⟩ := id hb
  obtain ⟨pk, ck, rfl, -⟩ := id hk
  obtain ⟨w0, hw0⟩ : ∃ w0, w0 = w.alloc (.cells #[.int .i64 14, .int .i64 wh, .int .i64 n, .int .i64 m, .slice pb b.length cb, .int .i64 cl, .slice pk keep.length ck] 52) := ⟨_, rfl⟩
  have k0 : Kept [] w w0 := by rw [hw0]; exact (Kept.refl [] w).alloc _
  have bO : Blk w0 w.heap.size 52 [.int .i64 14, .int .i64 wh, .int .i64 n, .int .i64 m, .slice pb b.length cb, .int .i64 cl, .slice pk keep.length ck] := by rw [hw0]; exact Blk.new w _ _
  have h0 := h.kept k0 (by simp)
  obtain ⟨k, hkd⟩ : ∃ k, k = restN wh E.length := ⟨_, rfl⟩
  have hkl : k < E.length := by rw [hkd]; have := restN_lt wh (E.length - 1); rw [show E.length - 1 + 1 = E.length by omega] at this; omega
  obtain ⟨e, he⟩ : ∃ e, E[k]? = some e := ⟨_, List.getElem?_eq_getElem hkl⟩
  have HNO : Hid (w.heap.size ∉ e.F.own) := (show w.heap.size ∉ e.F.own from fun hm => by have := (h.both e (List.mem_of_getElem? he)).lt _ (Foot.inOwn hm); omega)
  obtain ⟨bD, cD, bR, cR, rfl, rfl, d0, r0, g0, g1⟩ := h0.at he
  have hmd := mod_any wh E.length (w0.drew) hpos (by omega)
  rw [← hkd] at hmd
  have hkl' : (k : Int) < (E.length : Int) := by omega
  have hE0 : ¬ (E.length : Int) = 0 := by omega
  have q0 := bO.cell (j := 0) rfl
  have q1 := bO.cell (j := 1) rfl
  have HB0 : Hid (Book base w0 g (.slice (some ⟨bD, 0, none⟩) E.length cD) (.slice (some ⟨bR, 0, none⟩) E.length cR) E) := h0
  have HE : Hid (E[k]? = some e) := he
  have HBO : Hid (Blk w0 w.heap.size 52 [.int .i64 14, .int .i64 wh, .int .i64 n, .int .i64 m, .slice pb b.length cb, .int .i64 cl, .slice pk keep.length ck]) := bO
  have HW0 : Hid (w0 = w.alloc (.cells #[.int .i64 14, .int .i64 wh, .int .i64 n, .int .i64 m, .slice pb b.length cb, .int .i64 cl, .slice pk keep.length ck] 52)) := hw0
  have HK0 : Hid (Kept [] w w0) := k0
  have HM : Hid (Few M E) := hM
  have HC : Hid ((M + 1) * 40 ≤ 140737488355328 ∧ (E.length + 1) * 8 ≤ 140737488355328) := ⟨hcap, hcap2⟩
  have HBK : Hid (Bs w0 (.slice pb b.length cb) b ∧ Is w0 (.slice pk keep.length ck) keep ∧ (b ≠ [] → ∀ x, (Value.slice pb b.length cb).ownBlock = some x → x < base) ∧ (keep ≠ [] → ∀ x, (Value.slice pk keep.length ck).ownBlock = some x → x < base)) := ⟨hb.kept k0, hk.kept k0, hub, hvk⟩
  have HBW : Hid (base ≤ w.heap.size) := (show base ≤ w.heap.size from Nat.le_trans h.low.1 (Nat.le_of_lt h.blk.lt))
  obtain ⟨A, B, hp, hq, hap, hF⟩ := h0.both e (List.mem_of_getElem? he)
  obtain ⟨gv, ev⟩ := hp.ptr
  obtain ⟨gu, eu⟩ := hq.ptr
  rw [ev] at d0
  rw [eu] at r0
  have HV : Hid (e.v = .pointer (some ⟨gv, 0, none⟩) ∧ e.u = .pointer (some ⟨gu, 0, none⟩)) := ⟨ev, eu⟩
  rw [hw0] at g0 q0 q1
  clear hb hk hub hvk hM hcap hcap2 h h0 he hw0 hpos hkd bO k0 hp hq hap hF ev eu
  go_enter Try.func16, Try.ntmps16
  go_wp2
  rw [← HW0.out]
  rw [← HW0.out] at g0 q0 q1
  go_region_held3 (fun w' => w'.cell? ⟨w.heap.size, 1, none⟩ = some (.int .i64 wh) ∧ w'.cell? ⟨g, 0, none⟩ = some (.slice (some ⟨bD, 0, none⟩) E.length cD))
    (first | (exact ⟨q1, g0⟩) | go_keep)
    (first
      | (go_at_call 13; refine hmd.mono ?_; rintro e w5 ⟨rfl, rfl⟩)
      | fail)
  clear hmd
  go_wp2
  go_region_held3 (fun w' => w'.cell? ⟨g, 0, none⟩ = some (.slice (some ⟨bD, 0, none⟩) E.length cD) ∧ w'.cell? ⟨g, 1, none⟩ = some (.slice (some ⟨bR, 0, none⟩) E.length cR) ∧ w'.cell? ⟨bD, k, none⟩ = some (.pointer (some ⟨gv, 0, none⟩)) ∧ w'.cell? ⟨bR, k, none⟩ = some (.pointer (some ⟨gu, 0, none⟩)))
    (first | (exact ⟨g0, g1, d0, r0⟩) | go_keep) (fail)
  have c0 := HBO.out.cell (j := 0) rfl
  have kd : Kept [] w0 w0.drew.drew := (Kept.refl [] w0).drew.drew
  have hmem := List.mem_of_getElem? HE.out
  obtain ⟨A, B, hp, hq, hap, hF⟩ := HB0.out.both e hmem
  rw [HV.out.1] at hp
  rw [HV.out.2] at hq
  have hcr := fCopy _ e.d A _ (hp.kept kd (by simp)) (by have := HM.out e hmem; have := HC.out.1; omega)
  obtain ⟨pD, qD, eD⟩ := own_shape2 HB0.out.rowD
  clear g1 d0 r0 q0 q1
  go_wp2_with fail
  refine hcr.mono ?_
  rintro r wA ⟨nv, rfl, FA, pA, fA, kA, zA⟩
  clear hcr
  have kA' : Kept [] w0 wA := kd.then kA
  have fA' : ∀ x ∈ FA.own, w0.heap.size ≤ x := fA
  have zA' : ∀ x ∈ FA.frz, ∃ e ∈ E, x ∈ e.F.frz := fun x hx => ⟨e, hmem, by rw [hF]; exact zA x hx⟩
  obtain ⟨gn, rfl⟩ := pA.ptr
  have gA := kA'.cell g0 (by simp)
  have kb := kA'.alloc (.cells #[.pointer (some ⟨gn, 0, none⟩)] 32)
  have gB := kb.cell g0 (by simp)
  have rD5 := own_of_kept HB0.out.rowD kb (by simp)
  have ngD : g ∉ (Value.slice (some ⟨bD, 0, none⟩) E.length cD).ownBlock.toList := fun hm => HB0.out.blk.far HB0.out.rowD (by decide) g (by simpa using hm) rfl
  have hnews : ∀ (j : Nat) u, [Value.pointer (some ⟨gn, 0, none⟩)][j]? = some u → (wA.alloc (.cells #[.pointer (some ⟨gn, 0, none⟩)] 32)).cell? ((⟨wA.heap.size, 0, none⟩ : Addr).add j) = some u := fun j u hj => by
    rw [add_none rfl]
    rcases j with _ | j
    · simp at hj; subst hj
      simp [go_sem]
    · simp at hj
  go_wp2_with (at_builtin; refine wpList_append_own2 rfl (.tmp 92) (.tmp 94) 44 rfl base 32 Try.underlying44 (.pointer none) 8 (by kernel_rfl) rfl _ _ _ (by rfl) rD5 ⟨wA.heap.size, 0, none⟩ 1 1 [.pointer (some ⟨gn, 0, none⟩)] (by rfl) rfl hnews (by simp [Value.oneCell']) (by have := HC.out.2; unfold maxLen; omega) (by have := HC.out.2; omega) (by have := HBW.out; have := kb.size; have := HK0.out.size; omega) ?_; intro v5 w5 o5 g5 at5; obtain ⟨p5, c5, rfl⟩ := own_shape2 o5; have k5 := Kept.ofGrown (S := (Value.slice (some ⟨bD, 0, none⟩) E.length cD).ownBlock.toList) g5 (by intro k e _; simp [e]); have kB5 := ((kb.mono (by simp)).trans k5 (fun x hx => .inl hx)); have y0 := (HB0.out.blk.kept kB5 ngD).cell (j := 0) rfl; have y1 := (HB0.out.blk.kept kB5 ngD).free 0)
  have half := Half.make HB0.out kA' pA fA' zA' o5 k5 (by rcases at5 with e | e; exact .inl e; exact .inr (by have := e.1; simp at this; simpa using this))
  have HH : Hid (Half base w0 (w5.setCell ⟨g, 0, none⟩ (.slice p5 (E.length + 1) c5)) g (.slice (some ⟨bD, 0, none⟩) E.length cD) (.slice (some ⟨bR, 0, none⟩) E.length cR) (.slice p5 (E.length + 1) c5) (.pointer (some ⟨gn, 0, none⟩)) E (e.d.copy) FA) := half
  obtain ⟨w6, hw6⟩ : ∃ w6, w6 = w5.setCell ⟨g, 0, none⟩ (.slice p5 (E.length + 1) c5) := ⟨_, rfl⟩
  have HW6 : Hid (w6 = w5.setCell ⟨g, 0, none⟩ (.slice p5 (E.length + 1) c5)) := hw6
  rw [← hw6] at half HH
  have g1 := half.blk.cell (j := 1) rfl
  have g1f := half.blk.free 1
  have kw6 := half.kept
  obtain ⟨A6, B6, -, hq6, -, -⟩ := half.both hmem
  rw [HV.out.2] at hq6
  have hcr2 := qCopy _ e.d B6 w6.drew (hq6.kept (Kept.refl [] w6).drew (by simp)) (by have := HM.out e hmem; have := HC.out.1; omega)
  have rR6 := half.rowR
  have ngR : g ∉ (Value.slice (some ⟨bR, 0, none⟩) E.length cR).ownBlock.toList := fun hm => half.blk.far half.rowR (by decide) g (by simpa using hm) rfl
  clear half hp hq g0 gA gB rD5 hnews o5 k5 g5 at5 kB5 y0 y1 pA fA zA zA' hw6
  go_upto_region 17 with fail
  rw [← HW6.out]
  refine wp_region_late (fun w' => w'.cell? ⟨g, 1, none⟩ = some (.slice (some ⟨bR, 0, none⟩) E.length cR)) 11 (by kernel_rfl) ?_
  have hS : w6.drew.cell? ⟨g, 1, none⟩ = some (.slice (some ⟨bR, 0, none⟩) E.length cR) := g1
  refine wpAnyZ_take 0 (v := ?v0) rfl (by kernel_rfl) (by kernel_rfl) (by kernel_rfl) (by kernel_rfl) (fun _ _ _ h => h) (by rfl) ?hy0 hS ?rest0
  case hy0 => (intro wx hSx; (try dsimp only at hSx); go_simp; (try with_reducible rfl))
  (try simp only [Act.put, List.setIfInBounds_toArray, List.set_cons_zero, List.set_cons_succ])
  refine wpAnyZ_take 1 (v := ?v1) rfl (by kernel_rfl) (by kernel_rfl) (by kernel_rfl) (by kernel_rfl) (fun _ _ _ h => h) (by rfl) ?hy1 hS ?rest1
  case hy1 => (intro wx hSx; (try dsimp only at hSx); go_simp; (try with_reducible rfl))
  (try simp only [Act.put, List.setIfInBounds_toArray, List.set_cons_zero, List.set_cons_succ])
  refine wpAnyZ_take 2 (v := ?v2) rfl (by kernel_rfl) (by kernel_rfl) (by kernel_rfl) (by kernel_rfl) (fun _ _ _ h => h) (by rfl) ?hy2 hS ?rest2
  case hy2 => (intro wx hSx; (try dsimp only at hSx); go_simp; (try with_reducible rfl))
  (try simp only [Act.put, List.setIfInBounds_toArray, List.set_cons_zero, List.set_cons_succ])
  refine wpAnyZ_take 3 (v := ?v3) rfl (by kernel_rfl) (by kernel_rfl) (by kernel_rfl) (by kernel_rfl) (fun _ _ _ h => h) (by rfl) ?hy3 hS ?rest3
  case hy3 => (intro wx hSx; (try dsimp only at hSx); go_simp; (try with_reducible rfl))
  (try simp only [Act.put, List.setIfInBounds_toArray, List.set_cons_zero, List.set_cons_succ])
  refine wpAnyZ_take 4 (v := ?v4) rfl (by kernel_rfl) (by kernel_rfl) (by kernel_rfl) (by kernel_rfl) (fun _ _ _ h => h) (by rfl) ?hy4 hS ?rest4
  case hy4 => (intro wx hSx; (try dsimp only at hSx); go_simp; (try with_reducible rfl))
  (try simp only [Act.put, List.setIfInBounds_toArray, List.set_cons_zero, List.set_cons_succ])
  refine wpAnyZ_take 5 (v := ?v5) rfl (by kernel_rfl) (by kernel_rfl) (by kernel_rfl) (by kernel_rfl) (fun _ _ _ h => h) (by rfl) ?hy5 hS ?rest5
  case hy5 => (intro wx hSx; (try dsimp only at hSx); go_simp; (try with_reducible rfl))
  (try simp only [Act.put, List.setIfInBounds_toArray, List.set_cons_zero, List.set_cons_succ])
  refine wpAnyZ_one 6 rfl (by kernel_rfl) (fun K hK => ?_)
  go_simp
  refine hcr2.mono ?_
  rintro r wC ⟨nu, rfl, FB, qC, fB, kC⟩
  have kC' : Kept [] w6 wC := (Kept.refl [] w6).drew.then kC
  obtain ⟨gm, rfl⟩ := qC.ptr
  dsimp only
  have hS3 : wC.cell? ⟨g, 1, none⟩ = some (.slice (some ⟨bR, 0, none⟩) E.length cR) := kC'.cell g1 (by simp)
  refine hK _ _ (fun _ => hS3) ?_
  clear hK K hcr2 hS
  (try simp only [Act.put, List.setIfInBounds_toArray, List.set_cons_zero, List.set_cons_succ])
  refine wpAnyZ_one 7 rfl (by kernel_rfl) (fun K hK => ?_)
  have kc2 := kC'.alloc (.cells #[.pointer (some ⟨gm, 0, none⟩)] 36)
  have hS4 : (wC.alloc (.cells #[.pointer (some ⟨gm, 0, none⟩)] 36)).cell? ⟨g, 1, none⟩ = some (.slice (some ⟨bR, 0, none⟩) E.length cR) := kc2.cell g1 (by simp)
  go_simp
  refine hK _ _ (fun _ => hS4) ?_
  clear hK K
  refine wpAnyZ_one 8 rfl (by kernel_rfl) (fun K hK => ?_)
  have hnews2 : ∀ (j : Nat) u, [Value.pointer (some ⟨gm, 0, none⟩)][j]? = some u → (wC.alloc (.cells #[.pointer (some ⟨gm, 0, none⟩)] 36)).cell? ((⟨wC.heap.size, 0, none⟩ : Addr).add j) = some u := fun j u hj => by
    rw [add_none rfl]
    rcases j with _ | j
    · simp at hj; subst hj
      simp [go_sem]
    · simp at hj
  refine step_append_own2 (by rfl) (.tmp 102) (.tmp 105) 45 (by rfl) base 36 Try.underlying45 (.pointer none) 8 (by kernel_rfl) rfl _ _ _ (by rfl) (own_of_kept rR6 kc2 (by simp)) ⟨wC.heap.size, 0, none⟩ 1 1 [.pointer (some ⟨gm, 0, none⟩)] (by rfl) rfl hnews2 (by simp [Value.oneCell']) (by have := HC.out.2; unfold maxLen; omega) (by have := HC.out.2; omega) (by have := HBW.out; have := kc2.size; have := HK0.out.size; have := kw6.size; omega) ?_
  intro v8 w8 o8 g8 at8
  obtain ⟨p8, c8, rfl⟩ := own_shape2 o8
  have k8 := Kept.ofGrown (S := (Value.slice (some ⟨bR, 0, none⟩) E.length cR).ownBlock.toList) g8 (by intro k e _; simp [e])
  have kB8 := ((kc2.mono (by simp)).trans k8 (fun x hx => .inl hx))
  have z0 := (HH.out.blk.kept kB8 ngR).cell (j := 1) rfl
  have z1 := (HH.out.blk.kept kB8 ngR).free 1
  have hS5 : w8.cell? ⟨g, 1, none⟩ = some (.slice (some ⟨bR, 0, none⟩) E.length cR) := z0
  refine hK _ _ (fun _ => hS5) ?_
  clear hK K
  (try simp only [Act.put, List.setIfInBounds_toArray, List.set_cons_zero, List.set_cons_succ])
  refine wpAnyZ_one 9 rfl (by kernel_rfl) (fun K hK => ?_)
  go_simp
  refine hK _ _ (fun _ => hS5) ?_
  clear hK K
  refine wpAnyZ_one 10 rfl (by kernel_rfl) (fun K hK => ?_)
  go_simp
  refine hK _ _ (fun _ => hS5) ?_
  clear hK K
  refine wpAnyZ_one 11 rfl (by kernel_rfl) (fun K hK => ?_)
  go_simp
  refine hK _ _ (fun h => absurd rfl h) ?_
  clear hK K
  refine wpAnyZ_done (by kernel_rfl) ?_ _
  obtain ⟨f1, f2⟩ := HH.out.done kC' qC fB o8 k8 (by rcases at8 with e | e; exact .inl e; exact .inr (by have := e.1; simp at this; simpa using this))
  have FIN : Hid (∃ vD' vR' E', Book base (w8.setCell ⟨g, 1, none⟩ (.slice p8 (E.length + 1) c8)) g vD' vR' E' ∧ Few (M + 1) E' ∧ E.length ≤ E'.length ∧ E'.length ≤ E.length + 1 ∧ ((E = [] → E' = []) ∧ ∀ a b c, Shp a b c E → Shp a b c E') ∧ Past base w (w8.setCell ⟨g, 1, none⟩ (.slice p8 (E.length + 1) c8))) := ⟨_, _, _, f1, (HM.out.mono (by omega)).push (by have := HM.out e hmem; show (e.d.copy).loose.length ≤ _; show e.d.loose.length ≤ _; omega), by simp, by simp, ⟨fun e => by rw [e] at hkl; simp at hkl, fun _ _ _ hs => hs.push HE.out ⟨rfl, rfl, rfl⟩⟩, (Past.kept HK0.out).trans f2⟩
  clear f1 f2 o8 k8 g8 at8 kB8 z0 z1 hS3 hS4 hS5 hnews2 qC fB
  go_wp2
  go_ret
  exact ⟨by simp, FIN.out⟩
theorem play_any (base g M : Nat) (vD vR ub vk : Value) (E : List Ent) (wh n m cl : Int) (b : List UInt8) (keep : List Int) (w : World) (h : Book base w g vD vR E) (hM : Few M E) (hcap : (M + 1) * 40 ≤ 140737488355328) (hcap2 : (E.length + 1) * 8 ≤ 140737488355328) (hb : Bs w ub b) (hk : Is w vk keep) (hub : b ≠ [] → ∀ x, ub.ownBlock = some x → x < base) (hvk : keep ≠ [] → ∀ x, vk.ownBlock = some x → x < base) (hn : IntKind.i64.wrap n = n) (K : Int) :
    Calls Try.prog 16 #[.pointer (some ⟨g, 0, none⟩), .agg #[.int .i64 K, .int .i64 wh, .int .i64 n, .int .i64 m, ub, .int .i64 cl, vk]] w fun r w' => r = .returned (.bool true) ∧ ∃ vD' vR' E', Book base w' g vD' vR' E' ∧ Few (M + 1) E' ∧ E.length ≤ E'.length ∧ E'.length ≤ E.length + 1 ∧ ((E = [] → E' = []) ∧ ∀ a b c, Shp a b c E → Shp a b c E') ∧ Past base w w' := by
  by_cases h0 : E = []
  · exact play_empty base g M vD vR ub vk E wh n m cl b keep w h hM hcap hcap2 hb hk hub hvk hn K h0
  have hpos : 0 < E.length := List.length_pos_iff.2 h0
  by_cases h12 : K = 12
  · subst h12; exact play_stop base g M vD vR ub vk E wh n m cl b keep w h hM hcap hcap2 hb hk hub hvk hn hpos
  by_cases h13 : K = 13
  · subst h13; exact play_crash base g M vD vR ub vk E wh n m cl b keep w h hM hcap hcap2 hb hk hub hvk hn hpos
  by_cases h14 : K = 14
  · subst h14; exact play_copy base g M vD vR ub vk E wh n m cl b keep w h hM hcap hcap2 hb hk hub hvk hn hpos
  exact play_rw base g M vD vR ub vk E wh n m cl b keep w h hM hcap hcap2 hb hk hub hvk hn hpos K h12 h13 h14
end Go.Proofs.Ytmipmiaflompmab

/-
  OWN WORK. The laws of disk: row, head (the document's examples).
-/
namespace Go.Proofs.Ytmipmiaflompmab
open Go.RowKit
set_option linter.unusedVariables false

theorem row_any (n : Nat) (x : UInt8) (w : World) (hn : n ≤ 1000) :
    Calls Try.prog 21 #[.int .i64 (n : Int), .int .u8 (x.toNat : Int)] w fun e w' => ∃ v, e = .returned v ∧ w'.ownsRow w.heap.size 5 1 v (List.replicate n x).length (u8s (List.replicate n x)) ∧ Kept [] w w' := by
  obtain ⟨l, hl⟩ : ∃ l, l = List.replicate n x := ⟨_, rfl⟩
  have hln : l.length = n := by rw [hl]; simp
  have hat : ∀ (k : Nat) (h : k < l.length), l[k] = x := fun k h => by simp [hl]
  rw [← hl]
  rw [← hln] at hn ⊢
  clear hl hln n
  have hmk := fun u => run_make_bs (P := Try.prog) u 25 5 Try.underlying25 (by kernel_rfl) l.length l.length (Nat.le_refl _) (by omega)
  have hown0 := own_made w 5 w.heap.size l.length l.length (Nat.le_refl _) (Nat.le_refl _) (by unfold maxLen; omega)
  have hk0 : Kept [] w (w.alloc (.cells (madeCells #[.int .u8 0] l.length) 5)) := (Kept.refl [] w).alloc _
  have h63 : l.length ≤ 9223372036854775807 := by omega
  have HAT : Hid (∀ (k : Nat) (h : k < l.length), l[k] = x) := hat
  clear hn hat
  go_enter Try.func21, Try.ntmps21
  go_wp2
  generalize w.alloc (.cells (madeCells #[.int .u8 0] l.length) 5) = w1 at *
  go_loopw [6] (fun i wr => ∃ k : Nat, k ≤ l.length ∧ i = .int .i64 k ∧ wr.ownsRow w.heap.size 5 1 (.slice (some ⟨w.heap.size, 0, none⟩) l.length l.length) l.length (u8s (l.take k ++ List.replicate (l.length - k) (0 : UInt8))) ∧ Kept [] w wr) (fun i _ => l.length - (intOf i).toNat)
  case atStart => exact ⟨0, Nat.zero_le _, rfl, by simpa using hown0, hk0⟩
  case round =>
    obtain ⟨k, hk, rfl, hown, hkept⟩ := hrel
    by_cases hlt : k < l.length
    · have hlen : (l.take k ++ List.replicate (l.length - k) (0 : UInt8)).length = l.length := by simp; omega
      have hcc := hown.cellAt k (by omega)
      rw [show (u8s (l.take k ++ List.replicate (l.length - k) (0 : UInt8)))[k]? = some (.int .u8 (((l.take k ++ List.replicate (l.length - k) (0 : UInt8))[k]'(by omega)).toNat : Int)) from by simp only [u8s, List.getElem?_map, List.getElem?_eq_getElem (show k < (l.take k ++ List.replicate (l.length - k) (0 : UInt8)).length by omega)]; rfl] at hcc
      have hf := hown.frozenAt k
      obtain ⟨ow2, kw2⟩ := set_own hown k l[k] _ rfl
      rw [copy_step l l.length k rfl hlt] at ow2
      rw [HAT.out k hlt] at ow2 kw2
      have hge := own_ge hown w.heap.size rfl
      have kw3 := hkept.trans kw2 (by intro x hx; simp at hx; subst hx; exact .inr hge)
      generalize (l.take k ++ List.replicate (l.length - k) (0 : UInt8))[k]'(by omega) = old at hcc
      clear kw2 hown hown0 hmk hlen
      go_wp2
      go_roundw
      case rel => exact ⟨k + 1, by omega, by go_num, ow2, kw3⟩
      case measure => simp [intOf]; omega
    · obtain rfl : k = l.length := by omega
      clear hown0 hmk
      go_wp2
      go_ret
      exact ⟨_, rfl, by simpa using hown, hkept⟩
/-- 'append(out, b...)' behind a guard that holds -/
theorem wpList_append_bs_g {P : Program} {w : World} {ops : Array Oper} {rest : List Oper} {o : Oper} {a : Act} {Q : Exit → Act → World → Prop} (hwd : Region.wanted o (yielded ops a.tmps) = true) (s x : Operand) (t : TypeId)
    (ho : o.op = .call { callee := .builtin .append, args := #[s, x], argTypes := #[t, t] }) (base : Nat) (e : TypeId) (hu : P.underlying t = some (.slice e))
    (hinf : (P.info? e).map (fun i => (i.zero, i.size, i.bytes)) = some (some (.int .u8 0), 1, 1))
    (v : Value) (n : Nat) (xs : List Value) (hs : a.eval s = v) (hown : w.ownsRow base e 1 v n xs) (sv : Value) (l : List UInt8) (hx : a.eval x = sv) (hb : Bs w sv l) (hpos : 0 < l.length)
    (hroom : n + l.length ≤ 140737488355328) (hbase : base ≤ w.heap.size)
    (h : ∀ v' w', w'.ownsRow base e 1 v' (n + l.length) (xs ++ u8s l) → w.grownBy w' v.ownBlock → (v'.ownBlock = v.ownBlock ∨ v'.ownBlock = some w.heap.size) → wpList P ops Q rest (a.put o.dst v') w') :
    wpList P ops Q (o :: rest) a w := by
  obtain ⟨i, hi, hz, hsz, hby⟩ := info_parts hinf
  obtain ⟨p, c, rfl, h1, h2, h3, h4⟩ := hb
  cases p with
  | none => have hc := h3 rfl; omega
  | some ad =>
    refine wpList_step fun K hK => ?_
    rw [if_pos hwd]
    obtain ⟨v', w', hr, k1, k2, _, k4⟩ := run_append_own_at (P := P) w base t o.type e i (.int .u8 0) 1 1 hu hi hz hsz hby rfl (by decide) v n xs hown ad l.length c (u8s l) (by simp [u8s])
      (fun j u hj => by obtain ⟨y, hy, rfl⟩ := u8s_at hj; exact h4 ad rfl j y hy) (u8s_one l) (by unfold maxLen; omega) (by omega) hbase
    unfold Oper.wp execOp
    simp only [ho, resolve, invoke, builtin, Sem.run_bind, Sem.run_pure, Result.andThen_ok, List.map_toArray, List.map_cons, List.map_nil, hs, hx, hr]
    exact hK _ _ (h v' w' k1 k2 k4)
/-- the disks of the examples -/
def e0 : DS := DS.blank 2 1 1024
def e1 : DS := e0.act
def e2 : DS := e1.write (pageIx 2 0) (List.replicate 40 1)
def e3 : DS := e2.append [4, 5]
def e4 : DS := e3.crash 1 [3]
theorem ex_1 : newE 2 1 1024 = 0 := by decide
theorem ex_2 : newD 2 1 1024 = e0 := rfl
theorem ex_3 : readE e0 (pageIx 2 2) = 61 := by decide
theorem ex_4 : writeE e1 (pageIx 2 0) (List.replicate 40 1) = 0 := by decide
theorem ex_5 : appendE e2 [4, 5] = 0 := by decide
theorem ex_6 : e3.acts = 3 := by decide
theorem ex_7 : e3.log.length = 2 := by decide
theorem ex_8 : readE e4 (pageIx 2 0) = 0 := by decide
theorem ex_9 : readL e4 (pageIx 2 0) = List.replicate 2 1 ++ List.replicate 38 0 := by decide
theorem ex_10 : readLogE e4.act 0 9 = 0 := by decide
theorem ex_11 : readLogL e4.act 0 9 = [4] := by decide
theorem is_lit (w : World) (t : TypeId) (x : Int) (h : IntKind.i64.wrap x = x) : Is (w.alloc (.cells #[.int .i64 x] t)) (.slice (some ⟨w.heap.size, 0, none⟩) 1 1) [x] := by
  refine ⟨some ⟨w.heap.size, 0, none⟩, 1, rfl, Nat.le_refl _, by simp [maxLen], fun e => (by cases e), by simpa using h, fun a e i y hy => ?_⟩
  cases e
  rcases i with _ | i
  · simp at hy; subst hy
    rw [add_none rfl]
    simp [go_sem]
  · simp at hy
set_option maxHeartbeats 3200000 in
theorem head_any (w : World) :
    Calls Try.prog 4 #[] w fun r w' => r = .returned (.bool true) ∧ Kept [] w w' := by
  have hN := fNew 2 1 1024 w
  rw [ex_1, ex_2] at hN
  go_enter Try.func4, Try.ntmps4
  go_wp2_with fail
  refine hN.mono ?_
  clear hN
  rintro r w1 ⟨u, rfl, ⟨-, F0, p0, f0, k1, -⟩ | ⟨h9, -⟩⟩
  case inr => exact absurd rfl h9
  obtain ⟨gd, rfl⟩ := p0.ptr
  have hR := fReadPage _ e0 F0 2 w1 p0
  rw [show e0.np = 2 from rfl, ex_3] at hR
  go_wp2_with fail
  refine hR.mono ?_
  clear hR
  rintro r w2 ⟨c1, F1, rfl, o1, -, p1, x1⟩
  obtain ⟨pc1, cc1, rfl⟩ := own_shape2 o1
  have hrow := row_any 40 1 w2 (by decide)
  rw [show ((40 : Nat) : Int) = 40 from rfl, show (((1 : UInt8).toNat : Nat) : Int) = 1 from rfl] at hrow
  have lt1 := p1.lt
  go_wp2_with fail
  refine hrow.mono ?_
  clear hrow
  rintro r w3 ⟨v3, rfl, o3, k3⟩
  have hW := fWritePage _ e1 F1 0 v3 (List.replicate 40 1) w3 (p1.kept k3 (by simp)) (Bs.ofOwn o3) (fun _ x hx hm => by have := own_ge o3 x hx; have := lt1 x (Foot.inOwn hm); omega) (by decide)
  rw [show e1.np = 2 from rfl, ex_4] at hW
  obtain ⟨p3, c3, rfl⟩ := own_shape2 o3
  go_wp2_with fail
  refine hW.mono ?_
  clear hW
  rintro r w4 ⟨F2, rfl, p2, x2⟩
  have k45 := (Kept.refl [] w4).alloc (.cells #[.int .u8 4, .int .u8 5] 5)
  have lt2 := p2.lt
  have hA := fAppend _ e2 F2 (.slice (some ⟨w4.heap.size, 0, none⟩) 2 2) [4, 5] (w4.alloc (.cells #[.int .u8 4, .int .u8 5] 5)) (p2.kept k45 (by simp)) (Bs.ofOwn (own_of_lit w4 5 0 [4, 5] (Nat.zero_le _) (by simp [maxLen]))) (fun _ x hx hm => by have := lt2 x (Foot.inOwn hm); simp [Value.ownBlock] at hx; omega)
  rw [ex_5] at hA
  go_wp2_with fail
  refine hA.mono ?_
  clear hA
  rintro r w5 ⟨F3, rfl, p3', x3⟩
  have hAc := fActs _ e3 F3 w5 p3'
  rw [ex_6] at hAc
  go_wp2_with fail
  refine hAc.mono ?_
  clear hAc
  rintro r w6 ⟨rfl, k6⟩
  have hLL := fLogLen _ e3 F3 w6 (p3'.kept k6 (by simp))
  rw [ex_7] at hLL
  go_wp2_with fail
  refine hLL.mono ?_
  clear hLL
  rintro r w7 ⟨rfl, k7⟩
  have p7 := (p3'.kept k6 (by simp)).kept k7 (by simp)
  have k78 := (Kept.refl [] w7).alloc (.cells #[.int .i64 3] 3)
  have hC := fCrash _ e3 F3 1 (.slice (some ⟨w7.heap.size, 0, none⟩) 1 1) [3] (w7.alloc (.cells #[.int .i64 3] 3)) (p7.kept k78 (by simp)) (is_lit w7 3 3 (by decide))
  go_wp2_with fail
  refine hC.mono ?_
  clear hC
  rintro r w9 ⟨cu, rfl, FC, pC, fC, k9, -⟩
  obtain ⟨gc, rfl⟩ := pC.ptr
  have hR := fReadPage _ e4 FC 0 w9 pC
  rw [show e4.np = 2 from rfl, ex_8, ex_9] at hR
  go_wp2_with fail
  refine hR.mono ?_
  clear hR
  rintro r w10 ⟨c10, F4, rfl, o10, a10, p10, x10⟩
  have hL := fReadLog _ e4.act F4 0 9 w10 p10
  rw [ex_10, ex_11] at hL
  obtain ⟨pc10, cc10, rfl⟩ := own_shape2 o10
  go_wp2_with fail
  refine hL.mono ?_
  clear hL
  rintro r w11 ⟨c11, F5, rfl, o11, -, p11, x11⟩
  obtain ⟨pc11, cc11, rfl⟩ := own_shape2 o11
  have hrow := row_any 2 1 w11 (by decide)
  rw [show ((2 : Nat) : Int) = 2 from rfl, show (((1 : UInt8).toNat : Nat) : Int) = 1 from rfl] at hrow
  go_wp2_with fail
  refine hrow.mono ?_
  clear hrow
  rintro r w12 ⟨v12, rfl, o12, k12⟩
  obtain ⟨pc12, cc12, rfl⟩ := own_shape2 o12
  have hrow := row_any 38 0 w12 (by decide)
  rw [show ((38 : Nat) : Int) = 38 from rfl, show (((0 : UInt8).toNat : Nat) : Int) = 0 from rfl] at hrow
  go_wp2_with fail
  refine hrow.mono ?_
  clear hrow
  rintro r w13 ⟨v13, rfl, o13, k13⟩
  obtain ⟨pc13, cc13, rfl⟩ := own_shape2 o13
  have O12 := own_of_kept o12 k13 (by simp)
  have B13 := Bs.ofOwn o13
  go_wp2_with (at_builtin; refine wpList_append_bs_g (by rfl) (.tmp 76) (.tmp 77) 25 rfl w11.heap.size 5 Try.underlying25 (by kernel_rfl) _ _ _ (by rfl) O12 _ (List.replicate 38 0) (by rfl) B13 (by simp) (by simp) (Nat.le_trans k12.size k13.size) ?_; intro v14 w14 o14 g14 at14; obtain ⟨pc14, cc14, rfl⟩ := own_shape2 o14)
  have k1214 : Kept [] w11 w14 := (k12.then k13).grown g14 (fun z hz => .inr (own_ge o12 z hz))
  have hs1 : Bs w14 (.slice pc10 40 cc10) (List.replicate 2 1 ++ List.replicate 38 0) := (Bs.keptOwn (Bs.ofOwn o10) x11.1 (fun x hx hm => a10 x hx (Foot.inOwn hm))).kept k1214
  have hs2 : Bs w14 (.slice pc14 40 cc14) (List.replicate 2 1 ++ List.replicate 38 0) := Bs.ofOwn (by rw [u8s_append]; exact o14)
  have hS := same_eq _ _ _ w14 hs1 hs2
  have hs3 : Bs (w14.alloc (.cells #[.int .u8 4] 5)) (.slice pc11 1 cc11) [4] := (Bs.ofOwn o11).kept (k1214.alloc _)
  have hs4 : Bs (w14.alloc (.cells #[.int .u8 4] 5)) (.slice (some ⟨w14.heap.size, 0, none⟩) 1 1) [4] := Bs.ofOwn (own_of_lit w14 5 0 [4] (Nat.zero_le _) (by simp [maxLen]))
  have hS2 := same_eq _ _ _ _ hs3 hs4
  have n1 : ∀ x ∈ F1.own, w.heap.size ≤ x := fun x hx => by have := k1.size; rcases x1.2.1 x hx with c | c; exact f0 x c; omega
  have s2 : w.heap.size ≤ w2.heap.size := Nat.le_trans k1.size x1.1.size
  have s3 := Nat.le_trans s2 k3.size
  have n2 : ∀ x ∈ F2.own, w.heap.size ≤ x := fun x hx => by rcases x2.2.1 x hx with c | c; exact n1 x c; omega
  have s4 := Nat.le_trans s3 x2.1.size
  have q4 : Kept [] w w4 := ((k1.trans x1.1 (fun x hx => .inr (f0 x hx))).then k3).trans x2.1 (fun x hx => .inr (n1 x hx))
  have q5 : Kept [] w w5 := (q4.then k45).trans x3.1 (fun x hx => .inr (n2 x hx))
  have q9 : Kept [] w w9 := (((q5.then k6).then k7).then k78).then k9
  have nC : ∀ x ∈ FC.own, w.heap.size ≤ x := fun x hx => Nat.le_trans (((q5.then k6).then k7).then k78).size (fC x hx)
  have q10 : Kept [] w w10 := q9.trans x10.1 (fun x hx => .inr (nC x hx))
  have nD : ∀ x ∈ F4.own, w.heap.size ≤ x := fun x hx => by have := q9.size; rcases x10.2.1 x hx with c | c; exact nC x c; omega
  have kk : Kept [] w w11 := q10.trans x11.1 (fun x hx => .inr (nD x hx))
  refine hS.mono ?_
  clear hS
  rintro r w15 ⟨rfl, rfl⟩
  go_wp2_with fail
  refine hS2.mono ?_
  clear hS2
  rintro r w16 ⟨rfl, rfl⟩
  go_wp2
  go_ret
  exact ⟨rfl, (kk.then k1214).alloc _⟩
end Go.Proofs.Ytmipmiaflompmab

/-
  OWN WORK. A script of calls of a disk that came in.
-/
namespace Go.Proofs.Ytmipmiaflompmab
open Go.ChangeShapes Go.WideShapes Go.ChangeAt Go.RowKit Go.Deep
set_option linter.unusedVariables false

theorem bsV_open {H : Type} {enc : TypeId × Value → H} {W : World} {t e : TypeId} {fuel : Nat} {v : Value} {x : DataW H × List MemPlace} (ht : Try.prog.underlying t = some (.slice e)) (he : Try.prog.underlying e = some (.int .u8)) (hc : Try.prog.cellsOf e = 1)
    (hf : DataW.trod enc Try.prog W 0 (fun _ => true) true fuel t [v] = some x) : ∃ l : List UInt8, Bs W v l := by
  rcases open_ints ht he hc hf with ⟨hcs, hx⟩ | ⟨a, len, cap, zs, hcs, _, hl, hm, hz, hx, hcell, hwz⟩
  · simp at hcs
    subst hcs
    exact ⟨[], Bs.nil W⟩
  · simp at hcs
    subst hcs
    have hz' : zs.length = cap := by simpa using hz
    exact ⟨bytesOfInts (zs.take len), bs_cells hl hm hz' (fun e => by cases e) (fun a' ha i hi => by cases ha; exact hcell i (by omega)) hwz⟩
theorem isV_open {H : Type} {enc : TypeId × Value → H} {W : World} {t e : TypeId} {fuel : Nat} {v : Value} {x : DataW H × List MemPlace} (ht : Try.prog.underlying t = some (.slice e)) (he : Try.prog.underlying e = some (.int .i64)) (hc : Try.prog.cellsOf e = 1)
    (hf : DataW.trod enc Try.prog W 0 (fun _ => true) true fuel t [v] = some x) : ∃ l : List Int, Is W v l := by
  rcases open_ints ht he hc hf with ⟨hcs, hx⟩ | ⟨a, len, cap, zs, hcs, _, hl, hm, hz, hx, hcell, hwz⟩
  · simp at hcs
    subst hcs
    exact ⟨[], none, 0, rfl, Nat.le_refl _, by simp [maxLen], fun _ => rfl, by simp, fun a e => (by cases e)⟩
  · simp at hcs
    subst hcs
    have hz' : zs.length = cap := by simpa using hz
    have hlen : (zs.take len).length = len := by simp; omega
    refine ⟨zs.take len, some a, cap, by rw [hlen], by rw [hlen]; exact hl, hm, fun e => (by cases e), fun y hy => ?_, fun a' ha i y hy => ?_⟩
    · have hw := hwz y (List.mem_of_mem_take hy)
      have hb : -9223372036854775808 ≤ y ∧ y ≤ 9223372036854775807 := by simpa [Lit.wf, IntKind.min, IntKind.max, IntKind.signed, IntKind.bits] using hw
      exact wrap_i64_of (by omega) (by omega)
    · cases ha
      have hi : i < len := by rw [← hlen]; exact (List.getElem?_eq_some_iff.1 hy).1
      rw [hcell i (by omega)]
      rw [List.getElem?_take, if_pos hi] at hy
      simp [List.getD, hy]
/-- a call of a script: its numbers, its bytes, a crash's choice -/
structure OpR where
  kind : Int
  which : Int
  n : Int
  m : Int
  ub : Value
  b : List UInt8
  cl : Int
  vk : Value
  keep : List Int
structure OpAt (w : World) (a : Addr) (s : OpR) : Prop where
  c0 : w.cell? a = some (.int .i64 s.kind)
  c1 : w.cell? (a.add 1) = some (.int .i64 s.which)
  c2 : w.cell? (a.add 2) = some (.int .i64 s.n)
  c3 : w.cell? (a.add 3) = some (.int .i64 s.m)
  c4 : w.cell? (a.add 4) = some s.ub
  c5 : w.cell? (a.add 5) = some (.int .i64 s.cl)
  c6 : w.cell? (a.add 6) = some s.vk
  b : Bs w s.ub s.b
  k : Is w s.vk s.keep
  n : IntKind.i64.wrap s.n = s.n
/-- THE VALUE v IS A SLICE OF THESE CALLS IN w. -/
def Ops (w : World) (v : Value) (ss : List OpR) : Prop :=
  ∃ (p : Option Addr) (c : Nat), v = .slice p ss.length c ∧ ss.length ≤ c ∧ c ≤ maxLen ∧ (p = none → c = 0) ∧ ∀ a, p = some a → ∀ (i : Nat) s, ss[i]? = some s → OpAt w (a.add (i * 7)) s
theorem OpAt.kept {w w' : World} {a : Addr} {s : OpR} (h : OpAt w a s) (k : Kept [] w w') : OpAt w' a s :=
  ⟨k.cell h.c0 (by simp), k.cell h.c1 (by simp), k.cell h.c2 (by simp), k.cell h.c3 (by simp), k.cell h.c4 (by simp), k.cell h.c5 (by simp), k.cell h.c6 (by simp), h.b.kept k, h.k.kept k, h.n⟩
theorem Ops.kept {w w' : World} {v : Value} {ss : List OpR} (h : Ops w v ss) (k : Kept [] w w') : Ops w' v ss := by
  obtain ⟨p, c, e, h1, h2, h3, h4⟩ := h
  exact ⟨p, c, e, h1, h2, h3, fun a ha i s hs => (h4 a ha i s hs).kept k⟩
theorem six_of {α : Type} {l : List α} (h : l.length = 6) : ∃ a b c d e f, l = [a, b, c, d, e, f] := by
  match l, h with
  | [a, b, c, d, e, f], _ => exact ⟨a, b, c, d, e, f, rfl⟩
theorem seven_of {α : Type} {l : List α} (h : l.length = 7) : ∃ a b c d e f g, l = [a, b, c, d, e, f, g] := by
  match l, h with
  | [a, b, c, d, e, f, g], _ => exact ⟨a, b, c, d, e, f, g, rfl⟩
theorem i64_wf {z : Int} (h : (Lit.int .i64 z).wf = true) : IntKind.i64.wrap z = z := by
  have hb : -9223372036854775808 ≤ z ∧ z ≤ 9223372036854775807 := by simpa [Lit.wf, IntKind.min, IntKind.max, IntKind.signed, IntKind.bits] using h
  exact wrap_i64_of (by omega) (by omega)
theorem ops_open {H : Type} {enc : TypeId × Value → H} {W : World} {t e eb ek : TypeId} {f0 f1 f2 f3 f4 f5 h0 h1 : Field} {ao : Option Addr} {len cap : Nat} {d : DataW H} {p : List MemPlace} (ht : Try.prog.underlying t = some (.slice e)) (he : Try.prog.underlying e = some (.struct #[f0, f1, f2, f3, f4, f5]))
    (ce : Try.prog.cellsOf e = 7) (o0 : f0.offset = 0) (o1 : f1.offset = 1) (o2 : f2.offset = 2) (o3 : f3.offset = 3) (o4 : f4.offset = 4) (o5 : f5.offset = 5)
    (c0 : Try.prog.cellsOf f0.type = 1) (c1 : Try.prog.cellsOf f1.type = 1) (c2 : Try.prog.cellsOf f2.type = 1) (c3 : Try.prog.cellsOf f3.type = 1) (c4 : Try.prog.cellsOf f4.type = 1) (c5 : Try.prog.cellsOf f5.type = 2)
    (t0 : Try.prog.underlying f0.type = some (.int .i64)) (t1 : Try.prog.underlying f1.type = some (.int .i64)) (t2 : Try.prog.underlying f2.type = some (.int .i64)) (t3 : Try.prog.underlying f3.type = some (.int .i64)) (t4 : Try.prog.underlying f4.type = some (.slice eb)) (tb8 : Try.prog.underlying eb = some (.int .u8)) (cb : Try.prog.cellsOf eb = 1)
    (t5 : Try.prog.underlying f5.type = some (.struct #[h0, h1])) (p0 : h0.offset = 0) (p1 : h1.offset = 1) (d0 : Try.prog.cellsOf h0.type = 1) (d1 : Try.prog.cellsOf h1.type = 1) (u0 : Try.prog.underlying h0.type = some (.int .i64)) (u1 : Try.prog.underlying h1.type = some (.slice ek)) (uk : Try.prog.underlying ek = some (.int .i64)) (ck : Try.prog.cellsOf ek = 1)
    (h : DataW.Trod enc Try.prog W 0 (fun _ => true) true t (.slice ao len cap) d p) : ∃ ss : List OpR, ss.length = len ∧ Ops W (.slice ao len cap) ss ∧ (d = .nil ∧ len = 0 ∨ ∃ el sp, d = .slice el sp ∧ el.length = len) := by
  obtain ⟨fuel, hf⟩ := h
  rcases open_slice ht hf with ⟨hcs, hx⟩ | ⟨a, l, c, m, n, D, Pl, hcs, hb, hl, hm, hmm, hx, hel⟩
  · simp [Value.cells] at hcs
    obtain ⟨rfl, rfl, rfl⟩ := hcs
    obtain ⟨rfl, -⟩ := Prod.mk.inj hx
    exact ⟨[], rfl, ⟨none, 0, rfl, Nat.le_refl _, by simp [maxLen], fun _ => rfl, fun a e => (by cases e)⟩, .inl ⟨rfl, rfl⟩⟩
  · simp [Value.cells] at hcs
    obtain ⟨rfl, rfl, rfl⟩ := hcs
    obtain ⟨rfl, -⟩ := Prod.mk.inj hx
    have hmm' : m = cap := by simpa using hmm
    have each : ∀ i, i < m → ∃ q : OpR, OpAt W (a.add (i * 7)) q := by
      intro i hi
      obtain ⟨cs', g1, g2⟩ := hel i hi
      rw [ce] at g1
      obtain ⟨_, hlen, hcell⟩ := World.cells?_some g1
      obtain ⟨xs, k, hk, hxy, _, hxl, hff⟩ := DataW.trod_struct he g2
      obtain ⟨y0, y1, y2, y3, y4, y5, rfl⟩ := six_of (show xs.length = 6 from hxl)
      obtain ⟨v0, v1, v2, v3, v4, v5, v6, rfl⟩ := seven_of hlen
      have q0 := hff 0 f0 rfl
      have q1 := hff 1 f1 rfl
      have q2 := hff 2 f2 rfl
      have q3 := hff 3 f3 rfl
      have q4 := hff 4 f4 rfl
      have q5 := hff 5 f5 rfl
      simp [o0, o1, o2, o3, o4, o5, c0, c1, c2, c3, c4, c5] at q0 q1 q2 q3 q4 q5
      obtain ⟨z0, e0, -, -⟩ := DataW.trod_int t0 q0
      obtain ⟨z1, e1, -, -⟩ := DataW.trod_int t1 q1
      obtain ⟨z2, e2, -, w2⟩ := DataW.trod_int t2 q2
      obtain ⟨z3, e3, -, -⟩ := DataW.trod_int t3 q3
      obtain ⟨lb, hbs⟩ := bsV_open t4 tb8 cb q4
      obtain ⟨r0, r1, n2, -, -, s0, s1⟩ := trod_struct2 t5 q5
      simp [p0, p1, d0, d1] at s0 s1
      obtain ⟨z5, e5, -, -⟩ := DataW.trod_int u0 s0
      obtain ⟨lk, hks⟩ := isV_open u1 uk ck s1
      simp at e0 e1 e2 e3 e5
      subst e0 e1 e2 e3 e5
      have x0 := hcell 0 (by omega)
      have x1 := hcell 1 (by omega)
      have x2 := hcell 2 (by omega)
      have x3 := hcell 3 (by omega)
      have x4 := hcell 4 (by omega)
      have x5 := hcell 5 (by omega)
      have x6 := hcell 6 (by omega)
      refine ⟨⟨z0, z1, z2, z3, v4, lb, z5, v6, lk⟩, ?_, ?_, ?_, ?_, ?_, ?_, ?_, hbs, hks, i64_wf w2⟩
      · have : (a.add (i * 7)).add 0 = a.add (i * 7) := by rw [Go.Proofs.Ytmipmiaflompmab.add_add]; rfl
        rw [this] at x0
        simpa using x0
      · simpa using x1
      · simpa using x2
      · simpa using x3
      · simpa using x4
      · simpa using x5
      · simpa using x6
    haveI : Inhabited OpR := ⟨⟨0, 0, 0, 0, .bool false, [], 0, .bool false, []⟩⟩
    obtain ⟨q, hq⟩ := choose_lt each
    refine ⟨(List.range len).map q, by simp, ⟨some a, cap, by simp, by simpa using hl, hm, fun e => (by cases e), fun a' e i s hs => ?_⟩, .inr ⟨_, _, rfl, by simp⟩⟩
    cases e
    simp only [List.getElem?_map] at hs
    obtain ⟨j, hj, rfl⟩ := Option.map_eq_some_iff.1 hs
    obtain ⟨hj2, rfl⟩ := List.getElem?_eq_some_iff.1 hj
    have hi : i < len := by simpa using hj2
    simp only [List.getElem_range]
    exact hq i (by omega)
end Go.Proofs.Ytmipmiaflompmab

/-
  OWN WORK. DiskAll: the walk.
-/
namespace Go.Proofs.Ytmipmiaflompmab
open Go.RowKit
set_option linter.unusedVariables false

/-- a call of the script, where it lies -/
theorem Ops.at {w : World} {v : Value} {ss : List OpR} (h : Ops w v ss) {k : Nat} {s : OpR} (hk : ss[k]? = some s) :
    ∃ b o c, v = .slice (some ⟨b, o, none⟩) ss.length c ∧ w.cell? ⟨b, o + k * 7, none⟩ = some (.int .i64 s.kind) ∧ w.cell? ⟨b, o + k * 7 + 1, none⟩ = some (.int .i64 s.which) ∧ w.cell? ⟨b, o + k * 7 + 2, none⟩ = some (.int .i64 s.n) ∧ w.cell? ⟨b, o + k * 7 + 3, none⟩ = some (.int .i64 s.m) ∧ w.cell? ⟨b, o + k * 7 + 4, none⟩ = some s.ub ∧ w.cell? ⟨b, o + k * 7 + 5, none⟩ = some (.int .i64 s.cl) ∧ w.cell? ⟨b, o + k * 7 + 6, none⟩ = some s.vk ∧ Bs w s.ub s.b ∧ Is w s.vk s.keep ∧ IntKind.i64.wrap s.n = s.n := by
  obtain ⟨p, c, rfl, h1, h2, h3, h4⟩ := h
  have hkl := (List.getElem?_eq_some_iff.1 hk).1
  cases p with
  | none => have := h3 rfl; omega
  | some a =>
    have h0 := (h4 a rfl 0 ss[0] (List.getElem?_eq_getElem (by omega))).c0
    have hs := spot_of_cell h0
    have hs' : a.spot = none := by
      unfold Addr.add at hs
      split at hs <;> simp_all
    obtain ⟨g0, g1, g2, g3, g4, g5, g6, g7, g8, g9⟩ := h4 a rfl k s hk
    obtain ⟨b, o, sp⟩ := a
    simp only at hs'
    subst hs'
    have hA : (⟨b, o, none⟩ : Addr).add (k * 7) = ⟨b, o + k * 7, none⟩ := add_none (a := ⟨b, o, none⟩) rfl (k * 7)
    rw [hA] at g0 g1 g2 g3 g4 g5 g6
    rw [add_none (a := ⟨b, o + k * 7, none⟩) rfl] at g1 g2 g3 g4 g5 g6
    exact ⟨b, o, c, rfl, g0, g1, g2, g3, g4, g5, g6, g7, g8, g9⟩
theorem Bs.far {w : World} {v : Value} {l : List UInt8} (h : Bs w v l) (hl : l ≠ []) : ∀ x, v.ownBlock = some x → x < w.heap.size := by
  obtain ⟨b, o, c, rfl, -, -, hb, -⟩ := h.pos (List.length_pos_iff.2 hl)
  intro x hx
  simp [Value.ownBlock] at hx
  omega
theorem Is.far {w : World} {v : Value} {l : List Int} (h : Is w v l) (hl : l ≠ []) : ∀ x, v.ownBlock = some x → x < w.heap.size := by
  obtain ⟨b, o, c, rfl, hb, -⟩ := h.pos (List.length_pos_iff.2 hl)
  intro x hx
  simp [Value.ownBlock] at hx
  omega
/-- 'play' at a call of the script -/
theorem play_op {base g M : Nat} {vD vR : Value} {E : List Ent} {w0 w : World} {s : OpR} (h : Book base w g vD vR E) (hM : Few M E) (hcap : (M + 1) * 40 ≤ 140737488355328) (hcap2 : (E.length + 1) * 8 ≤ 140737488355328) (hb : Bs w0 s.ub s.b) (hk : Is w0 s.vk s.keep) (hn : IntKind.i64.wrap s.n = s.n) (k : Kept [] w0 w) (hbase : w0.heap.size ≤ base) :
    Calls Try.prog 16 #[.pointer (some ⟨g, 0, none⟩), .agg #[.int .i64 s.kind, .int .i64 s.which, .int .i64 s.n, .int .i64 s.m, s.ub, .int .i64 s.cl, s.vk]] w fun r w' => r = .returned (.bool true) ∧ ∃ vD' vR' E', Book base w' g vD' vR' E' ∧ Few (M + 1) E' ∧ E.length ≤ E'.length ∧ E'.length ≤ E.length + 1 ∧ ((E = [] → E' = []) ∧ ∀ a b c, Shp a b c E → Shp a b c E') ∧ Past base w w' :=
  play_any base g M vD vR s.ub s.vk E s.which s.n s.m s.cl s.b s.keep w h hM hcap hcap2 (hb.kept k) (hk.kept k) (fun h0 x hx => Nat.lt_of_lt_of_le (hb.far h0 x hx) hbase) (fun h0 x hx => Nat.lt_of_lt_of_le (hk.far h0 x hx) hbase) hn s.kind
end Go.Proofs.Ytmipmiaflompmab

/-
  OWN WORK. DiskKeeps: one disk and the document's, made anew, or none of both.
-/
namespace Go.Proofs.Ytmipmiaflompmab
open Go.RowKit
set_option linter.unusedVariables false

def One1 (base : Nat) (w : World) (ud ur : Value) (d : DS) (E : Int) : Prop :=
  (E = 0 ∧ ∃ (gv gu : Nat) (F : Foot) (Bq : List Nat), ud = .pointer (some ⟨gv, 0, none⟩) ∧ ur = .pointer (some ⟨gu, 0, none⟩) ∧ PF w ud d F ∧ QD w ur d Bq ∧ (∀ x ∈ F.all, base ≤ x) ∧ (∀ x ∈ Bq, base ≤ x) ∧ (∀ x ∈ F.all, x ∉ Bq) ∧ d.loose = []) ∨ (E ≠ 0 ∧ ud = .pointer none ∧ ur = .pointer none)
theorem One1.of {w5 w6 w7 w9 : World} {ud ur : Value} {d : DS} {E : Int} {S : List Nat} (hM : MadeP w5 w6 ud d E) (hR : Made QD w6 w7 ur d E) (hl : d.loose = []) (k : Kept S w7 w9) (hS : ∀ x ∈ S, x < w5.heap.size) : One1 w5.heap.size w9 ud ur d E := by
  rcases hM with ⟨e1, F, pF, oF, kF, zF⟩ | ⟨e1, rfl, kF⟩
  · rcases hR with ⟨-, Bq, pB, oB, kB⟩ | ⟨e2, -, -⟩
    · obtain ⟨gv, rfl⟩ := pF.ptr
      obtain ⟨gu, rfl⟩ := pB.ptr
      have hall : ∀ x ∈ F.all, w5.heap.size ≤ x := fun x hx => by
        rcases Foot.mem_all.1 hx with c | c
        · exact oF x c
        · exact absurd (zF x c) (by simp)
      have hlt := pF.lt
      have s1 := kF.size
      refine .inl ⟨e1, gv, gu, F, Bq, rfl, rfl, (pF.kept kB (by simp)).kept k (fun x hx hm => by have := hall x hm; have := hS x hx; omega), pB.kept k (fun x hx hm => by have := oB x hm; have := hS x hx; omega), hall, fun x hx => by have := oB x hx; omega, fun x hx hm => by have := hlt x hx; have := oB x hm; omega, hl⟩
    · exact absurd e1 e2
  · rcases hR with ⟨e2, -⟩ | ⟨-, rfl, -⟩
    · exact absurd e2 e1
    · exact .inr ⟨e1, rfl, rfl⟩
theorem One1.mono {b b' : Nat} {w : World} {ud ur : Value} {d : DS} {E : Int} (h : One1 b w ud ur d E) (hb : b' ≤ b) : One1 b' w ud ur d E := by
  rcases h with ⟨e, gv, gu, F, Bq, h1, h2, h3, h4, h5, h6, h7, h8⟩ | h
  · exact .inl ⟨e, gv, gu, F, Bq, h1, h2, h3, h4, fun x hx => Nat.le_trans hb (h5 x hx), fun x hx => Nat.le_trans hb (h6 x hx), h7, h8⟩
  · exact .inr h
theorem own_oneK (w : World) {base : Nat} (e : TypeId) (v : Value) (hb : base ≤ w.heap.size) : (w.alloc (.cells #[v] e)).ownsRow base e 1 (.slice (some ⟨w.heap.size, 0, none⟩) 1 1) 1 [v] :=
  ⟨rfl, .inr ⟨w.heap.size, 1, #[v], rfl, hb, heap_alloc_new w _, Nat.le_refl _, by simp [maxLen], rfl, rfl⟩⟩
/-- a book of one disk -/
theorem Book.one {base : Nat} {w : World} {gv gu : Nat} {d : DS} {F : Foot} {Bq : List Nat} (hp : PF w (.pointer (some ⟨gv, 0, none⟩)) d F) (hq : QD w (.pointer (some ⟨gu, 0, none⟩)) d Bq) (hF : ∀ x ∈ F.all, base ≤ x) (hB : ∀ x ∈ Bq, base ≤ x) (hd : ∀ x ∈ F.all, x ∉ Bq) (hb : base ≤ w.heap.size) :
    Book base (((w.alloc (.cells #[.pointer (some ⟨gv, 0, none⟩)] 32)).alloc (.cells #[.pointer (some ⟨gu, 0, none⟩)] 36)).alloc (.cells #[.slice (some ⟨w.heap.size, 0, none⟩) 1 1, .slice (some ⟨w.heap.size + 1, 0, none⟩) 1 1] 47)) (w.heap.size + 1 + 1) (.slice (some ⟨w.heap.size, 0, none⟩) 1 1) (.slice (some ⟨w.heap.size + 1, 0, none⟩) 1 1) [⟨.pointer (some ⟨gv, 0, none⟩), .pointer (some ⟨gu, 0, none⟩), d, ⟨F.own ++ Bq, F.frz⟩⟩] := by
  have k1 := (Kept.refl [] w).alloc (.cells #[.pointer (some ⟨gv, 0, none⟩)] 32)
  have k2 := (Kept.refl [] (w.alloc (.cells #[.pointer (some ⟨gv, 0, none⟩)] 32))).alloc (.cells #[.pointer (some ⟨gu, 0, none⟩)] 36)
  have k3 := (Kept.refl [] ((w.alloc (.cells #[.pointer (some ⟨gv, 0, none⟩)] 32)).alloc (.cells #[.pointer (some ⟨gu, 0, none⟩)] 36))).alloc (.cells #[.slice (some ⟨w.heap.size, 0, none⟩) 1 1, .slice (some ⟨w.heap.size + 1, 0, none⟩) 1 1] 47)
  have o1 := own_of_kept (own_of_kept (own_oneK w (base := base) 32 (.pointer (some ⟨gv, 0, none⟩)) hb) k2 (by simp)) k3 (by simp)
  have o2 := own_oneK (w.alloc (.cells #[.pointer (some ⟨gv, 0, none⟩)] 32)) (base := base) 36 (.pointer (some ⟨gu, 0, none⟩)) (Nat.le_trans hb k1.size)
  rw [World.size_alloc] at o2
  have o2' := own_of_kept o2 k3 (by simp)
  have bB := Blk.new ((w.alloc (.cells #[.pointer (some ⟨gv, 0, none⟩)] 32)).alloc (.cells #[.pointer (some ⟨gu, 0, none⟩)] 36)) 47 [.slice (some ⟨w.heap.size, 0, none⟩) 1 1, .slice (some ⟨w.heap.size + 1, 0, none⟩) 1 1]
  rw [World.size_alloc, World.size_alloc] at bB
  have kk := (k1.then k2).then k3
  have hlt : ∀ x ∈ (⟨F.own ++ Bq, F.frz⟩ : Foot).all, base ≤ x ∧ x < w.heap.size := fun x hx => by
    rcases Foot.mem_all.1 hx with c | c
    · rcases List.mem_append.1 c with c | c
      · exact ⟨hF x (Foot.inOwn c), hp.lt x (Foot.inOwn c)⟩
      · exact ⟨hB x c, hq.lt x c⟩
    · exact ⟨hF x (Foot.inFrz c), hp.lt x (Foot.inFrz c)⟩
  refine ⟨bB, o1, o2', fun e he => ?_, List.pairwise_singleton _ _, fun e he => ?_, by omega, fun e he x hx => ?_⟩
  · simp at he
    subst he
    exact ⟨F, Bq, hp.kept kk (by simp), hq.kept kk (by simp), hd, rfl⟩
  · simp at he
    subst he
    refine ⟨fun hm => by have := (hlt _ hm).2; omega, fun x hx hm => ?_, fun x hx hm => ?_⟩
    · simp [Value.ownBlock] at hx
      have := (hlt _ hm).2
      omega
    · simp [Value.ownBlock] at hx
      have := (hlt _ hm).2
      omega
  · simp at he
    subst he
    exact (hlt x hx).1
def intsV (l : List Int) : List Value := l.map (fun z => Value.int .i64 z)
theorem intsV_length (l : List Int) : (intsV l).length = l.length := by simp [intsV]
theorem intsV_one (l : List Int) : ∀ u ∈ intsV l, u.oneCell' = true := fun u hu => by
  unfold intsV at hu
  obtain ⟨z, -, rfl⟩ := List.mem_map.1 hu
  rfl
theorem Is.src {w : World} {p : Option Addr} {c : Nat} {l : List Int} (h : Is w (.slice p l.length c) l) : (p = none → l.length = 0) ∧ ∀ b, p = some b → ∀ (j : Nat) u, (intsV l)[j]? = some u → w.cell? (b.add j) = some u := by
  obtain ⟨q, d, e, h1, h2, h3, -, h4⟩ := h
  cases e
  refine ⟨fun e => by have := h3 e; omega, fun b hb j u hu => ?_⟩
  unfold intsV at hu
  rw [List.getElem?_map] at hu
  cases hj : l[j]? with
  | none => rw [hj] at hu; simp at hu
  | some z =>
    rw [hj] at hu
    simp at hu
    subst hu
    exact h4 b hb j z hj
end Go.Proofs.Ytmipmiaflompmab

/-
  OWN WORK. The laws of disk: blocks that are in no foot of a book stay.
-/
namespace Go.Proofs.Ytmipmiaflompmab
open Go.RowKit
set_option linter.unusedVariables false

/-- none of these blocks is the book's -/
def Away (X : Nat → Prop) (w : World) (g : Nat) (vD vR : Value) (E : List Ent) : Prop := ∀ x, X x → x < w.heap.size ∧ x ≠ g ∧ vD.ownBlock ≠ some x ∧ vR.ownBlock ≠ some x ∧ ∀ e ∈ E, x ∉ e.F.all
/-- all below base is as it was, and so are these blocks -/
def PX (base : Nat) (X : Nat → Prop) (w w' : World) : Prop := ∃ S, Kept S w w' ∧ ∀ x ∈ S, base ≤ x ∧ ¬ X x
theorem PX.kept {base : Nat} {X : Nat → Prop} {w w' : World} (k : Kept [] w w') : PX base X w w' := ⟨[], k, by simp⟩
theorem PX.trans {base : Nat} {X : Nat → Prop} {a b c : World} (h : PX base X a b) (k : PX base X b c) : PX base X a c := by
  obtain ⟨S, h1, h2⟩ := h
  obtain ⟨T, k1, k2⟩ := k
  exact ⟨S ++ T, (h1.mono (by simp +contextual)).trans k1 (fun x hx => .inl (by simp [hx])), fun x hx => by rcases List.mem_append.1 hx with c | c; exact h2 x c; exact k2 x c⟩
theorem PX.size {base : Nat} {X : Nat → Prop} {a b : World} (h : PX base X a b) : a.heap.size ≤ b.heap.size := by
  obtain ⟨S, k, -⟩ := h
  exact k.size
theorem PX.past {base : Nat} {X : Nat → Prop} {a b : World} (h : PX base X a b) : Past base a b := by
  obtain ⟨S, k, hS⟩ := h
  exact ⟨S, k, fun x hx => (hS x hx).1⟩
theorem Bs.px {base : Nat} {X : Nat → Prop} {w w' : World} {v : Value} {l : List UInt8} (h : Bs w v l) (k : PX base X w w') (hb : l ≠ [] → ∀ x, v.ownBlock = some x → X x) : Bs w' v l := by
  obtain ⟨S, k, hS⟩ := k
  exact h.keptNe k fun h0 x hx hm => (hS x hm).2 (hb h0 x hx)
theorem Is.px {base : Nat} {X : Nat → Prop} {w w' : World} {v : Value} {l : List Int} (h : Is w v l) (k : PX base X w w') (hb : l ≠ [] → ∀ x, v.ownBlock = some x → X x) : Is w' v l := by
  obtain ⟨S, k, hS⟩ := k
  by_cases hl : l = []
  · subst hl
    obtain ⟨p, c, e, h1, h2, h3, h5, -⟩ := h
    exact ⟨p, c, e, h1, h2, h3, h5, fun a _ i x hx => by simp at hx⟩
  · exact h.keptOwn k fun x hx hm => (hS x hm).2 (hb hl x hx)
theorem own_px {base : Nat} {X : Nat → Prop} {w w' : World} {b e n : Nat} {v : Value} {xs : List Value} (h : w.ownsRow b e 1 v n xs) (k : PX base X w w') (hb : ∀ x, v.ownBlock = some x → X x) : w'.ownsRow b e 1 v n xs := by
  obtain ⟨S, k, hS⟩ := k
  exact own_of_kept h k fun x hx hm => (hS x hm).2 (hb x hx)
theorem Blk.px {base : Nat} {X : Nat → Prop} {w w' : World} {g t : Nat} {cs : List Value} (h : Blk w g t cs) (k : PX base X w w') (hb : X g) : Blk w' g t cs := by
  obtain ⟨S, k, hS⟩ := k
  exact h.kept k fun hm => (hS g hm).2 hb
theorem Away.grow {X : Nat → Prop} {w w' : World} {g : Nat} {vD vR : Value} {E : List Ent} (h : Away X w g vD vR E) (k : w.heap.size ≤ w'.heap.size) : Away X w' g vD vR E := fun x hx => by
  obtain ⟨h1, h2⟩ := h x hx
  exact ⟨by omega, h2⟩
theorem Book.px {base g i : Nat} {X : Nat → Prop} {w w' : World} {vD vR : Value} {E : List Ent} {e : Ent} {F' : Foot} (h : Book base w g vD vR E) (hX : Away X w g vD vR E) (hi : E[i]? = some e) (hx : NextP w w' e.F F') : PX base X w w' := ⟨e.F.own, hx.1, fun x hm => ⟨h.low.2 e (List.mem_of_getElem? hi) x (Foot.inOwn hm), fun c => (hX x c).2.2.2.2 e (List.mem_of_getElem? hi) (Foot.inOwn hm)⟩⟩
theorem Away.step {g i : Nat} {X : Nat → Prop} {w w' : World} {vD vR : Value} {E : List Ent} {e : Ent} {d' : DS} {F' : Foot} (h : Away X w g vD vR E) (hi : E[i]? = some e) (hx : NextP w w' e.F F') : Away X w' g vD vR (E.set i ⟨e.v, e.u, d', F'⟩) := fun x hX => by
  obtain ⟨h1, h2, h3, h4, h5⟩ := h x hX
  refine ⟨Nat.lt_of_lt_of_le h1 hx.1.size, h2, h3, h4, fun a ha hm => ?_⟩
  obtain ⟨j, hj⟩ := List.getElem?_of_mem ha
  rw [List.getElem?_set] at hj
  split at hj
  · split at hj
    · cases hj
      rcases hx.all x hm with c | c
      · exact h5 e (List.mem_of_getElem? hi) c
      · omega
    · cases hj
  · exact h5 a (List.mem_of_getElem? hj) hm
/-- all of a book lies below what is new -/
theorem Book.below {base g : Nat} {w : World} {vD vR : Value} {E : List Ent} (h : Book base w g vD vR E) : g < w.heap.size ∧ (∀ x, vD.ownBlock = some x → x < w.heap.size) ∧ (∀ x, vR.ownBlock = some x → x < w.heap.size) ∧ ∀ e ∈ E, ∀ x ∈ e.F.all, x < w.heap.size :=
  ⟨h.blk.lt, fun x hx => own_lt h.rowD x hx, fun x hx => own_lt h.rowR x hx, fun e he => (h.both e he).lt⟩
/-- all below base, and what was made since -/
def Xb (base lo hi : Nat) (x : Nat) : Prop := x < base ∨ (lo ≤ x ∧ x < hi)
theorem Book.away {base g : Nat} {w w' : World} {vD vR : Value} {E : List Ent} (h : Book base w g vD vR E) (k : w.heap.size ≤ w'.heap.size) : Away (Xb base w.heap.size w'.heap.size) w' g vD vR E := fun x hx => by
  obtain ⟨h1, h2, h3, h4⟩ := h.below
  have h5 := h.low.1
  rcases hx with hx | hx
  · refine ⟨by omega, fun e => by omega, fun e => ?_, fun e => ?_, fun e he hm => ?_⟩
    · have := own_ge h.rowD x e; omega
    · have := own_ge h.rowR x e; omega
    · have := h.low.2 e he x hm; omega
  · refine ⟨hx.2, fun e => by omega, fun e => ?_, fun e => ?_, fun e he hm => ?_⟩
    · have := h2 x e; omega
    · have := h3 x e; omega
    · have := h4 e he x hm; omega
/-- one writes over such blocks -/
theorem Book.over {base g : Nat} {X : Nat → Prop} {w w' : World} {vD vR : Value} {E : List Ent} {S : List Nat} (h : Book base w g vD vR E) (hX : Away X w g vD vR E) (k : Kept S w w') (hS : ∀ x ∈ S, X x) : Book base w' g vD vR E := by
  refine ⟨h.blk.kept k (fun hm => (hX g (hS g hm)).2.1 rfl), own_of_kept h.rowD k (fun x hx hm => (hX x (hS x hm)).2.2.1 hx), own_of_kept h.rowR k (fun x hx hm => (hX x (hS x hm)).2.2.2.1 hx), fun e he => (h.both e he).kept k (fun x hx hm => (hX x (hS x hx)).2.2.2.2 e he hm), h.apart, h.own, h.low⟩
theorem Half.px {base g : Nat} {X : Nat → Prop} {w0 w6 : World} {vD vR vD' nv : Value} {E : List Ent} {d' : DS} {FA : Foot} (h : Half base w0 w6 g vD vR vD' nv E d' FA) (hX : Away X w0 g vD vR E) : PX base X w0 w6 := ⟨_, h.kept, fun x hx => by
  rcases List.mem_cons.1 hx with c | c
  · exact ⟨by rw [c]; exact h.book.low.1, fun q => (hX x q).2.1 c⟩
  · exact ⟨own_ge h.book.rowD x (by simpa using c), fun q => (hX x q).2.2.1 (by simpa using c)⟩⟩
theorem Half.doneX {base g : Nat} {X : Nat → Prop} {w0 w6 wC w8 : World} {vD vR vD' vR' nv nu : Value} {E : List Ent} {d' : DS} {FA : Foot} {FB : List Nat} (h : Half base w0 w6 g vD vR vD' nv E d' FA) (hX : Away X w0 g vD vR E) (kC : Kept [] w6 wC) (qC : QD wC nu d' FB) (fB : ∀ x ∈ FB, w6.heap.size ≤ x)
    (o8 : w8.ownsRow base 36 1 vR' (E.length + 1) (E.map (·.u) ++ [nu])) (k8 : Kept vR.ownBlock.toList (wC.alloc (.cells #[nu] 36)) w8) (at8 : vR'.ownBlock = vR.ownBlock ∨ vR'.ownBlock = some (wC.heap.size + 1)) :
    PX base X w0 (w8.setCell ⟨g, 1, none⟩ vR') ∧ Away X (w8.setCell ⟨g, 1, none⟩ vR') g vD' vR' (E ++ [⟨nv, nu, d', ⟨FA.own ++ FB, FA.frz⟩⟩]) := by
  have hs6 := h.kept.size
  have hsC := kC.size
  have kB : Kept vR.ownBlock.toList w6 w8 := ((kC.alloc (.cells #[nu] 36)).mono (by simp)).trans k8 (fun x hx => .inl hx)
  have ngR : g ∉ vR.ownBlock.toList := fun hm => h.blk.far h.rowR (by decide) g (by simpa using hm) rfl
  obtain ⟨b9, k9⟩ := (h.blk.kept kB ngR).set 1 vR'
  have kAll : Kept (g :: vR.ownBlock.toList) w6 (w8.setCell ⟨g, 1, none⟩ vR') := (kB.mono (by intro x hx; simp [hx])).trans k9 (by intro x hx; simp at hx; subst hx; exact .inl (by simp))
  have hsA := kAll.size
  refine ⟨(h.px hX).trans ⟨_, kAll, fun x hx => ?_⟩, fun x hx => ?_⟩
  · rcases List.mem_cons.1 hx with c | c
    · exact ⟨by rw [c]; exact h.book.low.1, fun q => (hX x q).2.1 c⟩
    · exact ⟨own_ge h.book.rowR x (by simpa using c), fun q => (hX x q).2.2.2.1 (by simpa using c)⟩
  · obtain ⟨h1, h2, h3, h4, h5⟩ := hX x hx
    refine ⟨by omega, h2, fun e => ?_, fun e => ?_, fun e he hm => ?_⟩
    · rcases (h.at' x e).1 with c | c
      · exact h3 c
      · omega
    · rcases at8 with c | c
      · rw [c] at e; exact h4 e
      · rw [c] at e; cases e; omega
    · rcases List.mem_append.1 he with c | c
      · exact h5 e c hm
      · simp at c
        subst c
        rcases Foot.mem_all.1 hm with c | c
        · rcases List.mem_append.1 c with c | c
          · have := h.new x c; omega
          · have := fB x c; omega
        · obtain ⟨e0, he0, hz0⟩ := h.old x c
          exact h5 e0 he0 (Foot.inFrz hz0)
end Go.Proofs.Ytmipmiaflompmab

/-
  OWN WORK. DiskKeeps: a round: a book, the bytes and the numbers that are lent, which are not the book's.
-/
namespace Go.Proofs.Ytmipmiaflompmab
open Go.RowKit
set_option linter.unusedVariables false

theorem own_baseK {w : World} {b b' e n : Nat} {v : Value} {xs : List Value} (h : w.ownsRow b e 1 v n xs) (hb : b' ≤ b) : w.ownsRow b' e 1 v n xs := by
  rcases h with ⟨h1, h2 | ⟨g, cap, cur, h2, h3, h4⟩⟩
  · exact ⟨h1, .inl h2⟩
  · exact ⟨h1, .inr ⟨g, cap, cur, h2, Nat.le_trans hb h3, h4⟩⟩
theorem is_of_own {w : World} {base n m c : Nat} {p : Option Addr} {ks : List Int} (h : w.ownsRow base 3 1 (.slice p n c) n (intsV ks)) (hm : m ≤ n) (hn : n = ks.length) (hw : ∀ z ∈ ks.take m, IntKind.i64.wrap z = z) : Is w (.slice p m c) (ks.take m) := by
  have hl : (ks.take m).length = m := by rw [List.length_take]; omega
  rcases h.2 with ⟨e1, e0⟩ | ⟨g, cap, cur, e1, -, h2, h3, h4, -, h5⟩
  · cases e1
    exact ⟨none, 0, by rw [hl], by omega, by simp [maxLen], fun _ => rfl, hw, fun a ha => (by cases ha)⟩
  · cases e1
    refine ⟨some ⟨g, 0, none⟩, c, by rw [hl], by omega, h4, fun e => (by cases e), hw, fun a ha i x hx => ?_⟩
    cases ha
    rw [add_none rfl]
    have hi := (List.getElem?_eq_some_iff.1 hx).1
    rw [List.getElem?_take, if_pos (by omega)] at hx
    have hc : cur[i]? = some (.int .i64 x) := by
      have : (cur.toList.take (n * 1))[i]? = some (.int .i64 x) := by
        rw [h5]
        unfold intsV
        rw [List.getElem?_map, hx]
        rfl
      rw [List.getElem?_take, if_pos (by omega)] at this
      simpa using this
    simp [World.cell?, h2, hc]
/-- behind an append the old cells lie where they lay -/
theorem append_old {w w' : World} {base e n m b c j : Nat} {v' u : Value} {xs news : List Value} (o : w.ownsRow base e 1 (.slice (some ⟨b, 0, none⟩) n c) n xs) (o' : w'.ownsRow base e 1 v' (n + m) (xs ++ news)) (h : v'.ownBlock = (Value.slice (some ⟨b, 0, none⟩) n c).ownBlock ∨ (v'.ownBlock = some w.heap.size ∧ w.grownBy w' none)) (hj : xs[j]? = some u) (hn : j < n) : w'.cell? ⟨b, j, none⟩ = some u := by
  rcases h with h | ⟨-, h⟩
  · obtain ⟨g, c', rfl, -, -, hc⟩ := own_at o' (by omega)
    have e : g = b := by simpa [Value.ownBlock] using h
    subst e
    exact hc j u (by rw [List.getElem?_append_left (List.getElem?_eq_some_iff.1 hj).1]; exact hj)
  · obtain ⟨g, c', e, -, -, hc⟩ := own_at o (by omega)
    have e : b = g := by simp at e; exact e.1
    subst e
    exact (Kept.ofGrown (S := []) h (by intro k e; cases e)).cell (hc j u hj) (by simp)
structure Rnd (w3 : World) (X : Nat → Prop) (g O : Nat) (vD vR vl vq : Value) (E : List Ent) (bs : List UInt8) (ks : List Int) (c6 : Value) (wx : World) : Prop where
  book : Book w3.heap.size wx g vD vR E
  away : Away X wx g vD vR E
  kept : Kept [] w3 wx
  rowL : wx.ownsRow w3.heap.size 5 1 vl bs.length (u8s bs)
  rowK : wx.ownsRow w3.heap.size 3 1 vq ks.length (intsV ks)
  atO : wx.cell? ⟨O, 6, none⟩ = some c6
  inO : X O ∧ w3.heap.size ≤ O
  inL : ∀ x, vl.ownBlock = some x → X x ∧ x ≠ O
  inK : ∀ x, vq.ownBlock = some x → X x ∧ x ≠ O
theorem Rnd.then {w3 wx wy : World} {X : Nat → Prop} {g O : Nat} {vD vR vl vq c6 : Value} {E : List Ent} {bs : List UInt8} {ks : List Int} (h : Rnd w3 X g O vD vR vl vq E bs ks c6 wx) (k : Kept [] wx wy) : Rnd w3 X g O vD vR vl vq E bs ks c6 wy :=
  ⟨h.book.kept k (by simp), h.away.grow k.size, h.kept.then k, own_of_kept h.rowL k (by simp), own_of_kept h.rowK k (by simp), k.cell h.atO (by simp), h.inO, h.inL, h.inK⟩
theorem Rnd.px {w3 wx wy : World} {X : Nat → Prop} {g O : Nat} {vD vR vl vq c6 vD' vR' : Value} {E E' : List Ent} {bs : List UInt8} {ks : List Int} (h : Rnd w3 X g O vD vR vl vq E bs ks c6 wx) (p : PX w3.heap.size X wx wy) (b : Book w3.heap.size wy g vD' vR' E') (a : Away X wy g vD' vR' E') : Rnd w3 X g O vD' vR' vl vq E' bs ks c6 wy := by
  refine ⟨b, a, ((Past.kept h.kept).trans p.past).all, own_px h.rowL p (fun x hx => (h.inL x hx).1), own_px h.rowK p (fun x hx => (h.inK x hx).1), ?_, h.inO, h.inL, h.inK⟩
  obtain ⟨S, k, hS⟩ := p
  exact k.cell h.atO (fun hm => (hS O hm).2 h.inO.1)
theorem Rnd.setL {w3 wx : World} {X : Nat → Prop} {g O : Nat} {vD vR vq c6 : Value} {E : List Ent} {bs : List UInt8} {ks : List Int} {b c n : Nat} (h : Rnd w3 X g O vD vR (.slice (some ⟨b, 0, none⟩) n c) vq E bs ks c6 wx) (j : Nat) (y : UInt8) (z : Int) (hz : z = (y.toNat : Int)) : Rnd w3 X g O vD vR (.slice (some ⟨b, 0, none⟩) n c) vq E (bs.set j y) ks c6 (wx.setCell ⟨b, j, none⟩ (.int .u8 z)) := by
  obtain rfl : n = bs.length := by
    obtain ⟨p', c', e⟩ := own_shape2 h.rowL
    simp at e
    exact e.2.1
  obtain ⟨o, k⟩ := set_own h.rowL j y z hz
  have hb := h.inL b rfl
  have hge := own_ge h.rowL b rfl
  refine ⟨h.book.over h.away k (fun x hx => by simp at hx; subst hx; exact hb.1), h.away.grow k.size, h.kept.trans k (fun x hx => .inr (by simp at hx; subst hx; exact hge)), by rw [List.length_set]; exact o, own_of_kept h.rowK k (fun x hx hm => ?_), k.cell h.atO (fun hm => by simp at hm; exact hb.2 hm.symm), h.inO, h.inL, h.inK⟩
  simp at hm
  subst hm
  exact own_differ h.rowK h.rowL (by decide) hx rfl
theorem Rnd.setK {w3 wx : World} {X : Nat → Prop} {g O : Nat} {vD vR vl c6 : Value} {E : List Ent} {bs : List UInt8} {ks : List Int} {b c n : Nat} (h : Rnd w3 X g O vD vR vl (.slice (some ⟨b, 0, none⟩) n c) E bs ks c6 wx) (j : Nat) (z : Int) : Rnd w3 X g O vD vR vl (.slice (some ⟨b, 0, none⟩) n c) E bs (ks.set j z) c6 (wx.setCell ⟨b, j, none⟩ (.int .i64 z)) := by
  obtain rfl : n = ks.length := by
    obtain ⟨p', c', e⟩ := own_shape2 h.rowK
    simp at e
    exact e.2.1
  have hs := h.rowK.stored j (.int .i64 z)
  have k : Kept [b] wx (wx.setCell ⟨b, j, none⟩ (.int .i64 z)) := Kept.ofGrown hs.2 (by intro x hx _; simp at hx; simp [hx])
  have o : (wx.setCell ⟨b, j, none⟩ (.int .i64 z)).ownsRow w3.heap.size 3 1 (.slice (some ⟨b, 0, none⟩) ks.length c) ks.length (intsV (ks.set j z)) := by
    have e : (intsV ks).set j (.int .i64 z) = intsV (ks.set j z) := by unfold intsV; rw [List.map_set]
    rw [← e]
    exact hs.1
  have hb := h.inK b rfl
  have hge := own_ge h.rowK b rfl
  refine ⟨h.book.over h.away k (fun x hx => by simp at hx; subst hx; exact hb.1), h.away.grow k.size, h.kept.trans k (fun x hx => .inr (by simp at hx; subst hx; exact hge)), own_of_kept h.rowL k (fun x hx hm => ?_), by rw [List.length_set]; exact o, k.cell h.atO (fun hm => by simp at hm; exact hb.2 hm.symm), h.inO, h.inL, h.inK⟩
  simp at hm
  subst hm
  exact own_differ h.rowL h.rowK (by decide) hx rfl
/-- o.B is laid anew -/
theorem Rnd.store {w3 wx : World} {X : Nat → Prop} {g O : Nat} {vD vR vl vq c0 c1 c2 c3 c4 c5 c6 : Value} {E : List Ent} {bs : List UInt8} {ks : List Int} (h : Rnd w3 X g O vD vR vl vq E bs ks c6 wx) (hb : Blk wx O 52 [c0, c1, c2, c3, c4, c5, c6]) (v : Value) : Rnd w3 X g O vD vR vl vq E bs ks c6 (wx.setCell ⟨O, 4, none⟩ v) ∧ Blk (wx.setCell ⟨O, 4, none⟩ v) O 52 [c0, c1, c2, c3, v, c5, c6] := by
  obtain ⟨b, k⟩ := hb.set 4 v
  have b' : Blk (wx.setCell ⟨O, 4, none⟩ v) O 52 [c0, c1, c2, c3, v, c5, c6] := b
  refine ⟨⟨h.book.over h.away k (fun x hx => by simp at hx; subst hx; exact h.inO.1), h.away.grow k.size, h.kept.trans k (fun x hx => .inr (by simp at hx; subst hx; exact h.inO.2)), own_of_kept h.rowL k (fun x hx hm => by simp at hm; exact (h.inL x hx).2 hm), own_of_kept h.rowK k (fun x hx hm => by simp at hm; exact (h.inK x hx).2 hm), b'.cell (j := 6) rfl, h.inO, h.inL, h.inK⟩, b'⟩
theorem Rnd.make {w3 wr wa wz : World} {g : Nat} {vD vR vl vq c6 : Value} {E : List Ent} {bs : List UInt8} {ks : List Int} {b1 b2 : Nat} (h : Book w3.heap.size wr g vD vR E) (k3 : Kept [] w3 wr) (ha : wa.heap.size = wr.heap.size + 1) (k : Kept [] wr wz) (rl : wz.ownsRow b1 5 1 vl bs.length (u8s bs)) (h1 : wa.heap.size ≤ b1) (rk : wz.ownsRow b2 3 1 vq ks.length (intsV ks)) (h2 : wa.heap.size ≤ b2) (hz : wr.heap.size < wz.heap.size) (hc : wz.cell? ⟨wr.heap.size, 6, none⟩ = some c6) : Rnd w3 (Xb w3.heap.size wr.heap.size wz.heap.size) g wr.heap.size vD vR vl vq E bs ks c6 wz := by
  have hs := k3.size
  refine ⟨h.kept k (by simp), h.away k.size, k3.then k, own_baseK rl (by omega), own_baseK rk (by omega), hc, ⟨.inr ⟨Nat.le_refl _, hz⟩, hs⟩, fun x hx => ?_, fun x hx => ?_⟩
  · have e1 := own_ge rl x hx
    have e2 := own_lt rl x hx
    exact ⟨.inr ⟨by omega, e2⟩, by omega⟩
  · have e1 := own_ge rk x hx
    have e2 := own_lt rk x hx
    exact ⟨.inr ⟨by omega, e2⟩, by omega⟩
theorem own_block_len (p : Option Addr) (n m c : Nat) : (Value.slice p n c).ownBlock = (Value.slice p m c).ownBlock := by cases p <;> rfl
/-- the numbers lent, the first t of them written over -/
def ones (t : Nat) (ks : List Int) : List Int := List.replicate t 1 ++ (ks ++ [91, 92, 93]).drop t
theorem ones_length {t : Nat} {ks : List Int} (h : t ≤ ks.length) : (ones t ks).length = ks.length + 3 := by
  unfold ones
  simp
  omega
theorem ones_at {t j : Nat} {ks : List Int} (h : t ≤ j) : (ones t ks)[j]? = (ks ++ [91, 92, 93])[j]? := by
  unfold ones
  rw [List.getElem?_append_right (by simp; omega), List.getElem?_drop, List.length_replicate]
  congr 1
  omega
theorem ones_set {t : Nat} {ks : List Int} (h : t < ks.length) : (ones t ks).set t 1 = ones (t + 1) ks := by
  unfold ones
  rw [List.set_append_right _ _ (by simp), List.length_replicate, Nat.sub_self, List.drop_eq_getElem_cons (by simp; omega), List.set_cons_zero, List.replicate_succ']
  simp
theorem ints_cell {w : World} {base b c n j : Nat} {ks : List Int} {z : Int} (h : w.ownsRow base 3 1 (.slice (some ⟨b, 0, none⟩) n c) ks.length (intsV ks)) (hz : ks[j]? = some z) : w.cell? ⟨b, j, none⟩ = some (.int .i64 z) := by
  have hl := (List.getElem?_eq_some_iff.1 hz).1
  obtain ⟨g, c', e, -, -, hc⟩ := own_at h (by omega)
  have e : b = g := by simp at e; exact e.1
  subst e
  exact hc j _ (by unfold intsV; rw [List.getElem?_map, hz]; rfl)
theorem byte_at {w : World} {base b c n j : Nat} {bs : List UInt8} {x : UInt8} (h : w.ownsRow base 5 1 (.slice (some ⟨b, 0, none⟩) n c) bs.length (u8s bs)) (hx : bs[j]? = some x) : w.cell? ⟨b, j, none⟩ = some (.int .u8 (x.toNat : Int)) := by
  have hl := (List.getElem?_eq_some_iff.1 hx).1
  obtain ⟨g, c', e, -, -, hc⟩ := own_at h (by omega)
  have e : b = g := by simp at e; exact e.1
  subst e
  exact hc j _ (by simp [u8s, hx])
theorem ones_cell {w : World} {base b c n t : Nat} {ks : List Int} {z : Int} (h : w.ownsRow base 3 1 (.slice (some ⟨b, 0, none⟩) n c) (ones t ks).length (intsV (ones t ks))) (hz : ks[t]? = some z) : w.cell? ⟨b, t, none⟩ = some (.int .i64 z) :=
  ints_cell h (by rw [ones_at (Nat.le_refl _), List.getElem?_append_left (List.getElem?_eq_some_iff.1 hz).1]; exact hz)
theorem ones_end {w : World} {base b c n : Nat} {ks : List Int} (h : w.ownsRow base 3 1 (.slice (some ⟨b, 0, none⟩) n c) (ones ks.length ks).length (intsV (ones ks.length ks))) : w.cell? ⟨b, ks.length, none⟩ = some (.int .i64 91) ∧ w.cell? ⟨b, ks.length + 1, none⟩ = some (.int .i64 92) ∧ w.cell? ⟨b, ks.length + 2, none⟩ = some (.int .i64 93) := by
  refine ⟨ints_cell h ?_, ints_cell h ?_, ints_cell h ?_⟩
  · rw [ones_at (Nat.le_refl _), List.getElem?_append_right (Nat.le_refl _), Nat.sub_self]; rfl
  · rw [ones_at (by omega), List.getElem?_append_right (by omega), Nat.add_sub_cancel_left]; rfl
  · rw [ones_at (by omega), List.getElem?_append_right (by omega), Nat.add_sub_cancel_left]; rfl
end Go.Proofs.Ytmipmiaflompmab

/-
  OWN WORK (by mkplayx.py). The laws of disk: play, with bytes in blocks that are not the book's.
-/
namespace Go.Proofs.Ytmipmiaflompmab
open Go.RowKit
set_option linter.unusedVariables false
set_option linter.unusedSimpArgs false

set_option maxHeartbeats 3200000 in
theorem play_rwX (base g M : Nat) (vD vR ub vk : Value) (E : List Ent) (wh n m cl : Int) (b : List UInt8) (keep : List Int) (w : World) (h : Book base w g vD vR E) (X : Nat → Prop) (hX : Away X w g vD vR E) (hM : Few M E) (hcap : (M + 1) * 40 ≤ 140737488355328) (hcap2 : (E.length + 1) * 8 ≤ 140737488355328) (hb : Bs w ub b) (hk : Is w vk keep) (hub : b ≠ [] → ∀ x, ub.ownBlock = some x → X x) (hvk : keep ≠ [] → ∀ x, vk.ownBlock = some x → X x) (hn : IntKind.i64.wrap n = n) (hpos : 0 < E.length) (K : Int) (h12 : ¬ K = 12) (h13 : ¬ K = 13) (h14 : ¬ K = 14) :
    Calls Try.prog 16 #[.pointer (some ⟨g, 0, none⟩), .agg #[.int .i64 K, .int .i64 wh, .int .i64 n, .int .i64 m, ub, .int .i64 cl, vk]] w fun r w' => r = .returned (.bool true) ∧ ∃ vD' vR' E', Book base w' g vD' vR' E' ∧ Few (M + 1) E' ∧ E.length ≤ E'.length ∧ E'.length ≤ E.length + 1 ∧ ((E = [] → E' = []) ∧ ∀ a b c, Shp a b c E → Shp a b c E') ∧ PX base X w w' ∧ Away X w' g vD' vR' E' := by
  obtain ⟨pb, cb, rfl, -⟩ := id hb
  obtain ⟨pk, ck, rfl, -⟩ := id hk
  obtain ⟨w0, hw0⟩ : ∃ w0, w0 = w.alloc (.cells #[.int .i64 K, .int .i64 wh, .int .i64 n, .int .i64 m, .slice pb b.length cb, .int .i64 cl, .slice pk keep.length ck] 52) := ⟨_, rfl⟩
  have k0 : Kept [] w w0 := by rw [hw0]; exact (Kept.refl [] w).alloc _
  have bO : Blk w0 w.heap.size 52 [.int .i64 K, .int .i64 wh, .int .i64 n, .int .i64 m, .slice pb b.length cb, .int .i64 cl, .slice pk keep.length ck] := by rw [hw0]; exact Blk.new w _ _
  have h0 := h.kept k0 (by simp)
  have HX := @hideH _ (hX.grow k0.size)
  obtain ⟨k, hkd⟩ : ∃ k, k = restN wh E.length := ⟨_, rfl⟩
  have hkl : k < E.length := by rw [hkd]; have := restN_lt wh (E.length - 1); rw [show E.length - 1 + 1 = E.length by omega] at this; omega
  obtain ⟨e, he⟩ : ∃ e, E[k]? = some e := ⟨_, List.getElem?_eq_getElem hkl⟩
  have HNO : Hid (w.heap.size ∉ e.F.own) := (show w.heap.size ∉ e.F.own from fun hm => by have := (h.both e (List.mem_of_getElem? he)).lt _ (Foot.inOwn hm); omega)
  obtain ⟨bD, cD, bR, cR, rfl, rfl, d0, r0, g0, g1⟩ := h0.at he
  have hmd := mod_any wh E.length (w0.drew) hpos (by omega)
  rw [← hkd] at hmd
  have hkl' : (k : Int) < (E.length : Int) := by omega
  have hE0 : ¬ (E.length : Int) = 0 := by omega
  have q0 := bO.cell (j := 0) rfl
  have q1 := bO.cell (j := 1) rfl
  have HB0 : Hid (Book base w0 g (.slice (some ⟨bD, 0, none⟩) E.length cD) (.slice (some ⟨bR, 0, none⟩) E.length cR) E) := h0
  have HE : Hid (E[k]? = some e) := he
  have HBO : Hid (Blk w0 w.heap.size 52 [.int .i64 K, .int .i64 wh, .int .i64 n, .int .i64 m, .slice pb b.length cb, .int .i64 cl, .slice pk keep.length ck]) := bO
  have HW0 : Hid (w0 = w.alloc (.cells #[.int .i64 K, .int .i64 wh, .int .i64 n, .int .i64 m, .slice pb b.length cb, .int .i64 cl, .slice pk keep.length ck] 52)) := hw0
  have HK0 : Hid (Kept [] w w0) := k0
  have HM : Hid (Few M E) := hM
  have HC : Hid ((M + 1) * 40 ≤ 140737488355328 ∧ (E.length + 1) * 8 ≤ 140737488355328) := ⟨hcap, hcap2⟩
  have HBK : Hid (Bs w0 (.slice pb b.length cb) b ∧ Is w0 (.slice pk keep.length ck) keep ∧ (b ≠ [] → ∀ x, (Value.slice pb b.length cb).ownBlock = some x → X x) ∧ (keep ≠ [] → ∀ x, (Value.slice pk keep.length ck).ownBlock = some x → X x)) := ⟨hb.kept k0, hk.kept k0, hub, hvk⟩
  have HBW : Hid (base ≤ w.heap.size) := (show base ≤ w.heap.size from Nat.le_trans h.low.1 (Nat.le_of_lt h.blk.lt))
  obtain ⟨A, B, hp, hq, hap, hF⟩ := h0.both e (List.mem_of_getElem? he)
  obtain ⟨gv, ev⟩ := hp.ptr
  obtain ⟨gu, eu⟩ := hq.ptr
  rw [ev] at d0
  rw [eu] at r0
  have HV : Hid (e.v = .pointer (some ⟨gv, 0, none⟩) ∧ e.u = .pointer (some ⟨gu, 0, none⟩)) := ⟨ev, eu⟩
  rw [hw0] at g0 q0 q1
  clear hX hb hk hub hvk hM hcap hcap2 h h0 he hw0 hpos hkd bO k0 hp hq hap hF ev eu
  go_enter Try.func16, Try.ntmps16
  go_wp2
  rw [← HW0.out]
  rw [← HW0.out] at g0 q0 q1
  go_region_held3 (fun w' => w'.cell? ⟨w.heap.size, 1, none⟩ = some (.int .i64 wh) ∧ w'.cell? ⟨g, 0, none⟩ = some (.slice (some ⟨bD, 0, none⟩) E.length cD))
    (first | (exact ⟨q1, g0⟩) | go_keep)
    (first
      | (go_at_call 13; refine hmd.mono ?_; rintro e w5 ⟨rfl, rfl⟩)
      | fail)
  clear hmd
  go_wp2
  go_region_held3 (fun w' => w'.cell? ⟨g, 0, none⟩ = some (.slice (some ⟨bD, 0, none⟩) E.length cD) ∧ w'.cell? ⟨g, 1, none⟩ = some (.slice (some ⟨bR, 0, none⟩) E.length cR) ∧ w'.cell? ⟨bD, k, none⟩ = some (.pointer (some ⟨gv, 0, none⟩)) ∧ w'.cell? ⟨bR, k, none⟩ = some (.pointer (some ⟨gu, 0, none⟩)))
    (first | (exact ⟨g0, g1, d0, r0⟩) | go_keep) (fail)
  have c0 := HBO.out.cell (j := 0) rfl
  have c1 := HBO.out.cell (j := 1) rfl
  have c2 := HBO.out.cell (j := 2) rfl
  have c3 := HBO.out.cell (j := 3) rfl
  have c4 := HBO.out.cell (j := 4) rfl
  have c5 := HBO.out.cell (j := 5) rfl
  have c6 := HBO.out.cell (j := 6) rfl
  have kd : Kept [] w0 w0.drew.drew := (Kept.refl [] w0).drew.drew
  have hmem := List.mem_of_getElem? HE.out
  have hBoth := (HB0.out.both e hmem).kept kd (by simp)
  rw [HV.out.1, HV.out.2] at hBoth
  have hfar : b ≠ [] → ∀ x, (Value.slice pb b.length cb).ownBlock = some x → x ∉ e.F.own := fun hb0 x hx hm => (HX.out x (HBK.out.2.2.1 hb0 x hx)).2.2.2.2 e hmem (Foot.inOwn hm)
  have hwr := writes_any _ _ (.slice pb b.length cb) (.slice pk keep.length ck) e.d e.F wh n m cl b keep _ hBoth (HBK.out.1.kept kd) (HBK.out.2.1.kept kd) hfar (by have := HM.out e hmem; have := HC.out.1; omega) K
  have hwl := wD_loose e.d K n b
  clear g0 g1 d0 r0 hBoth q0 q1
  cases hw : isW K with
  | true =>
    rw [hw] at hwr
    go_wp2_with fail
    refine hwr.mono ?_
    rintro r w1 ⟨F', rfl, hB1, x1⟩
    have x1' : NextP w0 w1 e.F F' := x1.after kd
    rw [← HV.out.1, ← HV.out.2] at hB1
    have f1 := HB0.out.step HE.out hB1 x1'
    have f2 := (PX.kept HK0.out).trans (HB0.out.px HX.out HE.out x1')
    have f3 := HX.out.step (d' := wD e.d K n b) HE.out x1'
    have FIN : Hid (∃ vD' vR' E', Book base w1 g vD' vR' E' ∧ Few (M + 1) E' ∧ E.length ≤ E'.length ∧ E'.length ≤ E.length + 1 ∧ ((E = [] → E' = []) ∧ ∀ a b c, Shp a b c E → Shp a b c E') ∧ PX base X w w1 ∧ Away X w1 g vD' vR' E') := ⟨_, _, _, f1, (HM.out.mono (by omega)).set (by have := HM.out e hmem; show (wD e.d K n b).loose.length ≤ _; omega), by simp, by simp, ⟨fun e => by rw [e] at hkl; simp at hkl, fun _ _ _ hs => hs.set HE.out (wD_shape _ _ _ _)⟩, f2, f3⟩
    clear hwr f1 f2 f3 hB1 x1 x1' c0 c1 c2 c3 c4 c5 c6
    go_wp2
    go_ret
    exact ⟨by simp, FIN.out⟩
  | false =>
    rw [hw] at hwr
    go_wp2_with fail
    refine hwr.mono ?_
    rintro r w1 ⟨F', rfl, hB1, x1⟩
    have x1' : NextP w0 w1 e.F F' := x1.after kd
    have s0 := x1'.1.cell c0 HNO.out
    have s1 := x1'.1.cell c1 HNO.out
    have s2 := x1'.1.cell c2 HNO.out
    have s3 := x1'.1.cell c3 HNO.out
    have s4 := x1'.1.cell c4 HNO.out
    have s5 := x1'.1.cell c5 HNO.out
    have s6 := x1'.1.cell c6 HNO.out
    have hrd := reads_any _ _ (.slice pb b.length cb) (.slice pk keep.length ck) (wD e.d K n b) F' wh n m cl b keep _ hB1 (HBK.out.1.px (HB0.out.px HX.out HE.out x1') HBK.out.2.2.1) (HBK.out.2.1.px (HB0.out.px HX.out HE.out x1') HBK.out.2.2.2) K
    clear hwr c0 c1 c2 c3 c4 c5 c6
    go_wp2_with fail
    refine hrd.mono ?_
    rintro r w2 ⟨F2, rfl, hB2, x2⟩
    have x3 : NextP w0 w2 e.F F2 := x1'.trans x2
    rw [← HV.out.1, ← HV.out.2] at hB2
    have f1 := HB0.out.step HE.out hB2 x3
    have f2 := (PX.kept HK0.out).trans (HB0.out.px HX.out HE.out x3)
    have f3 := HX.out.step (d' := rD (wD e.d K n b) K) HE.out x3
    have FIN : Hid (∃ vD' vR' E', Book base w2 g vD' vR' E' ∧ Few (M + 1) E' ∧ E.length ≤ E'.length ∧ E'.length ≤ E.length + 1 ∧ ((E = [] → E' = []) ∧ ∀ a b c, Shp a b c E → Shp a b c E') ∧ PX base X w w2 ∧ Away X w2 g vD' vR' E') := ⟨_, _, _, f1, (HM.out.mono (by omega)).set (by have := HM.out e hmem; show (rD (wD e.d K n b) K).loose.length ≤ _; rw [rD_loose]; omega), by simp, by simp, ⟨fun e => by rw [e] at hkl; simp at hkl, fun _ _ _ hs => hs.set HE.out ((wD_shape _ _ _ _).trans (rD_shape _ _))⟩, f2, f3⟩
    clear hrd f1 f2 f3 hB1 hB2 x1 x1' x2 x3 s0 s1 s2 s3 s4 s5 s6
    go_wp2
    go_ret
    exact ⟨rfl, FIN.out⟩
end Go.Proofs.Ytmipmiaflompmab

/-
  OWN WORK (by mkplayx.py). The laws of disk: play, with bytes in blocks that are not the book's.
-/
namespace Go.Proofs.Ytmipmiaflompmab
open Go.RowKit
set_option linter.unusedVariables false
set_option linter.unusedSimpArgs false

set_option maxHeartbeats 3200000 in
theorem play_stopX (base g M : Nat) (vD vR ub vk : Value) (E : List Ent) (wh n m cl : Int) (b : List UInt8) (keep : List Int) (w : World) (h : Book base w g vD vR E) (X : Nat → Prop) (hX : Away X w g vD vR E) (hM : Few M E) (hcap : (M + 1) * 40 ≤ 140737488355328) (hcap2 : (E.length + 1) * 8 ≤ 140737488355328) (hb : Bs w ub b) (hk : Is w vk keep) (hub : b ≠ [] → ∀ x, ub.ownBlock = some x → X x) (hvk : keep ≠ [] → ∀ x, vk.ownBlock = some x → X x) (hn : IntKind.i64.wrap n = n) (hpos : 0 < E.length) :
    Calls Try.prog 16 #[.pointer (some ⟨g, 0, none⟩), .agg #[.int .i64 12, .int .i64 wh, .int .i64 n, .int .i64 m, ub, .int .i64 cl, vk]] w fun r w' => r = .returned (.bool true) ∧ ∃ vD' vR' E', Book base w' g vD' vR' E' ∧ Few (M + 1) E' ∧ E.length ≤ E'.length ∧ E'.length ≤ E.length + 1 ∧ ((E = [] → E' = []) ∧ ∀ a b c, Shp a b c E → Shp a b c E') ∧ PX base X w w' ∧ Away X w' g vD' vR' E' := by
  obtain ⟨pb, cb, rfl, -⟩ := id hb
  obtain ⟨pk, ck, rfl, -⟩ := id hk
  obtain ⟨w0, hw0⟩ : ∃ w0, w0 = w.alloc (.cells #[.int .i64 12, .int .i64 wh, .int .i64 n, .int .i64 m, .slice pb b.length cb, .int .i64 cl, .slice pk keep.length ck] 52) := ⟨_, rfl⟩
  have k0 : Kept [] w w0 := by rw [hw0]; exact (Kept.refl [] w).alloc _
  have bO : Blk w0 w.heap.size 52 [.int .i64 12, .int .i64 wh, .int .i64 n, .int .i64 m, .slice pb b.length cb, .int .i64 cl, .slice pk keep.length ck] := by rw [hw0]; exact Blk.new w _ _
  have h0 := h.kept k0 (by simp)
  have HX := @hideH _ (hX.grow k0.size)
  obtain ⟨k, hkd⟩ : ∃ k, k = restN wh E.length := ⟨_, rfl⟩
  have hkl : k < E.length := by rw [hkd]; have := restN_lt wh (E.length - 1); rw [show E.length - 1 + 1 = E.length by omega] at this; omega
  obtain ⟨e, he⟩ : ∃ e, E[k]? = some e := ⟨_, List.getElem?_eq_getElem hkl⟩
  have HNO : Hid (w.heap.size ∉ e.F.own) := (show w.heap.size ∉ e.F.own from fun hm => by have := (h.both e (List.mem_of_getElem? he)).lt _ (Foot.inOwn hm); omega)
  obtain ⟨bD, cD, bR, cR, rfl, rfl, d0, r0, g0, g1⟩ := h0.at he
  have hmd := mod_any wh E.length (w0.drew) hpos (by omega)
  rw [← hkd] at hmd
  have hkl' : (k : Int) < (E.length : Int) := by omega
  have hE0 : ¬ (E.length : Int) = 0 := by omega
  have q0 := bO.cell (j := 0) rfl
  have q1 := bO.cell (j := 1) rfl
  have HB0 : Hid (Book base w0 g (.slice (some ⟨bD, 0, none⟩) E.length cD) (.slice (some ⟨bR, 0, none⟩) E.length cR) E) := h0
  have HE : Hid (E[k]? = some e) := he
  have HBO : Hid (Blk w0 w.heap.size 52 [.int .i64 12, .int .i64 wh, .int .i64 n, .int .i64 m, .slice pb b.length cb, .int .i64 cl, .slice pk keep.length ck]) := bO
  have HW0 : Hid (w0 = w.alloc (.cells #[.int .i64 12, .int .i64 wh, .int .i64 n, .int .i64 m, .slice pb b.length cb, .int .i64 cl, .slice pk keep.length ck] 52)) := hw0
  have HK0 : Hid (Kept [] w w0) := k0
  have HM : Hid (Few M E) := hM
  have HC : Hid ((M + 1) * 40 ≤ 140737488355328 ∧ (E.length + 1) * 8 ≤ 140737488355328) := ⟨hcap, hcap2⟩
  have HBK : Hid (Bs w0 (.slice pb b.length cb) b ∧ Is w0 (.slice pk keep.length ck) keep ∧ (b ≠ [] → ∀ x, (Value.slice pb b.length cb).ownBlock = some x → X x) ∧ (keep ≠ [] → ∀ x, (Value.slice pk keep.length ck).ownBlock = some x → X x)) := ⟨hb.kept k0, hk.kept k0, hub, hvk⟩
  have HBW : Hid (base ≤ w.heap.size) := (show base ≤ w.heap.size from Nat.le_trans h.low.1 (Nat.le_of_lt h.blk.lt))
  obtain ⟨A, B, hp, hq, hap, hF⟩ := h0.both e (List.mem_of_getElem? he)
  obtain ⟨gv, ev⟩ := hp.ptr
  obtain ⟨gu, eu⟩ := hq.ptr
  rw [ev] at d0
  rw [eu] at r0
  have HV : Hid (e.v = .pointer (some ⟨gv, 0, none⟩) ∧ e.u = .pointer (some ⟨gu, 0, none⟩)) := ⟨ev, eu⟩
  rw [hw0] at g0 q0 q1
  clear hX hb hk hub hvk hM hcap hcap2 h h0 he hw0 hpos hkd bO k0 hp hq hap hF ev eu
  go_enter Try.func16, Try.ntmps16
  go_wp2
  rw [← HW0.out]
  rw [← HW0.out] at g0 q0 q1
  go_region_held3 (fun w' => w'.cell? ⟨w.heap.size, 1, none⟩ = some (.int .i64 wh) ∧ w'.cell? ⟨g, 0, none⟩ = some (.slice (some ⟨bD, 0, none⟩) E.length cD))
    (first | (exact ⟨q1, g0⟩) | go_keep)
    (first
      | (go_at_call 13; refine hmd.mono ?_; rintro e w5 ⟨rfl, rfl⟩)
      | fail)
  clear hmd
  go_wp2
  go_region_held3 (fun w' => w'.cell? ⟨g, 0, none⟩ = some (.slice (some ⟨bD, 0, none⟩) E.length cD) ∧ w'.cell? ⟨g, 1, none⟩ = some (.slice (some ⟨bR, 0, none⟩) E.length cR) ∧ w'.cell? ⟨bD, k, none⟩ = some (.pointer (some ⟨gv, 0, none⟩)) ∧ w'.cell? ⟨bR, k, none⟩ = some (.pointer (some ⟨gu, 0, none⟩)))
    (first | (exact ⟨g0, g1, d0, r0⟩) | go_keep) (fail)
  have c0 := HBO.out.cell (j := 0) rfl
  have c1 := HBO.out.cell (j := 1) rfl
  have c2 := HBO.out.cell (j := 2) rfl
  have c3 := HBO.out.cell (j := 3) rfl
  have c4 := HBO.out.cell (j := 4) rfl
  have c5 := HBO.out.cell (j := 5) rfl
  have c6 := HBO.out.cell (j := 6) rfl
  have kd : Kept [] w0 w0.drew.drew := (Kept.refl [] w0).drew.drew
  have hmem := List.mem_of_getElem? HE.out
  obtain ⟨A, B, hp, hq, hap, hF⟩ := HB0.out.both e hmem
  rw [HV.out.1] at hp
  rw [HV.out.2] at hq
  have nA : w.heap.size ∉ A.own := fun hm => HNO.out (by rw [hF]; simp [hm])
  have nB : w.heap.size ∉ B := fun hm => HNO.out (by rw [hF]; simp [hm])
  have hst := fStop _ e.d A n _ (hp.kept kd (by simp)) hn
  clear g0 g1 d0 r0 q0 q1
  go_wp2_with fail
  refine hst.mono ?_
  rintro r w1 ⟨A', ⟨rr, rfl⟩, p1, x1⟩
  have hst2 := qHalts _ e.d B n w1 ((hq.kept kd (by simp)).kept x1.1 (fun x hx => hap x (Foot.inOwn hx))) hn
  have x1c := x1.after kd
  have s0 := x1c.1.cell c0 nA
  have s1 := x1c.1.cell c1 nA
  have s2 := x1c.1.cell c2 nA
  have s3 := x1c.1.cell c3 nA
  have s4 := x1c.1.cell c4 nA
  have s5 := x1c.1.cell c5 nA
  have s6 := x1c.1.cell c6 nA
  have HQ : Hid (QD w0.drew.drew (.pointer (some ⟨gu, 0, none⟩)) e.d B) := hq.kept kd (by simp)
  clear hst hp hq c0 c1 c2 c3 c4 c5 c6
  go_wp2_with fail
  refine hst2.mono ?_
  rintro r w2 ⟨⟨rr2, rfl⟩, p2, x2⟩
  have t0 := x2.1.cell s0 nB
  have t1 := x2.1.cell s1 nB
  have t2 := x2.1.cell s2 nB
  have t3 := x2.1.cell s3 nB
  have t4 := x2.1.cell s4 nB
  have t5 := x2.1.cell s5 nB
  have t6 := x2.1.cell s6 nB
  obtain ⟨hB2, x2'⟩ := both_step p1 x1 HQ.out hap p2 x2
  rw [← hF] at x2'
  have y2 : NextP w0 w2 e.F ⟨A'.own ++ B, A'.frz⟩ := x2'.after kd
  have hfar : b ≠ [] → ∀ x, (Value.slice pb b.length cb).ownBlock = some x → x ∉ A'.own ++ B := fun hb0 x hx hm => by
    obtain ⟨h1, -, -, -, h5⟩ := HX.out x (HBK.out.2.2.1 hb0 x hx)
    rcases y2.2.1 x hm with c | c
    · exact h5 e hmem (Foot.inOwn c)
    · omega
  have hwr := writes_any _ _ (.slice pb b.length cb) (.slice pk keep.length ck) (e.d.halts n) ⟨A'.own ++ B, A'.frz⟩ wh n m cl b keep _ hB2 (HBK.out.1.px (HB0.out.px HX.out HE.out y2) HBK.out.2.2.1) (HBK.out.2.1.px (HB0.out.px HX.out HE.out y2) HBK.out.2.2.2) hfar (by have := HM.out e hmem; have := HC.out.1; rw [halts_loose]; omega) 12
  have hwl := wD_loose (e.d.halts n) 12 n b
  rw [halts_loose] at hwl
  clear hst2 s0 s1 s2 s3 s4 s5 s6 p1 p2 x1c
  go_wp2_with fail
  refine hwr.mono ?_
  rintro r w3 ⟨F3, rfl, hB3, x3⟩
  have y3 : NextP w0 w3 e.F F3 := y2.trans x3
  have nO2 : w.heap.size ∉ A'.own ++ B := fun hm => by
    rcases y2.2.1 _ hm with c | c
    · exact HNO.out c
    · have := HBO.out.lt; omega
  have z0 := x3.1.cell t0 nO2
  have z1 := x3.1.cell t1 nO2
  have z2 := x3.1.cell t2 nO2
  have z3 := x3.1.cell t3 nO2
  have z4 := x3.1.cell t4 nO2
  have z5 := x3.1.cell t5 nO2
  have z6 := x3.1.cell t6 nO2
  have hrd := reads_any _ _ (.slice pb b.length cb) (.slice pk keep.length ck) (wD (e.d.halts n) 12 n b) F3 wh n m cl b keep _ hB3 (HBK.out.1.px (HB0.out.px HX.out HE.out y3) HBK.out.2.2.1) (HBK.out.2.1.px (HB0.out.px HX.out HE.out y3) HBK.out.2.2.2) 12
  rw [show isW 12 = false from rfl]
  clear hwr t0 t1 t2 t3 t4 t5 t6
  go_wp2_with fail
  refine hrd.mono ?_
  rintro r w4 ⟨F4, rfl, hB4, x4⟩
  have y4 : NextP w0 w4 e.F F4 := y3.trans x4
  rw [← HV.out.1, ← HV.out.2] at hB4
  have f1 := HB0.out.step HE.out hB4 y4
  have f2 := (PX.kept HK0.out).trans (HB0.out.px HX.out HE.out y4)
  have f3 := HX.out.step (d' := rD (wD (e.d.halts n) 12 n b) 12) HE.out y4
  have FIN : Hid (∃ vD' vR' E', Book base w4 g vD' vR' E' ∧ Few (M + 1) E' ∧ E.length ≤ E'.length ∧ E'.length ≤ E.length + 1 ∧ ((E = [] → E' = []) ∧ ∀ a b c, Shp a b c E → Shp a b c E') ∧ PX base X w w4 ∧ Away X w4 g vD' vR' E') := ⟨_, _, _, f1, (HM.out.mono (by omega)).set (by have := HM.out e hmem; show (rD (wD (e.d.halts n) 12 n b) 12).loose.length ≤ _; rw [rD_loose]; omega), by simp, by simp, ⟨fun e => by rw [e] at hkl; simp at hkl, fun _ _ _ hs => hs.set HE.out (((halts_shape _ _).trans (wD_shape _ _ _ _)).trans (rD_shape _ _))⟩, f2, f3⟩
  clear hrd f1 f2 f3 hB2 hB3 hB4 z0 z1 z2 z3 z4 z5 z6
  go_wp2
  go_ret
  exact ⟨rfl, FIN.out⟩
end Go.Proofs.Ytmipmiaflompmab

/-
  OWN WORK (by mkplayx.py). The laws of disk: play, with bytes in blocks that are not the book's.
-/
namespace Go.Proofs.Ytmipmiaflompmab
open Go.RowKit
set_option linter.unusedVariables false
set_option linter.unusedSimpArgs false

set_option maxHeartbeats 3200000 in
theorem play_copyX (base g M : Nat) (vD vR ub vk : Value) (E : List Ent) (wh n m cl : Int) (b : List UInt8) (keep : List Int) (w : World) (h : Book base w g vD vR E) (X : Nat → Prop) (hX : Away X w g vD vR E) (hM : Few M E) (hcap : (M + 1) * 40 ≤ 140737488355328) (hcap2 : (E.length + 1) * 8 ≤ 140737488355328) (hb : Bs w ub b) (hk : Is w vk keep) (hub : b ≠ [] → ∀ x, ub.ownBlock = some x → X x) (hvk : keep ≠ [] → ∀ x, vk.ownBlock = some x → X x) (hn : IntKind.i64.wrap n = n) (hpos : 0 < E.length) :
    Calls Try.prog 16 #[.pointer (some ⟨g, 0, none⟩), .agg #[.int .i64 14, .int .i64 wh, .int .i64 n, .int .i64 m, ub, .int .i64 cl, vk]] w fun r w' => r = .returned (.bool true) ∧ ∃ vD' vR' E', Book base w' g vD' vR' E' ∧ Few (M + 1) E' ∧ E.length ≤ E'.length ∧ E'.length ≤ E.length + 1 ∧ ((E = [] → E' = []) ∧ ∀ a b c, Shp a b c E → Shp a b c E') ∧ PX base X w w' ∧ Away X w' g vD' vR' E' := by
  obtain ⟨pb, cb, rfl, -⟩ := id hb
  obtain ⟨pk, ck, rfl, -⟩ := id hk
  obtain ⟨w0, hw0⟩ : ∃ w0, w0 = w.alloc (.cells #[.int .i64 14, .int .i64 wh, .int .i64 n, .int .i64 m, .slice pb b.length cb, .int .i64 cl, .slice pk keep.length ck] 52) := ⟨_, rfl⟩
  have k0 : Kept [] w w0 := by rw [hw0]; exact (Kept.refl [] w).alloc _
  have bO : Blk w0 w.heap.size 52 [.int .i64 14, .int .i64 wh, .int .i64 n, .int .i64 m, .slice pb b.length cb, .int .i64 cl, .slice pk keep.length ck] := by rw [hw0]; exact Blk.new w _ _
  have h0 := h.kept k0 (by simp)
  have HX := @hideH _ (hX.grow k0.size)
  obtain ⟨k, hkd⟩ : ∃ k, k = restN wh E.length := ⟨_, rfl⟩
  have hkl : k < E.length := by rw [hkd]; have := restN_lt wh (E.length - 1); rw [show E.length - 1 + 1 = E.length by omega] at this; omega
  obtain ⟨e, he⟩ : ∃ e, E[k]? = some e := ⟨_, List.getElem?_eq_getElem hkl⟩
  have HNO : Hid (w.heap.size ∉ e.F.own) := (show w.heap.size ∉ e.F.own from fun hm => by have := (h.both e (List.mem_of_getElem? he)).lt _ (Foot.inOwn hm); omega)
  obtain ⟨bD, cD, bR, cR, rfl, rfl, d0, r0, g0, g1⟩ := h0.at he
  have hmd := mod_any wh E.length (w0.drew) hpos (by omega)
  rw [← hkd] at hmd
  have hkl' : (k : Int) < (E.length : Int) := by omega
  have hE0 : ¬ (E.length : Int) = 0 := by omega
  have q0 := bO.cell (j := 0) rfl
  have q1 := bO.cell (j := 1) rfl
  have HB0 : Hid (Book base w0 g (.slice (some ⟨bD, 0, none⟩) E.length cD) (.slice (some ⟨bR, 0, none⟩) E.length cR) E) := h0
  have HE : Hid (E[k]? = some e) := he
  have HBO : Hid (Blk w0 w.heap.size 52 [.int .i64 14, .int .i64 wh, .int .i64 n, .int .i64 m, .slice pb b.length cb, .int .i64 cl, .slice pk keep.length ck]) := bO
  have HW0 : Hid (w0 = w.alloc (.cells #[.int .i64 14, .int .i64 wh, .int .i64 n, .int .i64 m, .slice pb b.length cb, .int .i64 cl, .slice pk keep.length ck] 52)) := hw0
  have HK0 : Hid (Kept [] w w0) := k0
  have HM : Hid (Few M E) := hM
  have HC : Hid ((M + 1) * 40 ≤ 140737488355328 ∧ (E.length + 1) * 8 ≤ 140737488355328) := ⟨hcap, hcap2⟩
  have HBK : Hid (Bs w0 (.slice pb b.length cb) b ∧ Is w0 (.slice pk keep.length ck) keep ∧ (b ≠ [] → ∀ x, (Value.slice pb b.length cb).ownBlock = some x → X x) ∧ (keep ≠ [] → ∀ x, (Value.slice pk keep.length ck).ownBlock = some x → X x)) := ⟨hb.kept k0, hk.kept k0, hub, hvk⟩
  have HBW : Hid (base ≤ w.heap.size) := (show base ≤ w.heap.size from Nat.le_trans h.low.1 (Nat.le_of_lt h.blk.lt))
  obtain ⟨A, B, hp, hq, hap, hF⟩ := h0.both e (List.mem_of_getElem? he)
  obtain ⟨gv, ev⟩ := hp.ptr
  obtain ⟨gu, eu⟩ := hq.ptr
  rw [ev] at d0
  rw [eu] at r0
  have HV : Hid (e.v = .pointer (some ⟨gv, 0, none⟩) ∧ e.u = .pointer (some ⟨gu, 0, none⟩)) := ⟨ev, eu⟩
  rw [hw0] at g0 q0 q1
  clear hX hb hk hub hvk hM hcap hcap2 h h0 he hw0 hpos hkd bO k0 hp hq hap hF ev eu
  go_enter Try.func16, Try.ntmps16
  go_wp2
  rw [← HW0.out]
  rw [← HW0.out] at g0 q0 q1
  go_region_held3 (fun w' => w'.cell? ⟨w.heap.size, 1, none⟩ = some (.int .i64 wh) ∧ w'.cell? ⟨g, 0, none⟩ = some (.slice (some ⟨bD, 0, none⟩) E.length cD))
    (first | (exact ⟨q1, g0⟩) | go_keep)
    (first
      | (go_at_call 13; refine hmd.mono ?_; rintro e w5 ⟨rfl, rfl⟩)
      | fail)
  clear hmd
  go_wp2
  go_region_held3 (fun w' => w'.cell? ⟨g, 0, none⟩ = some (.slice (some ⟨bD, 0, none⟩) E.length cD) ∧ w'.cell? ⟨g, 1, none⟩ = some (.slice (some ⟨bR, 0, none⟩) E.length cR) ∧ w'.cell? ⟨bD, k, none⟩ = some (.pointer (some ⟨gv, 0, none⟩)) ∧ w'.cell? ⟨bR, k, none⟩ = some (.pointer (some ⟨gu, 0, none⟩)))
    (first | (exact ⟨g0, g1, d0, r0⟩) | go_keep) (fail)
  have c0 := HBO.out.cell (j := 0) rfl
  have kd : Kept [] w0 w0.drew.drew := (Kept.refl [] w0).drew.drew
  have hmem := List.mem_of_getElem? HE.out
  obtain ⟨A, B, hp, hq, hap, hF⟩ := HB0.out.both e hmem
  rw [HV.out.1] at hp
  rw [HV.out.2] at hq
  have hcr := fCopy _ e.d A _ (hp.kept kd (by simp)) (by have := HM.out e hmem; have := HC.out.1; omega)
  obtain ⟨pD, qD, eD⟩ := own_shape2 HB0.out.rowD
  clear g1 d0 r0 q0 q1
  go_wp2_with fail
  refine hcr.mono ?_
  rintro r wA ⟨nv, rfl, FA, pA, fA, kA, zA⟩
  clear hcr
  have kA' : Kept [] w0 wA := kd.then kA
  have fA' : ∀ x ∈ FA.own, w0.heap.size ≤ x := fA
  have zA' : ∀ x ∈ FA.frz, ∃ e ∈ E, x ∈ e.F.frz := fun x hx => ⟨e, hmem, by rw [hF]; exact zA x hx⟩
  obtain ⟨gn, rfl⟩ := pA.ptr
  have gA := kA'.cell g0 (by simp)
  have kb := kA'.alloc (.cells #[.pointer (some ⟨gn, 0, none⟩)] 32)
  have gB := kb.cell g0 (by simp)
  have rD5 := own_of_kept HB0.out.rowD kb (by simp)
  have ngD : g ∉ (Value.slice (some ⟨bD, 0, none⟩) E.length cD).ownBlock.toList := fun hm => HB0.out.blk.far HB0.out.rowD (by decide) g (by simpa using hm) rfl
  have hnews : ∀ (j : Nat) u, [Value.pointer (some ⟨gn, 0, none⟩)][j]? = some u → (wA.alloc (.cells #[.pointer (some ⟨gn, 0, none⟩)] 32)).cell? ((⟨wA.heap.size, 0, none⟩ : Addr).add j) = some u := fun j u hj => by
    rw [add_none rfl]
    rcases j with _ | j
    · simp at hj; subst hj
      simp [go_sem]
    · simp at hj
  go_wp2_with (at_builtin; refine wpList_append_own2 rfl (.tmp 92) (.tmp 94) 44 rfl base 32 Try.underlying44 (.pointer none) 8 (by kernel_rfl) rfl _ _ _ (by rfl) rD5 ⟨wA.heap.size, 0, none⟩ 1 1 [.pointer (some ⟨gn, 0, none⟩)] (by rfl) rfl hnews (by simp [Value.oneCell']) (by have := HC.out.2; unfold maxLen; omega) (by have := HC.out.2; omega) (by have := HBW.out; have := kb.size; have := HK0.out.size; omega) ?_; intro v5 w5 o5 g5 at5; obtain ⟨p5, c5, rfl⟩ := own_shape2 o5; have k5 := Kept.ofGrown (S := (Value.slice (some ⟨bD, 0, none⟩) E.length cD).ownBlock.toList) g5 (by intro k e _; simp [e]); have kB5 := ((kb.mono (by simp)).trans k5 (fun x hx => .inl hx)); have y0 := (HB0.out.blk.kept kB5 ngD).cell (j := 0) rfl; have y1 := (HB0.out.blk.kept kB5 ngD).free 0)
  have half := Half.make HB0.out kA' pA fA' zA' o5 k5 (by rcases at5 with e | e; exact .inl e; exact .inr (by have := e.1; simp at this; simpa using this))
  have HH : Hid (Half base w0 (w5.setCell ⟨g, 0, none⟩ (.slice p5 (E.length + 1) c5)) g (.slice (some ⟨bD, 0, none⟩) E.length cD) (.slice (some ⟨bR, 0, none⟩) E.length cR) (.slice p5 (E.length + 1) c5) (.pointer (some ⟨gn, 0, none⟩)) E (e.d.copy) FA) := half
  obtain ⟨w6, hw6⟩ : ∃ w6, w6 = w5.setCell ⟨g, 0, none⟩ (.slice p5 (E.length + 1) c5) := ⟨_, rfl⟩
  have HW6 : Hid (w6 = w5.setCell ⟨g, 0, none⟩ (.slice p5 (E.length + 1) c5)) := hw6
  rw [← hw6] at half HH
  have g1 := half.blk.cell (j := 1) rfl
  have g1f := half.blk.free 1
  have kw6 := half.kept
  obtain ⟨A6, B6, -, hq6, -, -⟩ := half.both hmem
  rw [HV.out.2] at hq6
  have hcr2 := qCopy _ e.d B6 w6.drew (hq6.kept (Kept.refl [] w6).drew (by simp)) (by have := HM.out e hmem; have := HC.out.1; omega)
  have rR6 := half.rowR
  have ngR : g ∉ (Value.slice (some ⟨bR, 0, none⟩) E.length cR).ownBlock.toList := fun hm => half.blk.far half.rowR (by decide) g (by simpa using hm) rfl
  clear half hp hq g0 gA gB rD5 hnews o5 k5 g5 at5 kB5 y0 y1 pA fA zA zA' hw6
  go_upto_region 17 with fail
  rw [← HW6.out]
  refine wp_region_late (fun w' => w'.cell? ⟨g, 1, none⟩ = some (.slice (some ⟨bR, 0, none⟩) E.length cR)) 11 (by kernel_rfl) ?_
  have hS : w6.drew.cell? ⟨g, 1, none⟩ = some (.slice (some ⟨bR, 0, none⟩) E.length cR) := g1
  refine wpAnyZ_take 0 (v := ?v0) rfl (by kernel_rfl) (by kernel_rfl) (by kernel_rfl) (by kernel_rfl) (fun _ _ _ h => h) (by rfl) ?hy0 hS ?rest0
  case hy0 => (intro wx hSx; (try dsimp only at hSx); go_simp; (try with_reducible rfl))
  (try simp only [Act.put, List.setIfInBounds_toArray, List.set_cons_zero, List.set_cons_succ])
  refine wpAnyZ_take 1 (v := ?v1) rfl (by kernel_rfl) (by kernel_rfl) (by kernel_rfl) (by kernel_rfl) (fun _ _ _ h => h) (by rfl) ?hy1 hS ?rest1
  case hy1 => (intro wx hSx; (try dsimp only at hSx); go_simp; (try with_reducible rfl))
  (try simp only [Act.put, List.setIfInBounds_toArray, List.set_cons_zero, List.set_cons_succ])
  refine wpAnyZ_take 2 (v := ?v2) rfl (by kernel_rfl) (by kernel_rfl) (by kernel_rfl) (by kernel_rfl) (fun _ _ _ h => h) (by rfl) ?hy2 hS ?rest2
  case hy2 => (intro wx hSx; (try dsimp only at hSx); go_simp; (try with_reducible rfl))
  (try simp only [Act.put, List.setIfInBounds_toArray, List.set_cons_zero, List.set_cons_succ])
  refine wpAnyZ_take 3 (v := ?v3) rfl (by kernel_rfl) (by kernel_rfl) (by kernel_rfl) (by kernel_rfl) (fun _ _ _ h => h) (by rfl) ?hy3 hS ?rest3
  case hy3 => (intro wx hSx; (try dsimp only at hSx); go_simp; (try with_reducible rfl))
  (try simp only [Act.put, List.setIfInBounds_toArray, List.set_cons_zero, List.set_cons_succ])
  refine wpAnyZ_take 4 (v := ?v4) rfl (by kernel_rfl) (by kernel_rfl) (by kernel_rfl) (by kernel_rfl) (fun _ _ _ h => h) (by rfl) ?hy4 hS ?rest4
  case hy4 => (intro wx hSx; (try dsimp only at hSx); go_simp; (try with_reducible rfl))
  (try simp only [Act.put, List.setIfInBounds_toArray, List.set_cons_zero, List.set_cons_succ])
  refine wpAnyZ_take 5 (v := ?v5) rfl (by kernel_rfl) (by kernel_rfl) (by kernel_rfl) (by kernel_rfl) (fun _ _ _ h => h) (by rfl) ?hy5 hS ?rest5
  case hy5 => (intro wx hSx; (try dsimp only at hSx); go_simp; (try with_reducible rfl))
  (try simp only [Act.put, List.setIfInBounds_toArray, List.set_cons_zero, List.set_cons_succ])
  refine wpAnyZ_one 6 rfl (by kernel_rfl) (fun K hK => ?_)
  go_simp
  refine hcr2.mono ?_
  rintro r wC ⟨nu, rfl, FB, qC, fB, kC⟩
  have kC' : Kept [] w6 wC := (Kept.refl [] w6).drew.then kC
  obtain ⟨gm, rfl⟩ := qC.ptr
  dsimp only
  have hS3 : wC.cell? ⟨g, 1, none⟩ = some (.slice (some ⟨bR, 0, none⟩) E.length cR) := kC'.cell g1 (by simp)
  refine hK _ _ (fun _ => hS3) ?_
  clear hK K hcr2 hS
  (try simp only [Act.put, List.setIfInBounds_toArray, List.set_cons_zero, List.set_cons_succ])
  refine wpAnyZ_one 7 rfl (by kernel_rfl) (fun K hK => ?_)
  have kc2 := kC'.alloc (.cells #[.pointer (some ⟨gm, 0, none⟩)] 36)
  have hS4 : (wC.alloc (.cells #[.pointer (some ⟨gm, 0, none⟩)] 36)).cell? ⟨g, 1, none⟩ = some (.slice (some ⟨bR, 0, none⟩) E.length cR) := kc2.cell g1 (by simp)
  go_simp
  refine hK _ _ (fun _ => hS4) ?_
  clear hK K
  refine wpAnyZ_one 8 rfl (by kernel_rfl) (fun K hK => ?_)
  have hnews2 : ∀ (j : Nat) u, [Value.pointer (some ⟨gm, 0, none⟩)][j]? = some u → (wC.alloc (.cells #[.pointer (some ⟨gm, 0, none⟩)] 36)).cell? ((⟨wC.heap.size, 0, none⟩ : Addr).add j) = some u := fun j u hj => by
    rw [add_none rfl]
    rcases j with _ | j
    · simp at hj; subst hj
      simp [go_sem]
    · simp at hj
  refine step_append_own2 (by rfl) (.tmp 102) (.tmp 105) 45 (by rfl) base 36 Try.underlying45 (.pointer none) 8 (by kernel_rfl) rfl _ _ _ (by rfl) (own_of_kept rR6 kc2 (by simp)) ⟨wC.heap.size, 0, none⟩ 1 1 [.pointer (some ⟨gm, 0, none⟩)] (by rfl) rfl hnews2 (by simp [Value.oneCell']) (by have := HC.out.2; unfold maxLen; omega) (by have := HC.out.2; omega) (by have := HBW.out; have := kc2.size; have := HK0.out.size; have := kw6.size; omega) ?_
  intro v8 w8 o8 g8 at8
  obtain ⟨p8, c8, rfl⟩ := own_shape2 o8
  have k8 := Kept.ofGrown (S := (Value.slice (some ⟨bR, 0, none⟩) E.length cR).ownBlock.toList) g8 (by intro k e _; simp [e])
  have kB8 := ((kc2.mono (by simp)).trans k8 (fun x hx => .inl hx))
  have z0 := (HH.out.blk.kept kB8 ngR).cell (j := 1) rfl
  have z1 := (HH.out.blk.kept kB8 ngR).free 1
  have hS5 : w8.cell? ⟨g, 1, none⟩ = some (.slice (some ⟨bR, 0, none⟩) E.length cR) := z0
  refine hK _ _ (fun _ => hS5) ?_
  clear hK K
  (try simp only [Act.put, List.setIfInBounds_toArray, List.set_cons_zero, List.set_cons_succ])
  refine wpAnyZ_one 9 rfl (by kernel_rfl) (fun K hK => ?_)
  go_simp
  refine hK _ _ (fun _ => hS5) ?_
  clear hK K
  refine wpAnyZ_one 10 rfl (by kernel_rfl) (fun K hK => ?_)
  go_simp
  refine hK _ _ (fun _ => hS5) ?_
  clear hK K
  refine wpAnyZ_one 11 rfl (by kernel_rfl) (fun K hK => ?_)
  go_simp
  refine hK _ _ (fun h => absurd rfl h) ?_
  clear hK K
  refine wpAnyZ_done (by kernel_rfl) ?_ _
  obtain ⟨f1, f2⟩ := HH.out.done kC' qC fB o8 k8 (by rcases at8 with e | e; exact .inl e; exact .inr (by have := e.1; simp at this; simpa using this))
  obtain ⟨f3, f4⟩ := HH.out.doneX HX.out kC' qC fB o8 k8 (by rcases at8 with e | e; exact .inl e; exact .inr (by have := e.1; simp at this; simpa using this))
  have FIN : Hid (∃ vD' vR' E', Book base (w8.setCell ⟨g, 1, none⟩ (.slice p8 (E.length + 1) c8)) g vD' vR' E' ∧ Few (M + 1) E' ∧ E.length ≤ E'.length ∧ E'.length ≤ E.length + 1 ∧ ((E = [] → E' = []) ∧ ∀ a b c, Shp a b c E → Shp a b c E') ∧ PX base X w (w8.setCell ⟨g, 1, none⟩ (.slice p8 (E.length + 1) c8)) ∧ Away X (w8.setCell ⟨g, 1, none⟩ (.slice p8 (E.length + 1) c8)) g vD' vR' E') := ⟨_, _, _, f1, (HM.out.mono (by omega)).push (by have := HM.out e hmem; show (e.d.copy).loose.length ≤ _; show e.d.loose.length ≤ _; omega), by simp, by simp, ⟨fun e => by rw [e] at hkl; simp at hkl, fun _ _ _ hs => hs.push HE.out ⟨rfl, rfl, rfl⟩⟩, (PX.kept HK0.out).trans f3, f4⟩
  clear f1 f2 f3 f4 o8 k8 g8 at8 kB8 z0 z1 hS3 hS4 hS5 hnews2 qC fB
  go_wp2
  go_ret
  exact ⟨by simp, FIN.out⟩
theorem play_anyX (base g M : Nat) (vD vR ub vk : Value) (E : List Ent) (wh n m cl : Int) (b : List UInt8) (keep : List Int) (w : World) (h : Book base w g vD vR E) (X : Nat → Prop) (hX : Away X w g vD vR E) (hM : Few M E) (hcap : (M + 1) * 40 ≤ 140737488355328) (hcap2 : (E.length + 1) * 8 ≤ 140737488355328) (hb : Bs w ub b) (hk : Is w vk keep) (hub : b ≠ [] → ∀ x, ub.ownBlock = some x → X x) (hvk : keep ≠ [] → ∀ x, vk.ownBlock = some x → X x) (hn : IntKind.i64.wrap n = n) (hpos : 0 < E.length) (K : Int) (h13 : ¬ K = 13) :
    Calls Try.prog 16 #[.pointer (some ⟨g, 0, none⟩), .agg #[.int .i64 K, .int .i64 wh, .int .i64 n, .int .i64 m, ub, .int .i64 cl, vk]] w fun r w' => r = .returned (.bool true) ∧ ∃ vD' vR' E', Book base w' g vD' vR' E' ∧ Few (M + 1) E' ∧ E.length ≤ E'.length ∧ E'.length ≤ E.length + 1 ∧ ((E = [] → E' = []) ∧ ∀ a b c, Shp a b c E → Shp a b c E') ∧ PX base X w w' ∧ Away X w' g vD' vR' E' := by
  by_cases h12 : K = 12
  · subst h12; exact play_stopX base g M vD vR ub vk E wh n m cl b keep w h X hX hM hcap hcap2 hb hk hub hvk hn hpos
  by_cases h14 : K = 14
  · subst h14; exact play_copyX base g M vD vR ub vk E wh n m cl b keep w h X hX hM hcap hcap2 hb hk hub hvk hn hpos
  exact play_rwX base g M vD vR ub vk E wh n m cl b keep w h X hX hM hcap hcap2 hb hk hub hvk hn hpos K h12 h13 h14
end Go.Proofs.Ytmipmiaflompmab

