import Derived.Test.YtmipmiaflompmaaRows
import Derived.Test.YtmipmiaflompmaaC5
/-
  OWN WORK. DiskTears, the walk.
-/
namespace Go.Proofs.Ytmipmiaflompmaa
open Go.RowKit
set_option linter.unusedVariables false

theorem placeSet_set (m : IM) (p : Nat) (x y : List UInt8) : placeSet (placeSet m p x) p y = placeSet m p y := by
  unfold placeSet
  by_cases h0 : p = 0
  · rw [if_pos h0, if_pos h0, if_pos h0]
    simp
  · rw [if_neg h0, if_neg h0, if_neg h0]
    by_cases h1 : p = 1
    · rw [if_pos h1, if_pos h1, if_pos h1]
    · rw [if_neg h1, if_neg h1, if_neg h1]
      by_cases h2 : p = 2
      · rw [if_pos h2, if_pos h2, if_pos h2]
      · rw [if_neg h2, if_neg h2, if_neg h2]
theorem placeL_placeSet (m : IM) (p : Nat) (x : List UInt8) (h : 1 ≤ m.ps.length) : placeL (placeSet m p x) p = x := by
  unfold placeSet placeL
  by_cases h0 : p = 0
  · rw [if_pos h0, if_pos h0]
    simp only [List.length_set]
    rw [List.getD, List.getElem?_set_self (by omega)]
    rfl
  · rw [if_neg h0, if_neg h0]
    by_cases h1 : p = 1
    · rw [if_pos h1, if_pos h1]
    · rw [if_neg h1, if_neg h1]
      by_cases h2 : p = 2
      · rw [if_pos h2, if_pos h2]
      · rw [if_neg h2, if_neg h2]
theorem lay_step {b o : List UInt8} {k : Nat} (hk : k < b.length) (hl : o.length = b.length) : (b.take k ++ o.drop k).set k b[k] = b.take (k + 1) ++ o.drop (k + 1) := by
  have e : (b.take k).length = k := by simp; omega
  rw [List.set_append_right _ _ (by omega), e, Nat.sub_self, List.drop_eq_getElem_cons (show k < o.length by omega), List.set_cons_zero, ← List.take_append_getElem hk, List.append_assoc]
  rfl
theorem tearN_le (sz : Nat) (K : Int) : tearN sz K ≤ sz := by
  unfold tearN
  split
  · exact Nat.le_refl _
  · split
    · exact restN_lt _ _
    · omega
theorem newE_cases (a b c : Int) : newE a b c = 0 ∨ newE a b c = 60 := by
  unfold newE
  split
  · exact .inl rfl
  · exact .inr rfl
theorem write_loose (d : DS) (ix : Option Nat) (b : List UInt8) : (d.write ix b).loose.length ≤ d.loose.length + 1 := by
  unfold DS.write
  split
  · rw [d.act_loose]; omega
  · split
    · simp
    · rw [d.act_loose]; omega
theorem sync_loose (d : DS) (m : Bool) : (d.sync m).loose.length ≤ d.loose.length := by
  unfold DS.sync
  split
  · exact List.length_filter_le _ _
  · rw [d.act_loose]; exact Nat.le_refl _
theorem write_np (d : DS) (ix : Option Nat) (b : List UInt8) : (d.write ix b).np = d.np := by
  unfold DS.write
  split
  · exact d.act_np
  · split
    · exact d.act_np
    · exact d.act_np
theorem sync_np (d : DS) (m : Bool) : (d.sync m).np = d.np := by
  unfold DS.sync
  split
  · exact d.act_np
  · exact d.act_np
theorem placeV_own {w : World} {base p : Nat} {V : IV} {m : IM} {v : Value} (h : OwnIm w base V m) (hn : 1 ≤ m.ps.length) (hp : p < 4) (hv : placeV V p v) : w.ownsRow base 5 1 v (placeL m p).length (u8s (placeL m p)) := by
  have hr := placeV_rows (by rw [h.len]; exact hn) hp hv
  have hb := h.see.place hn hv
  have hi := (List.getElem?_eq_some_iff.1 hr).1
  obtain ⟨l, hll⟩ : ∃ l, m.all[placeI V.pv.length p]? = some l := ⟨_, List.getElem?_eq_getElem (by rw [← h.fam.len]; exact hi)⟩
  have ho := h.fam.own _ _ _ hr hll
  have e : l = placeL m p := by
    have hl := h.len
    rcases (by omega : p = 0 ∨ p = 1 ∨ p = 2 ∨ p = 3) with rfl | rfl | rfl | rfl
    · have h9 : m.all[V.pv.length + 1]? = some l := hll
      obtain ⟨n, e⟩ : ∃ n, V.pv.length = n + 1 := ⟨V.pv.length - 1, by omega⟩
      rw [e] at h9
      have h9 : (m.ps ++ [m.m0, m.m1])[n]? = some l := h9
      rw [List.getElem?_append_left (by omega)] at h9
      show l = m.ps.getD (m.ps.length - 1) []
      rw [show m.ps.length - 1 = n by omega, List.getD, h9]
      rfl
    · have h9 : some m.pair = some l := hll
      exact (Option.some.inj h9).symm
    · have h9 : (m.ps ++ [m.m0, m.m1])[V.pv.length]? = some l := hll
      rw [List.getElem?_append_right (by omega), hl, Nat.sub_self] at h9
      exact (Option.some.inj h9).symm
    · have h9 : (m.ps ++ [m.m0, m.m1])[V.pv.length + 1]? = some l := hll
      rw [List.getElem?_append_right (by omega), hl, show m.ps.length + 1 - m.ps.length = 1 by omega] at h9
      exact (Option.some.inj h9).symm
  rw [← e]
  exact ho
set_option maxRecDepth 100000 in
set_option maxHeartbeats 25600000 in
theorem diskTears_walk (a b c : Int) (old new : UInt8) (pl K : Int) (W : World) (hK : IntKind.i64.wrap K = K) :
    Calls Try.prog 3 #[.agg #[.int .i64 a, .int .i64 b, .int .i64 c], .agg #[.int .u8 (old.toNat : Int), .int .u8 (new.toNat : Int), .int .i64 pl, .int .i64 K]] W fun r W' => r = .returned (.bool true) ∧ Kept [] W W' := by
  obtain ⟨w2, hw2⟩ : ∃ w2, w2 = (W.alloc (.cells #[.int .i64 a, .int .i64 b, .int .i64 c] 23)).alloc (.cells #[.int .u8 (old.toNat : Int), .int .u8 (new.toNat : Int), .int .i64 pl, .int .i64 K] 25) := ⟨_, rfl⟩
  have k2 : Kept [] W w2 := by rw [hw2]; exact ((Kept.refl [] W).alloc _).alloc _
  have bS : Blk w2 W.heap.size 23 [.int .i64 a, .int .i64 b, .int .i64 c] := by
    rw [hw2]
    exact (Blk.new W _ _).kept ((Kept.refl [] _).alloc _) (by simp)
  have bT : Blk w2 (W.heap.size + 1) 25 [.int .u8 (old.toNat : Int), .int .u8 (new.toNat : Int), .int .i64 pl, .int .i64 K] := by
    rw [hw2]
    have := Blk.new (W.alloc (.cells #[.int .i64 a, .int .i64 b, .int .i64 c] 23)) 25 [.int .u8 (old.toNat : Int), .int .u8 (new.toNat : Int), .int .i64 pl, .int .i64 K]
    rwa [World.size_alloc] at this
  have K2 : Hid (Kept [] W w2) := k2
  have HSB : Hid (Blk w2 W.heap.size 23 [.int .i64 a, .int .i64 b, .int .i64 c] ∧ Blk w2 (W.heap.size + 1) 25 [.int .u8 (old.toNat : Int), .int .u8 (new.toNat : Int), .int .i64 pl, .int .i64 K]) := ⟨bS, bT⟩
  have HW2 : Hid (w2 = (W.alloc (.cells #[.int .i64 a, .int .i64 b, .int .i64 c] 23)).alloc (.cells #[.int .u8 (old.toNat : Int), .int .u8 (new.toNat : Int), .int .i64 pl, .int .i64 K] 25)) := hw2
  have HK : Hid (IntKind.i64.wrap K = K) := hK
  obtain ⟨oI, hoI⟩ : ∃ x : Int, x = (old.toNat : Int) := ⟨_, rfl⟩
  obtain ⟨nI, hnI⟩ : ∃ x : Int, x = (new.toNat : Int) := ⟨_, rfl⟩
  have HI : Hid (oI = (old.toNat : Int) ∧ nI = (new.toNat : Int)) := ⟨hoI, hnI⟩
  rw [← hoI, ← hnI] at HSB HW2 ⊢
  clear k2 bS bT hw2 hK hoI hnI
  go_enter Try.func3, Try.ntmps3
  go_wp2_with fail
  rw [← HW2.out]
  refine (head_any w2).mono ?_
  rintro r w3 ⟨rfl, k3⟩
  have i0 := (HSB.out.1.kept k3 (by simp)).cell (j := 0) rfl
  have i1 := (HSB.out.1.kept k3 (by simp)).cell (j := 1) rfl
  have i2 := (HSB.out.1.kept k3 (by simp)).cell (j := 2) rfl
  have hnw := fNew a b c w3
  rcases newE_cases a b c with hE | hE
  · cases hs : shapeOk a b c with
    | false => unfold newE at hE; rw [hs] at hE; simp at hE
    | true =>
      obtain ⟨np, ns, lm, rfl, rfl, rfl, h1, h2, h3⟩ := shapeOk_nat hs
      rw [hE, show newD (np : Int) (ns : Int) (lm : Int) = DS.blank np ns lm by simp [newD]] at hnw
      obtain ⟨p, hp⟩ : ∃ p, p = restN pl 4 := ⟨_, rfl⟩
      have hp4 : p < 4 := by rw [hp]; have := restN_lt pl 3; simp only [show 3 + 1 = 4 from rfl] at this; omega
      obtain ⟨sz, hsz⟩ : ∃ sz, sz = placeSz ns p := ⟨_, rfl⟩
      have hszl : sz ≤ 168 := by rw [hsz]; exact placeSz_le h2.2
      have hsz0 : 0 < sz := by rw [hsz, ← placeSz_eq h1.1 hp4]; exact sizeK_pos _ _ _
      obtain ⟨k, hk⟩ : ∃ k, k = placeK np p := ⟨_, rfl⟩
      obtain ⟨ol, hol⟩ : ∃ l, l = List.replicate sz old := ⟨_, rfl⟩
      obtain ⟨nl, hnl⟩ : ∃ l, l = List.replicate sz new := ⟨_, rfl⟩
      obtain ⟨tn, htn⟩ : ∃ n, n = tearN sz K := ⟨_, rfl⟩
      have htl : tn ≤ sz := by rw [htn]; exact tearN_le sz K
      obtain ⟨d0, hd0⟩ : ∃ d, d = DS.blank np ns lm := ⟨_, rfl⟩
      have HT := tears_plain K old new h1 h2 h3 hp4 k sz hk hsz d0 _ hd0 rfl
      rw [← hol, ← hnl, ← htn] at HT
      obtain ⟨d1, hd1⟩ : ∃ d, d = d0.write (some k) ol := ⟨_, rfl⟩
      obtain ⟨d2, hd2⟩ : ∃ d, d = d1.sync false := ⟨_, rfl⟩
      obtain ⟨d3, hd3⟩ : ∃ d, d = d2.sync true := ⟨_, rfl⟩
      obtain ⟨d4, hd4⟩ : ∃ d, d = d3.write (some k) nl := ⟨_, rfl⟩
      rw [← hd1, ← hd2, ← hd3, ← hd4] at HT
      obtain ⟨y1, y2, y3, y4, y5, y6, y7, y8⟩ := HT
      obtain ⟨bl, hbl⟩ : ∃ l, l = List.replicate tn new ++ List.replicate (sz - tn) old := ⟨_, rfl⟩
      obtain ⟨m0, hm0⟩ : ∃ m, m = imOf np (blankRows np ns) [] := ⟨_, rfl⟩
      have hm0l : m0.ps.length = np := by rw [hm0]; show (((blankRows np ns).drop 1).take np).length = np; have := (DS.Ok.ofBlank h1 h2 h3).len; have e : (DS.blank np ns lm).rows = blankRows np ns := rfl; rw [e] at this; have e2 : (DS.blank np ns lm).np = np := rfl; rw [e2] at this; simp; omega
      rw [← hm0] at y5 y6 y7
      rw [← hbl] at y7
      obtain ⟨mO, hmO⟩ : ∃ m, m = placeSet m0 p ol := ⟨_, rfl⟩
      obtain ⟨mN, hmN⟩ : ∃ m, m = placeSet m0 p nl := ⟨_, rfl⟩
      obtain ⟨mB, hmB⟩ : ∃ m, m = placeSet m0 p bl := ⟨_, rfl⟩
      rw [← hmO] at y5
      rw [← hmN] at y6
      rw [← hmB] at y7
      have HM : Hid ((mO.ps.length = np ∧ mN.ps.length = np ∧ mB.ps.length = np) ∧ (placeL mO p = ol ∧ placeL mN p = nl ∧ placeL mB p = bl) ∧ placeSet mO p bl = mB) := (show _ from ⟨⟨by rw [hmO, placeSet_len]; exact hm0l, by rw [hmN, placeSet_len]; exact hm0l, by rw [hmB, placeSet_len]; exact hm0l⟩, ⟨by rw [hmO]; exact placeL_placeSet _ _ _ (by omega), by rw [hmN]; exact placeL_placeSet _ _ _ (by omega), by rw [hmB]; exact placeL_placeSet _ _ _ (by omega)⟩, by rw [hmO, placeSet_set, hmB]⟩)
      have HY : Hid (d4.lasts = mO ∧ d4.image = mN ∧ (d4.crash 0 [K]).lasts = mB ∧ (d4.crash 0 [K]).image = mB) := ⟨y5, y6, y7, by rw [y8, y7]⟩
      have HN : Hid ((1 ≤ np ∧ np ≤ 16) ∧ (1 ≤ ns ∧ ns ≤ 8) ∧ p < 4 ∧ (0 < sz ∧ sz ≤ 168) ∧ sz = placeSz ns p ∧ k = placeK np p ∧ tn ≤ sz ∧ tn = tearN sz K) := ⟨h1, h2, hp4, ⟨hsz0, hszl⟩, hsz, hk, htl, htn⟩
      have HLs : Hid (ol = List.replicate sz old ∧ nl = List.replicate sz new ∧ bl = List.replicate tn new ++ List.replicate (sz - tn) old) := ⟨hol, hnl, hbl⟩
      have HD : Hid (d0 = DS.blank np ns lm ∧ d1 = d0.write (some k) ol ∧ d2 = d1.sync false ∧ d3 = d2.sync true ∧ d4 = d3.write (some k) nl) := ⟨hd0, hd1, hd2, hd3, hd4⟩
      have HLo : Hid ((d0.np = np ∧ d3.np = np) ∧ d0.loose.length ≤ 0 ∧ d1.loose.length ≤ 1 ∧ d2.loose.length ≤ 1 ∧ d3.loose.length ≤ 1) := (show _ from by
        have a0 : d0.np = np := by rw [hd0]; rfl
        have b0 : d0.loose.length ≤ 0 := by rw [hd0]; exact Nat.le_refl _
        have b1 : d1.loose.length ≤ 1 := by rw [hd1]; have := write_loose d0 (some k) ol; omega
        have b2 : d2.loose.length ≤ 1 := by rw [hd2]; have := sync_loose d1 false; omega
        have b3 : d3.loose.length ≤ 1 := by rw [hd3]; have := sync_loose d2 true; omega
        exact ⟨⟨a0, by rw [hd3, sync_np, hd2, sync_np, hd1, write_np]; exact a0⟩, b0, b1, b2, b3⟩)
      have hmod := fun w => mod_any pl 4 w (by omega) (by omega)
      simp only [← hp, show ((4 : Nat) : Int) = 4 from rfl] at hmod
      have m1 : IntKind.i64.wrap (16 * (ns : Int)) = 16 * (ns : Int) := wrap_i64_of (by omega) (by omega)
      have m2 : IntKind.i64.wrap (24 + 16 * (ns : Int)) = 24 + 16 * (ns : Int) := wrap_i64_of (by omega) (by omega)
      rw [← hd0] at hnw
      clear hs hE hp hszl y5 y6 y7 y8 h1 h2 h3 hd0 hd1 hd2 hd3 hd4 hol hnl hbl hmO hmN hmB hm0 hm0l hsz hk htn hsz0 htl hp4
      go_wp2_with fail
      refine hnw.mono ?_
      clear hnw
      rintro r w4 ⟨u, rfl, ⟨-, F0, p0, f0, k4, -⟩ | ⟨h9, -⟩⟩
      · obtain ⟨gd, rfl⟩ := p0.ptr
        have c1 := k4.cell i1 (by simp)
        have t2 := ((HSB.out.2.kept k3 (by simp)).kept k4 (by simp)).cell (j := 2) rfl
        have t0 := ((HSB.out.2.kept k3 (by simp)).kept k4 (by simp)).cell (j := 0) rfl
        clear i0 i1 i2
        go_wp2_with fail
        refine (hmod _).mono ?_
        rintro r w5 ⟨rfl, rfl⟩
        clear hmod
        go_upto_if 48 with fail
        go_cut [7] (fun s wx => s = .int .i64 (if p = 1 then 40 + 16 * (ns : Int) else 24 + 16 * (ns : Int)) ∧ wx = w5)
        case first =>
          have m3 : IntKind.i64.wrap (24 + 16 * (ns : Int) + 16) = 40 + 16 * (ns : Int) := by have := HN.out.2.1; rw [wrap_i64_of (by omega) (by omega)]; omega
          by_cases hp1 : p = 1
          · have hp1' : (p : Int) = 1 := by omega
            go_wp2
            go_meet
            case rel => exact ⟨by rw [if_pos hp1], rfl⟩
          · have hp1' : ¬ (p : Int) = 1 := by omega
            go_wp2
            go_meet
            case rel => exact ⟨by rw [if_neg hp1], rfl⟩
        case rest =>
          obtain ⟨rfl, rfl⟩ := hcut
          go_upto_if 52 with fail
          go_cut [7] (fun s wx => s = .int .i64 (sz : Int) ∧ wx = wc)
          case first =>
            by_cases hp1 : p ≤ 1
            · have hp1' : ¬ (1 : Int) < (p : Int) := by omega
              have e9 : (if p = 1 then 40 + 16 * (ns : Int) else 24 + 16 * (ns : Int)) = (sz : Int) := by
                rw [HN.out.2.2.2.2.1]
                unfold placeSz
                by_cases h0 : p = 0
                · rw [if_neg (by omega), if_pos h0]; omega
                · rw [if_pos (by omega), if_neg h0, if_pos (by omega)]; omega
              rw [e9]
              go_wp2
              go_meet
              case rel => exact ⟨rfl, rfl⟩
            · have hp1' : (1 : Int) < (p : Int) := by omega
              have e9 : (40 : Int) = (sz : Int) := by
                rw [HN.out.2.2.2.2.1]
                unfold placeSz
                rw [if_neg (by omega), if_neg (by omega)]; rfl
              go_wp2
              go_meet
              case rel => exact ⟨by rw [← e9], rfl⟩
          case rest =>
            obtain ⟨rfl, rfl⟩ := hcut
            clear m1 m2 t2 c1
            have hr1 := row_any sz old wc (by have := HN.out.2.2.2.1; omega)
            rw [← HI.out.1, ← HLs.out.1] at hr1
            go_wp2_with fail
            refine hr1.mono ?_
            clear hr1
            rintro r w6 ⟨v6, rfl, o6, k6⟩
            have hwr1 := written_any _ _ d0 F0 p ol w6 HN.out.2.2.1 (p0.kept k6 (by simp)) (Bs.ofOwn o6) (fun _ x hx hm => by have := own_ge o6 x hx; have := p0.lt x (Foot.inOwn hm); omega) (by have := HLo.out.2.1; omega)
            rw [HLo.out.1.1, ← HN.out.2.2.2.2.2.1, y1, ← HD.out.2.1] at hwr1
            obtain ⟨q6, e6, rfl⟩ := own_shape2 o6
            go_wp2_with fail
            refine hwr1.mono ?_
            clear hwr1
            rintro r w7 ⟨F1, rfl, p1, x1⟩
            have hsy := fSync _ d1 F1 w7 p1 (by have := HLo.out.2.2.1; omega)
            rw [y2, ← HD.out.2.2.1] at hsy
            go_wp2_with fail
            refine hsy.mono ?_
            clear hsy
            rintro r w8 ⟨F2, rfl, p2, x2⟩
            have hsm := fSyncMasters _ d2 F2 w8 p2 (by have := HLo.out.2.2.2.1; omega)
            rw [y3, ← HD.out.2.2.2.1] at hsm
            go_wp2_with fail
            refine hsm.mono ?_
            clear hsm
            rintro r w9 ⟨F3, rfl, p3, x3⟩
            have x13 : NextP w6 w9 F0 F3 := (x1.trans x2).trans x3
            have n3 : ∀ x ∈ F3.own, w3.heap.size ≤ x := fun x hx => by
              have := (k4.then k6).size
              rcases x13.2.1 x hx with c | c
              · exact f0 x c
              · omega
            have K39 : Kept [] w3 w9 := (k4.then k6).trans x13.1 (fun x hx => .inr (f0 x hx))
            have t1 := ((HSB.out.2.kept k3 (by simp)).kept K39 (by simp)).cell (j := 1) rfl
            have hr2 := row_any sz new w9 (by have := HN.out.2.2.2.1; omega)
            rw [← HI.out.2, ← HLs.out.2.1] at hr2
            clear x1 x2 x3 p1 p2 o6
            go_wp2_with fail
            refine hr2.mono ?_
            clear hr2
            rintro r w10 ⟨v10, rfl, o10, k10⟩
            have hwr2 := written_any _ _ d3 F3 p nl w10 HN.out.2.2.1 (p3.kept k10 (by simp)) (Bs.ofOwn o10) (fun _ x hx hm => by have := own_ge o10 x hx; have := p3.lt x (Foot.inOwn hm); omega) (by have := HLo.out.2.2.2.2; omega)
            rw [HLo.out.1.2, ← HN.out.2.2.2.2.2.1, y4, ← HD.out.2.2.2.2] at hwr2
            obtain ⟨q10, e10, rfl⟩ := own_shape2 o10
            go_wp2_with fail
            refine hwr2.mono ?_
            clear hwr2
            rintro r w11 ⟨F4, rfl, p4, x4⟩
            have K311 : Kept [] w3 w11 := (K39.then k10).trans x4.1 (fun x hx => .inr (n3 x hx))
            have t3 := ((HSB.out.2.kept k3 (by simp)).kept K311 (by simp)).cell (j := 3) rfl
            clear x4 o10 p3 p0 n3 f0 K39 x13 k4 k6 k10 t0 t1
            go_wp2_with fail
            have klit := (Kept.refl [] w11).alloc (.cells #[.int .i64 K] 3)
            have hC := fCrash _ d4 F4 0 (.slice (some ⟨w11.heap.size, 0, none⟩) 1 1) [K] (w11.alloc (.cells #[.int .i64 K] 3)) (p4.kept klit (by simp)) (is_lit w11 3 K HK.out)
            refine hC.mono ?_
            clear hC
            rintro r w12 ⟨uc, rfl, FC, pC, fC, k12, -⟩
            obtain ⟨gc, rfl⟩ := pC.ptr
            have K12 : Kept [] w11 w12 := klit.then k12
            have T3 := K12.cell t3 (by simp)
            clear klit k12 t3
            go_upto_if 95 with fail
            go_cut [14] (fun s wx => s = .int .i64 (if K = 1 then (sz : Int) else 0) ∧ wx = w12)
            case first =>
              by_cases hk1 : K = 1
              · go_wp2
                go_meet
                case rel => exact ⟨by rw [if_pos hk1], rfl⟩
              · go_wp2
                go_meet
                case rel => exact ⟨by rw [if_neg hk1], rfl⟩
            case rest =>
              obtain ⟨rfl, rfl⟩ := hcut
              go_upto_if 99 with fail
              go_cut [14] (fun s wx => s = .int .i64 (tn : Int) ∧ wx = wc)
              case first =>
                by_cases hk2 : 1 < K
                · obtain ⟨s1, hs1⟩ : ∃ s1 : Nat, s1 = sz + 1 := ⟨_, rfl⟩
                  have g1 : IntKind.i64.wrap (K - 1) = K - 1 := by have := wrap_i64_range HK.out; exact wrap_i64_of (by omega) (by omega)
                  have g2 : IntKind.i64.wrap ((sz : Int) + 1) = (s1 : Int) := by have := HN.out.2.2.2.1; rw [wrap_i64_of (by omega) (by omega)]; omega
                  have g3 : ¬ (s1 : Int) = 0 := by omega
                  have g4 : (K - 1).tmod (s1 : Int) = (tn : Int) := by
                    rw [Int.tmod_eq_emod_of_nonneg (by omega), HN.out.2.2.2.2.2.2.2]
                    unfold tearN
                    rw [if_neg (by omega), if_pos (by omega), ← hs1, restN_int _ _ (by omega)]
                  have g5 : IntKind.i64.wrap (tn : Int) = (tn : Int) := by have h5 := HN.out.2.2.2.1; have h6 := HN.out.2.2.2.2.2.2.1; exact wrap_i64_of (by omega) (by omega)
                  clear hs1
                  go_wp2
                  go_meet
                  case rel => exact ⟨rfl, rfl⟩
                · have e9 : (if K = 1 then (sz : Int) else 0) = (tn : Int) := by
                    rw [HN.out.2.2.2.2.2.2.2]
                    unfold tearN
                    by_cases h1 : K = 1
                    · rw [if_pos h1, if_pos h1]
                    · rw [if_neg h1, if_neg h1, if_neg (by omega)]; rfl
                  rw [e9]
                  go_wp2
                  go_meet
                  case rel => exact ⟨rfl, rfl⟩
              case rest =>
                obtain ⟨rfl, rfl⟩ := hcut
                clear T3
                have hLm := fLasts _ (d4.crash 0 [K]) FC wc pC
                rw [HY.out.2.2.1] at hLm
                go_wp2_with fail
                refine hLm.mono ?_
                clear hLm
                rintro r w13 ⟨VM, rfl, hVM, k13⟩
                obtain ⟨vpm, pvm, pairm, logm, mmm, mlm⟩ := VM
                obtain ⟨x0m, z0m, x1m, z1m, x2m, z2m, x3m, z3m, x4m, z4m, e0m, e1m, e2m, e3m, e4m⟩ := hVM.shapes
                simp only at e0m e1m e2m e3m e4m
                subst e0m e1m e2m e3m e4m
                unfold IV.agg
                dsimp only
                obtain ⟨w14, hw14⟩ : ∃ w14, w14 = w13.alloc (.cells #[.slice x0m pvm.length z0m, .slice x1m mB.pair.length z1m, .slice x2m mB.log.length z2m, .slice x3m mB.m0.length z3m, .slice x4m mB.m1.length z4m] 43) := ⟨_, rfl⟩
                have k14 : Kept [] w13 w14 := by rw [hw14]; exact (Kept.refl [] w13).alloc _
                have s14 : w14.heap.size = w13.heap.size + 1 := by rw [hw14]; simp
                have bM : Blk w14 w13.heap.size 43 [.slice x0m pvm.length z0m, .slice x1m mB.pair.length z1m, .slice x2m mB.log.length z2m, .slice x3m mB.m0.length z3m, .slice x4m mB.m1.length z4m] := by rw [hw14]; exact Blk.new w13 _ _
                have K14 : Kept [] w11 w14 := (K12.then k13).then k14
                have hLd := fLasts _ d4 F4 w14 (p4.kept K14 (by simp))
                rw [HY.out.1] at hLd
                have HW14 : Hid (w14 = _) := hw14
                go_wp2_with fail
                rw [← HW14.out]
                refine hLd.mono ?_
                clear hLd hw14
                rintro r w15 ⟨VW, rfl, hVW, k15⟩
                obtain ⟨vpo, pvo, pairo, logo, mmo, mlo⟩ := VW
                obtain ⟨x0o, z0o, x1o, z1o, x2o, z2o, x3o, z3o, x4o, z4o, e0o, e1o, e2o, e3o, e4o⟩ := hVW.shapes
                simp only at e0o e1o e2o e3o e4o
                subst e0o e1o e2o e3o e4o
                unfold IV.agg
                dsimp only
                obtain ⟨w16, hw16⟩ : ∃ w16, w16 = w15.alloc (.cells #[.slice x0o pvo.length z0o, .slice x1o mO.pair.length z1o, .slice x2o mO.log.length z2o, .slice x3o mO.m0.length z3o, .slice x4o mO.m1.length z4o] 43) := ⟨_, rfl⟩
                have k16 : Kept [] w15 w16 := by rw [hw16]; exact (Kept.refl [] w15).alloc _
                have s16 : w16.heap.size = w15.heap.size + 1 := by rw [hw16]; simp
                have bO : Blk w16 w15.heap.size 43 [.slice x0o pvo.length z0o, .slice x1o mO.pair.length z1o, .slice x2o mO.log.length z2o, .slice x3o mO.m0.length z3o, .slice x4o mO.m1.length z4o] := by rw [hw16]; exact Blk.new w15 _ _
                have hlm : (pvm.length : Int) = (np : Int) := by have h8 := hVM.len; have h9 := HM.out.1.2.2; simp only at h8; omega
                have hlo : (pvo.length : Int) = (np : Int) := by have h8 := hVW.len; have h9 := HM.out.1.1; simp only at h8; omega
                have K16 : Kept [] w14 w16 := k15.then k16
                obtain ⟨⟨i0, i1, i2, i3, i4⟩, -⟩ := (bM.kept K16 (by simp)).five
                obtain ⟨⟨j0, j1, j2, j3, j4⟩, -⟩ := bO.five
                have cS := ((HSB.out.1.kept k3 (by simp)).kept (K311.then (K14.then K16)) (by simp)).cell (j := 0) rfl
                have sM : SeeIm w16 ⟨.slice x0m pvm.length z0m, pvm, .slice x1m mB.pair.length z1m, .slice x2m mB.log.length z2m, .slice x3m mB.m0.length z3m, .slice x4m mB.m1.length z4m⟩ mB := (hVM.see.kept k14).kept K16
                have sO : SeeIm w16 ⟨.slice x0o pvo.length z0o, pvo, .slice x1o mO.pair.length z1o, .slice x2o mO.log.length z2o, .slice x3o mO.m0.length z3o, .slice x4o mO.m1.length z4o⟩ mO := hVW.see.kept k16
                have hl1 := lies_any ⟨.slice x0m pvm.length z0m, pvm, .slice x1m mB.pair.length z1m, .slice x2m mB.log.length z2m, .slice x3m mB.m0.length z3m, .slice x4m mB.m1.length z4m⟩ mB p w16 HN.out.2.2.1 sM (by have h8 := HM.out.1.2.2; have h9 := HN.out.1; omega)
                unfold IV.agg at hl1
                dsimp only at hl1
                have HW16 : Hid (w16 = _) := hw16
                rw [hw16] at i0 i1 i2 i3 i4 j0 j1 j2 j3 j4 cS
                go_wp2_with fail
                rw [← HW16.out]
                rw [← hw16] at j0 j1 j2 j3 j4 i0 i1 i2 i3 i4 cS
                refine hl1.mono ?_
                clear hl1 hw16
                rintro r w17 ⟨vb, rfl, hpb, k17⟩
                have hl2 := lies_any ⟨.slice x0o pvo.length z0o, pvo, .slice x1o mO.pair.length z1o, .slice x2o mO.log.length z2o, .slice x3o mO.m0.length z3o, .slice x4o mO.m1.length z4o⟩ mO p w17 HN.out.2.2.1 (sO.kept k17) (by have h8 := HM.out.1.1; have h9 := HN.out.1; omega)
                unfold IV.agg at hl2
                dsimp only at hl2
                have j0' := k17.cell j0 (by simp)
                have j1' := k17.cell j1 (by simp)
                have j2' := k17.cell j2 (by simp)
                have j3' := k17.cell j3 (by simp)
                have j4' := k17.cell j4 (by simp)
                go_wp2_with fail
                refine hl2.mono ?_
                clear hl2 j0' j1' j2' j3' j4'
                rintro r w18 ⟨vo, rfl, hpo, k18⟩
                have K18 : Kept [] w16 w18 := k17.then k18
                have hIm := fImage _ d4 F4 w18 (p4.kept ((K14.then K16).then K18) (by simp))
                rw [HY.out.2.1] at hIm
                go_wp2_with fail
                refine hIm.mono ?_
                clear hIm
                rintro r w19 ⟨VN, rfl, hVN, k19⟩
                have hl3 := lies_any VN mN p w19 HN.out.2.2.1 hVN.see (by have h8 := HM.out.1.2.1; have h9 := HN.out.1; omega)
                obtain ⟨vpn, pvn, pairn, logn, mmn, mln⟩ := VN
                unfold IV.agg at hl3 ⊢
                dsimp only at hl3 ⊢
                go_wp2_with fail
                refine hl3.mono ?_
                clear hl3
                rintro r w20 ⟨vn, rfl, hpn, k20⟩
                have K20 : Kept [] w16 w20 := (K18.then k19).then k20
                have onm : 1 ≤ mB.ps.length ∧ 1 ≤ mO.ps.length ∧ 1 ≤ mN.ps.length := by have h8 := HM.out.1; have h9 := HN.out.1; omega
                have rb : w20.ownsRow wc.heap.size 5 1 vb bl.length (u8s bl) := by have h9 := placeV_own hVM onm.1 HN.out.2.2.1 hpb; rw [HM.out.2.1.2.2] at h9; exact own_of_kept h9 ((k14.then K16).then K20) (by simp)
                have ro : w20.ownsRow w14.heap.size 5 1 vo ol.length (u8s ol) := by have h9 := placeV_own hVW onm.2.1 HN.out.2.2.1 hpo; rw [HM.out.2.1.1] at h9; exact own_of_kept h9 (k16.then K20) (by simp)
                have rn : w20.ownsRow w18.heap.size 5 1 vn nl.length (u8s nl) := by have h9 := placeV_own hVN onm.2.2 HN.out.2.2.1 hpn; rw [HM.out.2.1.2.1] at h9; exact own_of_kept h9 k20 (by simp)
                have lo : ol.length = sz := by rw [HLs.out.1]; simp
                have ln : nl.length = sz := by rw [HLs.out.2.1]; simp
                have lb : bl.length = sz := by have h9 := HN.out.2.2.2.2.2.2.1; rw [HLs.out.2.2]; simp; omega
                obtain ⟨gb, cb, rfl, -⟩ := own_at8 rb (by have h9 := HN.out.2.2.2.1; omega)
                obtain ⟨go, co, rfl, -⟩ := own_at8 ro (by have h9 := HN.out.2.2.2.1; omega)
                obtain ⟨gn, cn, rfl, -⟩ := own_at8 rn (by have h9 := HN.out.2.2.2.1; omega)
                have blt : gb < w14.heap.size := by have h9 := placeV_own hVM onm.1 HN.out.2.2.1 hpb; have h8 := own_lt h9 gb rfl; omega
                have oge : w14.heap.size ≤ go := own_ge ro go rfl
                obtain ⟨qn, hqn⟩ : ∃ q, q = sz - tn := ⟨_, rfl⟩
                have wq : IntKind.i64.wrap ((sz : Int) - (tn : Int)) = (qn : Int) := by have h8 := HN.out.2.2.2.2.2.2.1; have h9 := HN.out.2.2.2.1; rw [show (sz : Int) - (tn : Int) = (qn : Int) by omega]; exact wrap_i64_of (by omega) (by omega)
                have hrA := fun (x : World) => row_any tn new x (by have h8 := HN.out.2.2.2.2.2.2.1; have h9 := HN.out.2.2.2.1; omega)
                have hrB := fun (x : World) => row_any qn old x (by have h8 := HN.out.2.2.2.2.2.2.1; have h9 := HN.out.2.2.2.1; omega)
                have hrO := fun (x : World) => row_any sz old x (by have h9 := HN.out.2.2.2.1; omega)
                have hrN := fun (x : World) => row_any sz new x (by have h9 := HN.out.2.2.2.1; omega)
                simp only [← HI.out.1] at hrB hrO
                simp only [← HI.out.2] at hrA hrN
                simp only [← HLs.out.1] at hrO
                simp only [← HLs.out.2.1] at hrN
                obtain ⟨la, hla⟩ : ∃ l, l = List.replicate tn new := ⟨_, rfl⟩
                obtain ⟨lq, hlq⟩ : ∃ l, l = List.replicate qn old := ⟨_, rfl⟩
                simp only [← hla] at hrA
                simp only [← hlq] at hrB
                have bleq : la ++ lq = bl := by rw [HLs.out.2.2, ← hqn, ← hla, ← hlq]
                have cT := fun (x : World) (kk : Kept [] w20 x) => ((HSB.out.2.kept k3 (by simp)).kept ((K311.then (K14.then K16)).then (K20.then kk)) (by simp))
                have CT : Hid (∀ (x : World), Kept [] w20 x → x.cell? ⟨W.heap.size + 1, 0, none⟩ = some (.int .u8 oI) ∧ x.cell? ⟨W.heap.size + 1, 1, none⟩ = some (.int .u8 nI)) := fun x kk => ⟨(cT x kk).cell (j := 0) rfl, (cT x kk).cell (j := 1) rfl⟩
                have HB : Hid (w20.ownsRow wc.heap.size 5 1 (.slice (some ⟨gb, 0, none⟩) bl.length cb) bl.length (u8s bl) ∧ w20.ownsRow w14.heap.size 5 1 (.slice (some ⟨go, 0, none⟩) ol.length co) ol.length (u8s ol) ∧ w20.ownsRow w18.heap.size 5 1 (.slice (some ⟨gn, 0, none⟩) nl.length cn) nl.length (u8s nl)) := ⟨rb, ro, rn⟩
                have HP : Hid (placeV ⟨.slice x0m pvm.length z0m, pvm, .slice x1m mB.pair.length z1m, .slice x2m mB.log.length z2m, .slice x3m mB.m0.length z3m, .slice x4m mB.m1.length z4m⟩ p (.slice (some ⟨gb, 0, none⟩) bl.length cb) ∧ placeV ⟨.slice x0o pvo.length z0o, pvo, .slice x1o mO.pair.length z1o, .slice x2o mO.log.length z2o, .slice x3o mO.m0.length z3o, .slice x4o mO.m1.length z4o⟩ p (.slice (some ⟨go, 0, none⟩) ol.length co)) := ⟨hpb, hpo⟩
                have HVV : Hid (OwnIm w15 w14.heap.size ⟨.slice x0o pvo.length z0o, pvo, .slice x1o mO.pair.length z1o, .slice x2o mO.log.length z2o, .slice x3o mO.m0.length z3o, .slice x4o mO.m1.length z4o⟩ mO ∧ SeeIm w13 ⟨.slice x0m pvm.length z0m, pvm, .slice x1m mB.pair.length z1m, .slice x2m mB.log.length z2m, .slice x3m mB.m0.length z3m, .slice x4m mB.m1.length z4m⟩ mB ∧ Kept [] w13 w14) := ⟨hVW, hVM.see, k14⟩
                have HKK : Hid (Kept [] w3 w11 ∧ Kept [] w11 wc ∧ Kept [] wc w14 ∧ Kept [] w14 w16 ∧ Kept [] w15 w16 ∧ Kept [] w16 w20) := ⟨K311, K12, k13.then k14, K16, k16, K20⟩
                have HBB : Hid (Blk w16 w13.heap.size 43 [.slice x0m pvm.length z0m, .slice x1m mB.pair.length z1m, .slice x2m mB.log.length z2m, .slice x3m mB.m0.length z3m, .slice x4m mB.m1.length z4m] ∧ Blk w16 w15.heap.size 43 [.slice x0o pvo.length z0o, .slice x1o mO.pair.length z1o, .slice x2o mO.log.length z2o, .slice x3o mO.m0.length z3o, .slice x4o mO.m1.length z4o] ∧ w13.heap.size < w14.heap.size ∧ w14.heap.size ≤ w15.heap.size ∧ wc.heap.size ≤ w13.heap.size) := ⟨bM.kept K16 (by simp), bO, by omega, k15.size, k13.size⟩
                have HG : Hid (gb < w14.heap.size ∧ w14.heap.size ≤ go ∧ go < w15.heap.size) := ⟨blt, oge, by have h9 := own_lt (placeV_own hVW onm.2.1 HN.out.2.2.1 hpo) go rfl; exact h9⟩
                have HLL : Hid (ol.length = sz ∧ nl.length = sz ∧ bl.length = sz ∧ la ++ lq = bl ∧ la.length + lq.length = sz) := ⟨lo, ln, lb, bleq, by rw [← lb, ← bleq, List.length_append]⟩
                have PCD : Hid (PF wc (.pointer (some ⟨gc, 0, none⟩)) (d4.crash 0 [K]) FC) := pC
                clear rb ro rn hpb hpo hpn hVM hVW hVN sM sO bM bO lo ln lb blt oge hqn bleq hla hlq cT onm K311 K12 K14 K16 K18 K20 k13 k14 k15 k16 k17 k18 k19 k20 pC fC p4 i0 i1 i2 i3 i4 j0 j1 j2 j3 j4 cS hlm hlo s14 s16
                have kz : Kept [] w20 w20.drew := (Kept.refl [] w20).drew
                have tka : True := trivial
                have tkb : True := trivial
                have tkc : True := trivial
                have tkd : True := trivial
                have tke : True := trivial
                have tkf : True := trivial
                have tkg : True := trivial
                have tkh : True := trivial
                go_upto_region 33 with fail
                go_region_held3 (fun w' => w'.cell? ⟨W.heap.size + 1, 0, none⟩ = some (.int .u8 oI) ∧ w'.cell? ⟨W.heap.size + 1, 1, none⟩ = some (.int .u8 nI))
                  (first | (with_reducible exact CT.out _ kz) | fail)
                  (first
                    | (go_at_call 13; clear tka; refine (hrA _).mono ?_; rintro r wa ⟨va, rfl, oa, ka⟩; have sa := kz.size; replace kz := kz.then ka; obtain ⟨pa, ca, rfl⟩ := own_shape2 oa)
                    | (go_at_call 13; clear tkb; refine (hrB _).mono ?_; rintro r wb ⟨vb, rfl, ob, kb⟩; have oa' := own_mono (own_of_kept oa kb (by simp)) sa; replace kz := kz.then kb; have bob := Bs.ofOwn ob; have sb := kz.size; obtain ⟨pb, cb', rfl⟩ := own_shape2 ob)
                    | (clear tkc; refine step_append_bs (by rfl) (.tmp 138) (.tmp 144) 33 (by rfl) w20.heap.size 5 Try.underlying33 (by kernel_rfl) (.slice pa la.length ca) la.length (u8s la) (by rfl) oa' (.slice pb lq.length cb') lq (by rfl) bob (by have h8 := HLL.out.2.2.2.2; have h9 := HN.out.2.2.2.1; omega) sb ?_; intro vc wd oc gc' atc; have kz' : Kept [] w20 wd := kz.grown gc' (fun x hx => .inr (own_ge oa' x hx)); have bc0 : wd.ownsRow w20.heap.size 5 1 vc bl.length (u8s bl) := (by rw [← HLL.out.2.2.2.1, u8s_append, List.length_append]; exact oc); have bc : Bs wd vc bl := Bs.ofOwn bc0; replace kz := kz'; obtain ⟨pc, cc, rfl⟩ := own_shape2 oc)
                    | (go_at_call 20; clear tkd; refine (same_eq _ _ bl _ ((Bs.ofOwn HB.out.1).kept kz) bc).mono ?_; rintro r we ⟨rfl, rfl⟩)
                    | (go_at_call 13; clear tke; refine (hrO _).mono ?_; rintro r wf ⟨ve, rfl, oe, ke⟩; replace kz := kz.then ke; obtain ⟨pe, ce, rfl⟩ := own_shape2 oe)
                    | (go_at_call 20; clear tkf; refine (same_eq _ _ ol _ ((Bs.ofOwn HB.out.2.1).kept kz) (Bs.ofOwn oe)).mono ?_; rintro r wg ⟨rfl, rfl⟩)
                    | (go_at_call 13; clear tkg; refine (hrN _).mono ?_; rintro r wh ⟨vg, rfl, og, kg⟩; replace kz := kz.then kg; obtain ⟨pg, cg, rfl⟩ := own_shape2 og)
                    | (go_at_call 20; clear tkh; refine (same_eq _ _ nl _ ((Bs.ofOwn HB.out.2.2).kept kz) (Bs.ofOwn og)).mono ?_; rintro r wi ⟨rfl, rfl⟩)
                    | fail)
                have KZ : Hid (Kept [] w20 wi) := kz
                obtain ⟨eo, en, eb, -, -⟩ := HLL.out
                have hb0 := own_of_kept HB.out.1 kz (by simp)
                have ho0 := own_of_kept HB.out.2.1 kz (by simp)
                rw [eb] at hb0 ⊢
                rw [eo] at ho0 ⊢
                clear eo en kz kz' oa oa' ob bob oc bc0 bc oe og atc gc' ka kb ke kg sa sb hrA hrB hrO hrN wq y1 y2 y3 y4
                go_wp2
                go_loopw [20] (fun i wr => ∃ t : Nat, t ≤ sz ∧ i = .int .i64 t ∧ Hid (wr.ownsRow w14.heap.size 5 1 (.slice (some ⟨go, 0, none⟩) sz co) sz (u8s (bl.take t ++ ol.drop t)) ∧ Kept [go] wi wr)) (fun i _ => sz - (intOf i).toNat)
                case atStart => exact ⟨0, Nat.zero_le _, rfl, by simpa using ho0, Kept.refl _ _⟩
                case round =>
                  obtain ⟨t, ht, rfl, st⟩ := hrel
                  by_cases hlt : t < sz
                  · have ht' : (t : Int) < (sz : Int) := by omega
                    have ht0 : (0 : Int) ≤ (t : Int) := by omega
                    have wt : IntKind.i64.wrap ((t : Int) + 1) = (t : Int) + 1 := wrap_i64_of (by omega) (by have h9 := HN.out.2.2.2.1; omega)
                    have hlc : (bl.take t ++ ol.drop t).length = sz := by have h8 := HLL.out; simp; omega
                    have hbt : bl[t]? = some (bl[t]'(by omega)) := List.getElem?_eq_getElem (by omega)
                    have cb1 := st.out.2.cell (own_cell hb0 (j := t) (u := .int .u8 ((bl[t]'(by omega)).toNat : Int)) (by simp [u8s, List.getElem?_map, hbt])).1 (by have h9 := HG.out; simp; omega)
                    have hot : (bl.take t ++ ol.drop t)[t]? = some ((bl.take t ++ ol.drop t)[t]'(by omega)) := List.getElem?_eq_getElem (by omega)
                    obtain ⟨co1, co2⟩ := own_cell st.out.1 (j := t) (u := .int .u8 (((bl.take t ++ ol.drop t)[t]'(by omega)).toNat : Int)) (by simp only [u8s, List.getElem?_map, hot]; rfl)
                    obtain ⟨os, ks⟩ := set_own st.out.1 t (bl[t]'(by omega)) _ rfl
                    rw [lay_step (by omega) (by have h8 := HLL.out; omega)] at os
                    have ks2 := st.out.2.trans ks (fun x hx => .inl hx)
                    generalize (bl.take t ++ ol.drop t)[t]'(by omega) = oldv at co1
                    generalize bl[t]'(by omega) = newv at *
                    have FIN : Hid (World.ownsRow _ w14.heap.size 5 1 (.slice (some ⟨go, 0, none⟩) sz co) sz (u8s (bl.take (t + 1) ++ ol.drop (t + 1))) ∧ Kept [go] wi _) := ⟨os, ks2⟩
                    clear os ks ks2 hbt hot st hlc
                    go_wp2
                    go_roundw
                    case rel => exact ⟨t + 1, by omega, by go_num, FIN⟩
                    case measure => simp [intOf]; omega
                  · obtain rfl : t = sz := by omega
                    have ht' : ¬ (t : Int) < (t : Int) := by omega
                    have h8 := HLL.out
                    have of' := st.out.1
                    rw [List.take_of_length_le (by omega), List.drop_eq_nil_of_le (by omega), List.append_nil] at of'
                    have K15 : Kept [] w15 wi := (HKK.out.2.2.2.2.1.then HKK.out.2.2.2.2.2).then KZ.out
                    have hWi := HVV.out.1.kept0 K15
                    have onm : 1 ≤ mO.ps.length := by have h8 := HM.out.1; have h9 := HN.out.1; omega
                    have hpo := HP.out.2
                    rw [h8.1] at hpo
                    have hch := hWi.change onm HN.out.2.2.1 hpo (x := bl) (st.out.2.mono (by intro x hx; simpa [Value.ownBlock] using hx)) (by rw [h8.2.2.1]; exact of')
                    rw [HM.out.2.2] at hch
                    have hg := HG.out
                    have hb := HBB.out
                    have goge : ∀ x ∈ [go], w14.heap.size ≤ x := fun x hx => by simp at hx; omega
                    have K14r : Kept [] w14 wr := ((HKK.out.2.2.2.1.then HKK.out.2.2.2.2.2).then KZ.out).trans st.out.2 (fun x hx => .inr (goge x hx))
                    have K13r : Kept [] w13 wr := HVV.out.2.2.then K14r
                    have Kcr : Kept [] wc wr := HKK.out.2.2.1.then K14r
                    have KWr : Kept [] W wr := ((K2.out.then k3).then (HKK.out.1.then HKK.out.2.1)).then Kcr
                    have sM : SeeIm wr ⟨.slice x0m pvm.length z0m, pvm, .slice x1m mB.pair.length z1m, .slice x2m mB.log.length z2m, .slice x3m mB.m0.length z3m, .slice x4m mB.m1.length z4m⟩ mB := HVV.out.2.1.kept K13r
                    have sO := hch.see
                    have bM := HBB.out.1
                    obtain ⟨⟨i0, i1, i2, i3, i4⟩, -⟩ := (bM.kept (HKK.out.2.2.2.2.2.then KZ.out) (by simp)).kept st.out.2 (show w13.heap.size ∉ [go] by simp; omega) |>.five
                    obtain ⟨⟨j0, j1, j2, j3, j4⟩, -⟩ := (HBB.out.2.1.kept (HKK.out.2.2.2.2.2.then KZ.out) (by simp)).kept st.out.2 (show w15.heap.size ∉ [go] by simp; omega) |>.five
                    have hIc := fun (x : World) (kk : Kept [] wr x) => fImage _ (d4.crash 0 [K]) FC x ((PCD.out.kept Kcr (by simp)).kept kk (by simp))
                    simp only [HY.out.2.2.2] at hIc
                    have SM : Hid (SeeIm wr ⟨.slice x0m pvm.length z0m, pvm, .slice x1m mB.pair.length z1m, .slice x2m mB.log.length z2m, .slice x3m mB.m0.length z3m, .slice x4m mB.m1.length z4m⟩ mB ∧ SeeIm wr ⟨.slice x0o pvo.length z0o, pvo, .slice x1o mO.pair.length z1o, .slice x2o mO.log.length z2o, .slice x3o mO.m0.length z3o, .slice x4o mO.m1.length z4o⟩ mB) := ⟨sM, sO⟩
                    have KW : Hid (Kept [] W wr) := KWr
                    have kf : Kept [] wr wr.drew := (Kept.refl [] wr).drew
                    clear sM sO bM hch hWi hpo of' K15 K14r K13r Kcr KWr goge hg hb h8 onm st hb0 ho0
                    have tk1 : True := trivial
                    have tk2 : True := trivial
                    go_upto_region 39 with fail
                    go_region_held3 (fun w' => w'.cell? ⟨w13.heap.size, 0, none⟩ = some (.slice x0m pvm.length z0m) ∧ w'.cell? ⟨w13.heap.size, 1, none⟩ = some (.slice x1m mB.pair.length z1m) ∧ w'.cell? ⟨w13.heap.size, 2, none⟩ = some (.slice x2m mB.log.length z2m) ∧ w'.cell? ⟨w13.heap.size, 3, none⟩ = some (.slice x3m mB.m0.length z3m) ∧ w'.cell? ⟨w13.heap.size, 4, none⟩ = some (.slice x4m mB.m1.length z4m) ∧ w'.cell? ⟨w15.heap.size, 0, none⟩ = some (.slice x0o pvo.length z0o) ∧ w'.cell? ⟨w15.heap.size, 1, none⟩ = some (.slice x1o mO.pair.length z1o) ∧ w'.cell? ⟨w15.heap.size, 2, none⟩ = some (.slice x2o mO.log.length z2o) ∧ w'.cell? ⟨w15.heap.size, 3, none⟩ = some (.slice x3o mO.m0.length z3o) ∧ w'.cell? ⟨w15.heap.size, 4, none⟩ = some (.slice x4o mO.m1.length z4o))
                      (first | (with_reducible exact ⟨kf.cell i0 (by simp), kf.cell i1 (by simp), kf.cell i2 (by simp), kf.cell i3 (by simp), kf.cell i4 (by simp), kf.cell j0 (by simp), kf.cell j1 (by simp), kf.cell j2 (by simp), kf.cell j3 (by simp), kf.cell j4 (by simp)⟩) | fail)
                      (first
                        | (go_at_call 21; clear tk1; refine (sameImages_eq ⟨.slice x0m pvm.length z0m, pvm, .slice x1m mB.pair.length z1m, .slice x2m mB.log.length z2m, .slice x3m mB.m0.length z3m, .slice x4m mB.m1.length z4m⟩ ⟨.slice x0o pvo.length z0o, pvo, .slice x1o mO.pair.length z1o, .slice x2o mO.log.length z2o, .slice x3o mO.m0.length z3o, .slice x4o mO.m1.length z4o⟩ mB _ (by exact SM.out.1.kept kf) (by exact SM.out.2.kept kf)).mono ?_; rintro r wp ⟨rfl, kn⟩; replace kf := kf.then kn; clear kn)
                        | (go_at_call 19; refine (hIc _ kf).mono ?_; rintro r wq ⟨VQ, rfl, hVQ, kn⟩; replace kf := kf.then kn; clear kn)
                        | (go_at_call 21; clear tk2; refine (sameImages_eq VQ ⟨.slice x0m pvm.length z0m, pvm, .slice x1m mB.pair.length z1m, .slice x2m mB.log.length z2m, .slice x3m mB.m0.length z3m, .slice x4m mB.m1.length z4m⟩ mB _ (by exact hVQ.see) (by exact SM.out.1.kept kf)).mono ?_; rintro r wp2 ⟨rfl, kn⟩; replace kf := kf.then kn; clear kn)
                        | fail)
                    have FIN := KW.out.then kf
                    clear kf hIc i0 i1 i2 i3 i4 j0 j1 j2 j3 j4
                    go_wp2
                    go_ret
                    exact ⟨rfl, FIN⟩
      · exact absurd rfl h9
  · rw [hE] at hnw
    go_wp2_with fail
    refine hnw.mono ?_
    rintro r w4 ⟨u, rfl, ⟨h9, -⟩ | ⟨-, rfl, k4⟩⟩
    · exact absurd h9 (by decide)
    · go_wp2
      go_ret
      exact ⟨rfl, (K2.out.then k3).then k4⟩
end Go.Proofs.Ytmipmiaflompmaa

/-
  OWN WORK. THE STATEMENT, out of the walk.
-/
namespace Go.Proofs.Ytmipmiaflompmaa.diskTears
open Go.ChangeShapes Go.WideShapes Go.ChangeAt Go.RowKit
set_option linter.unusedVariables false
set_option maxRecDepth 100000 in
theorem contract (H : Type) (enc : TypeId × Value → H) (W : World) (base : Nat) (args : Array Value) (ds gs : List (DataW H)) (before : List MemPlace)
    (hval : ∀ (j : Nat) t v, Try.f3.params[j]? = some t → args[j]? = some v → Value.okWide Try.prog W .any base t v)
    (hW : DataW.Whole enc Try.prog Try.f3.params.toList Rows.diskTearsSpec.vars false W args.toList ds gs before) (hsz : (DataW.weightsEach Try.prog (Try.f3.params.toList ++ Rows.diskTearsSpec.plain.varTypes Try.prog) (ds ++ gs)).all (· ≤ reachBytes) = true) :
    Calls Try.prog 3 args W fun e W' => ∃ v, e = .returned v ∧ Rows.diskTearsSpec.post enc Try.prog Try.f3 false true false false W args v W' := by
  have hW' := hW
  obtain ⟨p, q, hA0, hV, rfl, hfz, hnd⟩ := hW
  have hA : DataW.TrodAll enc Try.prog W 0 (fun _ => true) true Try.f3.params.toList args.toList ds p := hA0
  rw [Try.params3] at hA hval hsz
  obtain ⟨v0, vs0, d0, ds0, p0, q0, hargs, rfl, rfl, h0, r0⟩ := trodAll_cons hA
  obtain ⟨v1, vs1, d1, ds1, p1, q1, rfl, rfl, rfl, h1, r1⟩ := trodAll_cons r0
  obtain ⟨rfl, rfl, rfl⟩ := trodAll_nil r1
  obtain rfl : args = #[v0, v1] := by cases args; simp_all
  obtain ⟨rfl, rfl⟩ := trodVars_none hV
  have hv0 : Value.okWide Try.prog W .any base 23 v0 := hval 0 23 v0 (by rfl) (by rfl)
  obtain ⟨cs0, rfl, sz0⟩ := okWide_struct (P := Try.prog) (t := 23) Try.underlying23 hv0
  clear hv0
  have lt0 : ∀ x ∈ p0, x.block < W.heap.size := by obtain ⟨m, hm⟩ := h0; exact DataW.trod_lt m _ _ _ hm
  obtain ⟨sa0, sb0, sc0, rfl⟩ := shape_open Try.underlying23 (sz0.trans (by kernel_rfl)) rfl rfl rfl (by kernel_rfl) (by kernel_rfl) (by kernel_rfl) (by kernel_rfl) (by kernel_rfl) (by kernel_rfl) h0
  have hv1 : Value.okWide Try.prog W .any base 25 v1 := hval 1 25 v1 (by rfl) (by rfl)
  obtain ⟨cs1, rfl, sz1⟩ := okWide_struct (P := Try.prog) (t := 25) Try.underlying25 hv1
  clear hv1
  have lt1 : ∀ x ∈ p1, x.block < W.heap.size := by obtain ⟨m, hm⟩ := h1; exact DataW.trod_lt m _ _ _ hm
  obtain ⟨old1, new1, pl1, kk1, rfl, wpl1, wkk1⟩ := twos_open Try.underlying25 (sz1.trans (by kernel_rfl)) rfl rfl rfl rfl (by kernel_rfl) (by kernel_rfl) (by kernel_rfl) (by kernel_rfl) (by kernel_rfl) (by kernel_rfl) (by kernel_rfl) (by kernel_rfl) h1
  clear hA0
  refine (diskTears_walk sa0 sb0 sc0 old1 new1 pl1 kk1 W wkk1).mono fun e W' ⟨he, kp⟩ => ?_
  subst he
  have bel := kp.below
  exact ⟨_, rfl, _, _, _, [], _, [], hW', trodAll_mk1 (shut_bool Try.underlying4 _), (trodAll_cons_mk (Below.trod laidOut (by kernel_rfl) (of_decide_eq_true (by kernel_rfl)) h0 bel lt0) (trodAll_cons_mk (Below.trod laidOut (by kernel_rfl) (of_decide_eq_true (by kernel_rfl)) h1 bel lt1) trodAll_mk0)), rfl, bel.frame _, fun h => by cases h⟩

set_option maxRecDepth 100000 in
theorem lifted (os : Os) (started : os.Started) (H : Type) (enc : TypeId × Value → H) :
    ReturnsInHanded {} Try.checked os 3 .any (Rows.diskTearsSpec.pre6 enc Try.prog Try.f3 Rows.diskTearsRow.domain false) (Rows.diskTearsSpec.post enc Try.prog Try.f3 false true false false) := by
  refine returnsInHanded_of_change_sized (C := Try.checked) own started (by kernel_rfl) Try.func3
    (ChangeSpec.witness6 (enc := enc) (C := Try.checked) false ⟨#[], #[.agg #[.int .i64 0, .int .i64 0, .int .i64 0], .agg #[.int .u8 0, .int .u8 0, .int .i64 0, .int .i64 0]], []⟩ 8 (by kernel_rfl) (by kernel_rfl) (by kernel_rfl) (by kernel_rfl)) ?_
  intro W base args ds gs before hval hW _ hsz _
  exact contract H enc W base args ds gs before hval hW hsz

theorem proved : Rows.DiskTearsSaid :=
  OpenClaim.holds_of_wide 3 Try.f3 rfl rfl rfl rfl rfl rfl rfl ⟨rfl, rfl, rfl, rfl, rfl⟩ rfl rfl rfl rfl rfl (by kernel_rfl) Try.func3 (by kernel_rfl)
    (of_decide_eq_true (by kernel_rfl)) (by unfold Func.isWrapper; first | (rw [if_pos (by decide +kernel)]; kernel_rfl) | (rw [if_neg (by decide +kernel)]; exact ⟨rfl, rfl⟩))
    (fun os started H enc _ => lifted os started H enc)
#print axioms proved
end Go.Proofs.Ytmipmiaflompmaa.diskTears

