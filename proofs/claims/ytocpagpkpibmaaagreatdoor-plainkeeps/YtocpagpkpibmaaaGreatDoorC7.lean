import Derived.Test.YtocpagpkpibmaaaGreatDoorC6
/-
  OWN WORK (by mkpnz.py). The law: PlainKeeps, for any State.
-/
namespace Go.Proofs.YtocpagpkpibmaaaGreatDoor
open Go.RowKit
set_option linter.unusedVariables false
set_option linter.unusedSimpArgs false

theorem src_three {P : Program} (w : World) (t e : TypeId) (ht : P.underlying t = some (.slice e)) (a b c : Int) : Src P 1 t (.slice (some ⟨w.heap.size, 0, none⟩) 3 3) 3 [.int .i64 a, .int .i64 b, .int .i64 c] (w.alloc (.cells #[.int .i64 a, .int .i64 b, .int .i64 c] e)) := by
  refine Src.ofSlice _ ht _ _ _ _ rfl (fun j u hj => ?_) (fun u hu => ?_)
  · rw [add_none rfl]
    have q := (Blk.new w e [.int .i64 a, .int .i64 b, .int .i64 c]).cell hj
    simpa using q
  · simp at hu
    rcases hu with rfl | rfl | rfl <;> rfl
theorem src_ent18 {P : Program} (w : World) (t e : TypeId) (ht : P.underlying t = some (.slice e)) (a b : Int) : Src P 2 t (.slice (some ⟨w.heap.size, 0, none⟩) 1 1) 1 [.int .i64 a, .int .u64 b] (w.alloc (.cells #[.int .i64 a, .int .u64 b] e)) := by
  refine Src.ofSlice _ ht _ _ _ _ rfl (fun j u hj => ?_) (fun u hu => ?_)
  · rw [add_none rfl]
    have q := (Blk.new w e [.int .i64 a, .int .u64 b]).cell hj
    simpa using q
  · simp at hu
    rcases hu with rfl | rfl <;> rfl
theorem src_two18 {P : Program} (w : World) (t e : TypeId) (ht : P.underlying t = some (.slice e)) (a b : Int) (d : Bool) : Src P 3 t (.slice (some ⟨w.heap.size, 0, none⟩) 2 2) 2 [.int .i64 a, .int .u64 b, .bool d, .int .i64 a, .int .u64 b, .bool d] (w.alloc (.cells #[.int .i64 a, .int .u64 b, .bool d, .int .i64 a, .int .u64 b, .bool d] e)) := by
  refine Src.ofSlice _ ht _ _ _ _ rfl (fun j u hj => ?_) (fun u hu => ?_)
  · rw [add_none rfl]
    have q := (Blk.new w e [.int .i64 a, .int .u64 b, .bool d, .int .i64 a, .int .u64 b, .bool d]).cell hj
    simpa using q
  · simp at hu
    rcases hu with rfl | rfl | rfl | rfl | rfl | rfl <;> rfl
theorem len_flatK {L : List (List Chg)} {l : List Chg} (h : l ∈ L) : l.length ≤ L.flatten.length := by
  induction L with
  | nil => cases h
  | cons x r ih =>
    rw [List.flatten_cons, List.length_append]
    rcases List.mem_cons.1 h with rfl | h
    · omega
    · have := ih h; omega
def kt4 (vx vd : Value) (na : Nat) (D : List (List Chg × Value)) : List (Value × (World → Prop)) := (vx, Wr 2 vx na) :: (vd, fun w => Row w 0 1 vd D.length (D.map Prod.snd)) :: dth D
theorem mem_dth {D : List (List Chg × Value)} {q : List Chg × Value} (h : q ∈ D) : (q.2, Wr 3 q.2 q.1.length) ∈ dth D := List.mem_map.2 ⟨q, h, rfl⟩
theorem Rst.up {vd : Value} {D : List (List Chg × Value)} {n k : Nat} {w : World} (h : Rst vd D n w) (hk : n ≤ k) : Rst vd D k w := by
  obtain ⟨cs, h1, h2⟩ := h
  exact ⟨cs, h1, fun j q hj => h2 j q (by omega)⟩
theorem dth_drop {D : List (List Chg × Value)} {k : Nat} {q : List Chg × Value} (h : D[k]? = some q) : dth (D.drop k) = (q.2, Wr 3 q.2 q.1.length) :: dth (D.drop (k + 1)) := by
  obtain ⟨hk, rfl⟩ := List.getElem?_eq_some_iff.1 h
  rw [List.drop_eq_getElem_cons hk]
  rfl
theorem Kq.six {w0 wr : World} {Z : List Nat} {vx vd : Value} {na : Nat} {D : List (List Chg × Value)} (h : Kq w0 Z (kt4 vx vd na D) wr) : Kq w0 Z ((vd, Rst vd D 0) :: dth (D.drop 0)) wr := by
  have h1 : Kq w0 Z ((vd, fun w => Row w 0 1 vd D.length (D.map Prod.snd)) :: dth D) wr := Kq.tail (x := (vx, Wr 2 vx na)) h ((Kept.refl [] wr).mono (by simp))
  have hr : Row wr 0 1 vd D.length (D.map Prod.snd) := h1.own.holds _ (List.mem_cons_self ..)
  rw [List.drop_zero]
  exact h1.head ((Kept.refl [] wr).mono (by simp)) (Rst.of hr) (Rst.stays _ _ _)
theorem Kq.cellD {w0 wr : World} {Z : List Nat} {vx : Value} {pd : Option Addr} {nd cd na : Nat} {D : List (List Chg × Value)} {k : Nat} {q : List Chg × Value} (h : Kq w0 Z (kt4 vx (.slice pd nd cd) na D) wr) (hD : D.length = nd) (hq : D[k]? = some q) : ∃ g, pd = some ⟨g, 0, none⟩ ∧ wr.cell? ⟨g, k, none⟩ = some q.2 := by
  have hr : Row wr 0 1 (.slice pd nd cd) D.length (D.map Prod.snd) := h.own.holds (.slice pd nd cd, fun w => Row w 0 1 (.slice pd nd cd) D.length (D.map Prod.snd)) (by simp [kt4])
  obtain ⟨g, hp, y, -⟩ := ((Rst.of hr).up (Nat.zero_le k)).at hD hq
  exact ⟨g, hp, y⟩
theorem Kq.shapeD {w0 wr : World} {Z : List Nat} {L : List (Value × (World → Prop))} {q : Value} {n : Nat} (h : Kq w0 Z L wr) (hm : (q, Wr 3 q n) ∈ L) : ∃ p c, q = .slice p n c ∧ n ≤ c ∧ c ≤ maxLen := Wr.shape (h.own.holds _ hm)
theorem H18.away {Ks : List Nat} {Vr : World → Prop} {Pn : World → Nat → List Nat → Cf → St → Prop} (O : PnOps Ks Vr Pn) {w wr w' : World} {g : Nat} {c : Cf} {k : Nat} {S : St} {v : Value} {l : List Int} {F Z : List Nat} (h : H18 Ks Vr Pn w wr g c k S v l F) (kk : Kept Z wr w') (hZ : ∀ x ∈ Z, (x ∉ F ∧ x ∉ Ks) ∧ w.heap.size ≤ x ∧ v.ownBlock ≠ some x) : H18 Ks Vr Pn w w' g c k S v l F :=
  ⟨⟨O.kept h.b.p kk (fun x hx hm => (hZ x hm).1.1 hx), O.vkept h.b.v kk (fun x hx hm => (hZ x hm).1.2 hx), h.b.kp.trans kk (fun x hx => .inr (hZ x hx).2.1), h.b.lo, h.b.sz⟩, h.n.kept kk (fun x hx hm => (hZ x hm).2.2 hx), h.ap⟩
variable {Ks : List Nat} {Vr : World → Prop} {Pn : World → Nat → List Nat → Cf → St → Prop} (O : PnOps Ks Vr Pn) (E : PnTel Vr Pn) (FO : PnFold)
include O E FO
set_option maxRecDepth 20000 in
set_option maxHeartbeats 12800000 in
theorem plainKeeps_walk (c : Cf) (v : Value) (ss : List OpR) (w : World) (hv : Vr w) (hS : Ops w v ss) (hL : ss.length ≤ 3600000000000) : Calls Tryz.prog 4 #[.agg #[.int .i64 c.pages, .int .i64 c.slots, .int .i64 c.log, .int .i64 c.frames, .int .i64 c.table, .int .i64 c.keys], v] w fun e w' => e = .returned (.bool true) ∧ Kept [] w w' := by
  obtain ⟨ps, cs, hvs, hml⟩ := hS.shape
  subst hvs
  obtain ⟨n, hn⟩ : ∃ n, n = ss.length := ⟨_, rfl⟩
  have HS := @hideH _ hS
  have HN := @hideH _ (show n = ss.length ∧ n ≤ 3600000000000 from ⟨hn, by omega⟩)
  rw [← hn]
  have HV := @hideH _ hv
  clear hS hml hn hL hv
  obtain ⟨w1, hw1⟩ : ∃ wx, wx = w.alloc (.cells #[.int .i64 c.pages, .int .i64 c.slots, .int .i64 c.log, .int .i64 c.frames, .int .i64 c.table, .int .i64 c.keys] 25) := ⟨_, rfl⟩
  have k1 : Kept [] w w1 := by rw [hw1]; exact (Kept.refl [] w).alloc _
  have B : Blk w1 w.heap.size 25 [.int .i64 c.pages, .int .i64 c.slots, .int .i64 c.log, .int .i64 c.frames, .int .i64 c.table, .int .i64 c.keys] := by rw [hw1]; exact Blk.new w _ _
  have c0 := B.cell (j := 0) rfl
  have c1 := B.cell (j := 1) rfl
  have c2 := B.cell (j := 2) rfl
  have c3 := B.cell (j := 3) rfl
  have c4 := B.cell (j := 4) rfl
  have c5 := B.cell (j := 5) rfl
  have HK1 := @hideH _ k1
  clear B k1
  go_enter Tryz.func4, Tryz.ntmps4
  go_upto_region 1 with fail
  rw [← hw1]
  clear hw1
  go_wp2_with fail
  refine (may_any c _).mono ?_
  rintro e w2 ⟨rfl, k2⟩
  clear c0 c1 c2 c3 c4 c5
  obtain ⟨d, hd⟩ : ∃ d, d = mayF c := ⟨_, rfl⟩
  rw [← hd]
  have HM := @hideH _ (show mayC d by rw [hd]; exact mayF_may c)
  clear hd
  have HK2 := @hideH _ (HK1.out.then k2)
  clear k2
  have HQ := @hideH _ (played_any O d _ ss _ (O.vkept HV.out HK2.out (by simp)) (HS.out.kept HK2.out) (by have := HN.out; omega) HM.out)
  rw [← HN.out.1] at HQ
  go_wp2_with fail
  refine HQ.out.mono ?_
  clear HQ
  rintro e w4 ⟨g, rfl, F, p4⟩
  obtain ⟨S, hS⟩ : ∃ S, S = playS d ⟨[], [], 0⟩ ss := ⟨_, rfl⟩
  rw [← hS] at p4
  clear hS
  have HB4 := @hideH _ (show B18 Ks Vr Pn w w4 g d n F S from ⟨p4.p, p4.v, HK2.out.then p4.kp, fun x hx => Nat.le_trans HK2.out.size (p4.lo x hx), p4.sz⟩)
  clear p4 HS HK1 HK2 HV
  go_wp2_with fail
  refine (alive_any O _ HB4.out.v).mono ?_
  rintro e w5 ⟨rfl, k5⟩
  have HB5 := @hideH _ (HB4.out.then O k5)
  clear HB4 k5
  go_wp2_with fail
  refine (O.ids _ HB5.out.v HB5.out.p).mono ?_
  rintro e w6 ⟨vi, rfl, ii, k6⟩
  obtain ⟨l, hl⟩ : ∃ l, l = idsS S := ⟨_, rfl⟩
  rw [← hl] at ii
  obtain ⟨pi, ci, hvi, -⟩ := ii.shape
  subst hvi
  obtain ⟨m, hm⟩ : ∃ m, m = l.length := ⟨_, rfl⟩
  rw [← hm] at ii ⊢
  have HI6 := @hideH _ ii
  have HB6 := @hideH _ (HB5.out.then O k6)
  have HIF := @hideH _ (show ∀ x, (Value.slice pi m ci).ownBlock = some x → x ∉ F ∧ x ∉ Ks from fun x hx => ⟨fun hF => by
    have := O.lt HB5.out.p x hF
    have := (ii.lt hx).1
    omega, fun hK => by
    have := O.vlt HB5.out.v x hK
    have := (ii.lt hx).1
    omega⟩)
  have HIW := @hideH _ (show ∀ x, (Value.slice pi m ci).ownBlock = some x → w.heap.size ≤ x from fun x hx => Nat.le_trans HB5.out.kp.size (ii.lt hx).1)
  have HM1 := @hideH _ (show m = l.length ∧ l = idsS S ∧ m ≤ 8 ∧ OkS d S from ⟨hm, hl, by rw [hm, hl, idsS_length (O.ok HB5.out.p)]; exact (O.ok HB5.out.p).lenN, O.ok HB5.out.p⟩)
  clear hm HB5 k6 ii
  have HQ := @hideH _ (O.ids _ HB6.out.v HB6.out.p)
  rw [← hl] at HQ
  clear hl
  go_wp2_with fail
  refine HQ.out.mono ?_
  clear HQ
  rintro e w7 ⟨vj, rfl, jj, k7⟩
  obtain ⟨pj, cj, hvj, -⟩ := jj.shape
  subst hvj
  rw [← HM1.out.1] at jj ⊢
  have HI7 := @hideH _ (HI6.out.kept k7 (by simp))
  have HAP := @hideH _ (show ∀ x, (Value.slice pi m ci).ownBlock = some x → (Value.slice pj m cj).ownBlock ≠ some x from fun x hx e => by
    have := (HI6.out.lt hx).2
    have := (jj.lt e).1
    omega)
  have HA7 := @hideH _ (show H18 Ks Vr Pn w w7 g d n S (.slice pj m cj) l F from ⟨HB6.out.then O k7, jj.mono HB6.out.kp.size, fun x hx hF => by
    have := O.lt HB6.out.p x hF
    have := (jj.lt hx).1
    omega⟩)
  clear HB6 HI6 k7 jj
  go_wp2_with fail
  refine (numbers_eq _ _ l _ _ _ HI7.out HA7.out.n).mono ?_
  rintro e w8 ⟨rfl, k8⟩
  have HI8 := @hideH _ (Wr.of (HI7.out.kept k8 (by simp)))
  have HA8 := @hideH _ (HA7.out.then O k8)
  clear HA7 HI7 k8
  rw [← HM1.out.1] at HI8
  go_wp2
  go_loopw [8] (fun vi wr => ∃ k : Nat, k ≤ m ∧ vi = .int .i64 k ∧ Hid (Wr 1 (.slice pi m ci) m wr ∧ H18 Ks Vr Pn w wr g d n S (.slice pj m cj) l F)) (fun vi _ => m - (intOf vi).toNat)
  case atStart => exact ⟨0, Nat.zero_le _, rfl, HI8.out, HA8.out⟩
  case round =>
    clear HI8 HA8
    obtain ⟨k, hk, rfl, hh⟩ := hrel
    have HH := @hideH _ hh.out
    clear hh
    by_cases hkl : k < m
    · have hkl' : (k : Int) < (m : Int) := by omega
      have hk0 : (0 : Int) ≤ (k : Int) := by omega
      have wk : IntKind.i64.wrap ((k : Int) + 1) = (k : Int) + 1 := wrap_i64_of (by omega) (by have := HM1.out.2.2.1; omega)
      obtain ⟨gi, hp, hpl⟩ := HH.out.1.place (by omega)
      subst hp
      obtain ⟨⟨u, y0⟩, y1⟩ := hpl k (by omega)
      obtain ⟨wn, hwn⟩ : ∃ wx, wx = wr.setCell ⟨gi, k, none⟩ (.int .i64 (-1)) := ⟨_, rfl⟩
      have hs := HH.out.1.set k (by omega) (.int .i64 (-1)) rfl
      rw [← hwn] at hs
      have HS2 := @hideH _ (And.intro hs.1 (show H18 Ks Vr Pn w wn g d n S (.slice pj m cj) l F from ⟨⟨O.kept HH.out.2.b.p hs.2 (fun x hx hm => by simp at hm; subst hm; exact (HIF.out x rfl).1 hx), O.vkept HH.out.2.b.v hs.2 (fun x hx hm => by simp at hm; subst hm; exact (HIF.out x rfl).2 hx), HH.out.2.b.kp.trans hs.2 (fun x hx => by simp at hx; subst hx; exact .inr (HIW.out x rfl)), HH.out.2.b.lo, HH.out.2.b.sz⟩, HH.out.2.n.kept hs.2 (fun x hx hm => by simp at hm; subst hm; exact HAP.out x rfl hx), HH.out.2.ap⟩))
      clear hs hpl
      go_wp2
      rw [← hwn]
      clear hwn y0 y1
      go_roundw
      case rel => exact ⟨k + 1, by omega, by go_num, HS2.out⟩
      case measure => simp [intOf]; omega
    have hkl' : ¬ (k : Int) < (m : Int) := by omega
    have HZ := @hideH _ (show ∀ x ∈ (Value.slice pi m ci).ownBlock.toList, (x ∉ F ∧ x ∉ Ks) ∧ w.heap.size ≤ x ∧ (Value.slice pj m cj).ownBlock ≠ some x from fun x hx => ⟨HIF.out x (own_mem.1 hx), HIW.out x (own_mem.1 hx), HAP.out x (own_mem.1 hx)⟩)
    clear HIF HIW HAP hkl hk
    obtain ⟨cs1, hr1⟩ := HH.out.1
    have hsrc := src_three (P := Tryz.prog) wr 31 3 Tryz.underlying31 (-1) (-1) (-1)
    have hrow := hr1.kept ((Kept.refl [] wr).alloc (.cells #[.int .i64 (-1), .int .i64 (-1), .int .i64 (-1)] 3)) (by simp)
    clear hr1

    obtain ⟨infI, hin1, hin2, hin3, hin4⟩ := info_parts3 (show (Tryz.prog.info? 3).map (fun i => (i.zero, i.size, i.bytes)) = some (some (.int .i64 0), 1, 8) by kernel_rfl)
    have HII := @hideH _ (And.intro hin1 (And.intro hin2 (And.intro hin3 hin4)))
    clear hin1 hin2 hin3 hin4
    go_wp2_with (at_builtin; refine wpList_append_row2 rfl (.tmp 51) (.tmp 52) 31 rfl 0 3 infI (.int .i64 0) 1 8 Tryz.underlying31 HII.out.1 HII.out.2.1 HII.out.2.2.1 HII.out.2.2.2 rfl _ _ _ (by rfl) hrow _ 3 _ (by rfl) hsrc (by have e1 := HM1.out.2.2.1; omega) (by have e1 := HM1.out.2.2.1; unfold maxLen; omega) (by have e1 := HM1.out.2.2.1; omega) (Nat.zero_le _) ?_; intro v' w9 r9 k9 o9; obtain ⟨p9, c9, hv', -⟩ := Row.shape r9; subst hv'; have HA9 := @hideH _ ((HH.out.2.then O ((Kept.refl [] wr).alloc _)).away O k9 HZ.out); clear r9 k9 o9 hrow hsrc HH HZ)
    go_loopw [9] (fun vi wr => ∃ k : Nat, k ≤ m ∧ vi = .int .i64 k ∧ Hid (∃ F, H18 Ks Vr Pn w wr g d n (abosS S (l.take k)) (.slice pj m cj) l F)) (fun vi _ => m - (intOf vi).toNat)
    case atStart => exact ⟨0, Nat.zero_le _, rfl, F, HA9.out⟩
    case round =>
      clear HA9
      obtain ⟨k, hk, rfl, hh⟩ := hrel
      obtain ⟨F, A⟩ := hh.out
      clear hh
      have HAA := @hideH _ A
      clear A
      by_cases hkl : k < m
      · have hkl' : (k : Int) < (m : Int) := by omega
        have hk0 : (0 : Int) ≤ (k : Int) := by omega
        have wk : IntKind.i64.wrap ((k : Int) + 1) = (k : Int) + 1 := wrap_i64_of (by omega) (by have := HM1.out.2.2.1; omega)
        obtain ⟨x, hx⟩ : ∃ x, l[k]? = some x := ⟨_, List.getElem?_eq_getElem (by have := HM1.out.1; omega)⟩
        obtain ⟨gi, hpi, -, -, y0, -⟩ := HAA.out.n.at hx
        subst hpi
        have HXR := @hideH _ (ids_range (S := S) (i := k) (x := x) (by rw [← HM1.out.2.1]; exact hx))
        have hx1 : ¬ x < 1 := by have := HXR.out; omega
        have HNX := @hideH _ (abos_take S hx)
        have HE0 := @hideH _ (show endE (abosS S (l.take k)) x = 0 by have q := abos_next HM1.out.2.2.2 (i := k) (x := x) (by rw [← HM1.out.2.1]; exact hx); rw [← HM1.out.2.1] at q; exact q)
        have HQ := @hideH _ (O.abort x wr HAA.out.b.v HAA.out.b.p (HAA.out.b.small HN.out.2) (by have := HXR.out; unfold I64; omega))
        rw [HE0.out, ← HNX.out] at HQ
        have HSZ := @hideH _ (show cnt (abosS S (l.take (k + 1))) ≤ n from Nat.le_trans (by rw [HNX.out]; exact abo_cnt _ _) HAA.out.b.sz)
        clear hx HNX HE0
        go_wp2_with fail
        refine HQ.out.mono ?_
        clear HQ
        rintro e wa ⟨F6, rfl, p6, f6, k6⟩
        have HAY := @hideH _ (HAA.out.go O p6 f6 k6 HSZ.out)
        clear p6 f6 k6 HAA y0
        go_wp2_with fail
        refine (num_any _ _).mono ?_
        rintro e wb ⟨rfl, hwb⟩
        rw [hwb]
        clear hwb
        go_wp2
        go_roundw
        case rel => exact ⟨k + 1, by omega, by go_num, _, HAY.out⟩
        case measure => simp [intOf]; omega
      have hkl' : ¬ (k : Int) < (m : Int) := by omega
      have HTK := @hideH _ (show l.take k = l from List.take_of_length_le (by have := HM1.out.1; omega))
      obtain ⟨S', hS'⟩ : ∃ S', S' = abosS S l := ⟨_, rfl⟩
      have HB7 := @hideH _ (show B18 Ks Vr Pn w wr g d n F S' by have q := HAA.out.b; rw [HTK.out, ← hS'] at q; exact q)
      have HO := @hideH _ (show S'.opn = [] by rw [hS', HM1.out.2.1]; exact abos_all HM1.out.2.2.2)
      have HSM := @hideH _ (HB7.out.small HN.out.2)
      have HKC := @hideH _ (O.ok HB7.out.p)
      clear hS' HAA HTK hkl hk
      have HEE := @hideH _ (show entE S' = 0 ∧ entL S' = foldL S'.done from ⟨by unfold entE; rw [if_pos HO.out], by unfold entL; rw [if_pos HO.out]⟩)
      obtain ⟨la, hla⟩ : ∃ la, la = foldL S'.done := ⟨_, rfl⟩
      have HLA := @hideH _ (show la.length ≤ 3600000000000 ∧ la = foldL S'.done from ⟨by rw [hla]; have q := foldL_len S'.done []; have q2 := cnt_flat HSM.out; unfold foldL; simp only [List.length_nil] at q; omega, hla⟩)
      clear hla
      have HQ := @hideH _ (E.entries _ HB7.out.v HB7.out.p HSM.out)
      rw [HEE.out.1, HEE.out.2, ← HLA.out.2] at HQ
      go_wp2_with fail
      refine HQ.out.mono ?_
      clear HQ
      rintro e w10 ⟨va, rfl, ha, k10⟩
      have HQ := @hideH _ (E.entries _ (HB7.out.then O k10).v (HB7.out.then O k10).p HSM.out)
      rw [HEE.out.1, HEE.out.2, ← HLA.out.2] at HQ
      have H10 := @hideH _ (And.intro ha k10)
      clear ha k10
      go_wp2_with fail
      refine HQ.out.mono ?_
      clear HQ
      rintro e w11 ⟨vb, rfl, hb, k11⟩
      have H11 := @hideH _ (And.intro hb k11)
      have HB11 := @hideH _ ((HB7.out.then O H10.out.2).then O k11)
      clear hb k11
      go_wp2_with fail
      refine (E.done _ HB11.out.v HB11.out.p HSM.out).mono ?_
      rintro e w12 ⟨vd, D, rfl, hd, hD, k12⟩
      have H12 := @hideH _ (And.intro hd (And.intro hD k12))
      have HB12 := @hideH _ (HB11.out.then O k12)
      clear hd hD k12 HB11
      go_wp2_with fail
      refine (E.done _ HB12.out.v HB12.out.p HSM.out).mono ?_
      rintro e w13 ⟨vf, G, rfl, hf, hG, k13⟩
      have H13 := @hideH _ (And.intro hf (And.intro hG k13))
      clear hf hG k13 HB12
      have HQ := @hideH _ (FO.fold vd D _ (H12.out.1.ll.then H13.out.2.2) (by rw [H12.out.2.1]; exact cnt_flat HSM.out) (fun q hq x hx => okC.in64 HM.out (HKC.out.keyD q.1 (by rw [← H12.out.2.1]; exact List.mem_map_of_mem hq) x hx)))
      rw [H12.out.2.1, ← HLA.out.2] at HQ
      go_wp2_with fail
      refine HQ.out.mono ?_
      clear HQ
      rintro e w14 ⟨vx, rfl, hx, k14⟩
      have H14 := @hideH _ (And.intro hx k14)
      clear hx k14
      obtain ⟨pa, ca, hva, -⟩ := H10.out.1.shape
      obtain ⟨pb, cb, hvb, -⟩ := H11.out.1.shape
      obtain ⟨px, cx, hvx, -⟩ := H14.out.1.shape
      obtain ⟨pd, cd, hvd, -⟩ := H12.out.1.row.shape
      obtain ⟨pf, cf, hvf, -⟩ := H13.out.1.row.shape
      subst hva hvb hvx hvd hvf
      have HDG := @hideH _ (show G.length = D.length by have e1 := congrArg List.length H12.out.2.1; have e2 := congrArg List.length H13.out.2.1; rw [List.length_map] at e1 e2; omega)
      rw [HDG.out]
      go_wp2_with fail
      refine (entries_eq _ _ la _ _ _ (((H10.out.1.kept H11.out.2 (by simp)).kept H12.out.2.2 (by simp)).kept H13.out.2.2 (by simp) |>.kept H14.out.2 (by simp)) (((H11.out.1.kept H12.out.2.2 (by simp)).kept H13.out.2.2 (by simp)).kept H14.out.2 (by simp))).mono ?_
      rintro e w16 ⟨rfl, k16⟩
      have HK16 := @hideH _ k16
      clear k16
      go_wp2_with fail
      refine (entries_eq _ _ la _ _ _ ((((H10.out.1.kept H11.out.2 (by simp)).kept H12.out.2.2 (by simp)).kept H13.out.2.2 (by simp) |>.kept H14.out.2 (by simp)).kept HK16.out (by simp)) (H14.out.1.kept HK16.out (by simp))).mono ?_
      rintro e w15 ⟨rfl, k15⟩
      have KL := keeps_lie O HB7.out H10.out.1 H10.out.2 H11.out.1 H11.out.2 H12.out.1 H12.out.2.2 H13.out.1 H13.out.2.2 H14.out.1 H14.out.2 (HK16.out.then k15)
      have HG := @hideH _ H13.out.2.1
      have HDD := @hideH _ H12.out.2.1
      rw [HDG.out] at KL
      clear k15 HK16 H10 H11 H12 H13 H14 HB7
      obtain ⟨na, hna⟩ : ∃ na, na = la.length := ⟨_, rfl⟩
      obtain ⟨nd, hnd⟩ : ∃ nd, nd = D.length := ⟨_, rfl⟩
      have HNA := @hideH _ (show na = la.length ∧ nd = D.length ∧ na ≤ 3600000000000 from ⟨hna, hnd, by rw [hna]; exact HLA.out.1⟩)
      rw [← hna, ← hnd] at KL ⊢
      obtain ⟨Z, hZ⟩ : ∃ Z, Z = blks (kth (.slice pa na ca) (.slice px na cx) (.slice pd nd cd) na D) := ⟨_, rfl⟩
      have HKQ := @hideH _ (show Kq w15 Z (kth (.slice pa na ca) (.slice px na cx) (.slice pd nd cd) na D) w15 from ⟨KL.1, Kept.refl _ _, fun x hx y hy => by rw [hZ]; exact mem_blks.2 ⟨x, hx, hy⟩⟩)
      rw [← hZ] at KL
      have HAW := @hideH _ KL.2
      clear KL hZ hna hnd
      have hnn : ((nd : Int) != (nd : Int)) = false := by simp
      go_wp2
      go_loopw [17] (fun vi wr => ∃ k : Nat, k ≤ na ∧ vi = .int .i64 k ∧ Hid (Kq w15 Z (kth (.slice pa na ca) (.slice px na cx) (.slice pd nd cd) na D) wr)) (fun vi _ => na - (intOf vi).toNat)
      case atStart => exact ⟨0, Nat.zero_le _, rfl, HKQ.out⟩
      case round =>
        clear HKQ
        obtain ⟨k, hk, rfl, hh⟩ := hrel
        have HH := @hideH _ hh.out
        clear hh
        by_cases hkl : k < na
        · have hkl' : (k : Int) < (na : Int) := by omega
          have hk0 : (0 : Int) ≤ (k : Int) := by omega
          have wk : IntKind.i64.wrap ((k : Int) + 1) = (k : Int) + 1 := wrap_i64_of (by omega) (by have := HNA.out.2.2; omega)
          have hW := HH.out.own.holds (.slice pa na ca, Wr 2 (.slice pa na ca) na) (by simp [kth])
          obtain ⟨ga, a0, a1, hpa, ⟨c0, c1⟩, f0, f1⟩ := hW.place2 hkl
          subst hpa
          have hs := hW.set2 hkl (-1) 0
          obtain ⟨wn, hwn⟩ : ∃ wx, wx = (wr.setCell ⟨ga, k * 2, none⟩ (.int .i64 (-1))).setCell ⟨ga, k * 2 + 1, none⟩ (.int .u64 0) := ⟨_, rfl⟩
          rw [← hwn] at hs
          have H1 := @hideH _ (HH.out.touch (x := (.slice (some ⟨ga, 0, none⟩) na ca, Wr 2 (.slice (some ⟨ga, 0, none⟩) na ca) na)) (by simp [kth]) hs.2 hs.1)
          clear hs hW HH
          go_upto_region 31 with fail
          rw [← hwn]
          clear hwn c0 c1 f0 f1
          have hW := H1.out.own.holds (.slice px na cx, Wr 2 (.slice px na cx) na) (by simp [kth])
          obtain ⟨gx, b0, b1, hpx, ⟨c0, c1⟩, f0, f1⟩ := hW.place2 hkl
          subst hpx
          have hs := hW.set2 hkl (-2) 0
          obtain ⟨wm, hwm⟩ : ∃ wx, wx = (wn.setCell ⟨gx, k * 2, none⟩ (.int .i64 (-2))).setCell ⟨gx, k * 2 + 1, none⟩ (.int .u64 0) := ⟨_, rfl⟩
          rw [← hwm] at hs
          have H2 := @hideH _ (H1.out.touch (x := (.slice (some ⟨gx, 0, none⟩) na cx, Wr 2 (.slice (some ⟨gx, 0, none⟩) na cx) na)) (by simp [kth]) hs.2 hs.1)
          clear hs hW H1
          go_wp2
          rw [← hwm]
          clear hwm c0 c1 f0 f1
          go_roundw
          case rel => exact ⟨k + 1, by omega, by go_num, H2.out⟩
          case measure => simp [intOf]; omega
        have hkl' : ¬ (k : Int) < (na : Int) := by omega
        clear hkl hk
        obtain ⟨csa, hra⟩ := HH.out.own.holds (.slice pa na ca, Wr 2 (.slice pa na ca) na) (by simp [kth])
        have hsrc := src_ent18 (P := Tryz.prog) wr 36 47 Tryz.underlying36 (-1) 0
        have hrow := hra.kept ((Kept.refl [] wr).alloc (.cells #[.int .i64 (-1), .int .u64 0] 47)) (by simp)
        clear hra
        obtain ⟨infN, hin1, hin2, hin3, hin4⟩ := info_parts3 (show (Tryz.prog.info? 47).map (fun i => (i.zero, i.size, i.bytes)) = some (some (.agg #[.int .i64 0, .int .u64 0]), 2, 16) by kernel_rfl)
        have HIN := @hideH _ (And.intro hin1 (And.intro hin2 (And.intro hin3 hin4)))
        clear hin1 hin2 hin3 hin4
        go_wp2_with (at_builtin; refine wpList_append_row2 rfl (.tmp 120) (.tmp 122) 36 rfl 0 47 infN (.agg #[.int .i64 0, .int .u64 0]) 2 16 Tryz.underlying36 HIN.out.1 HIN.out.2.1 HIN.out.2.2.1 HIN.out.2.2.2 rfl _ _ _ (by rfl) hrow _ 1 _ (by rfl) hsrc (by have e1 := HNA.out.2.2; omega) (by have e1 := HNA.out.2.2; unfold maxLen; omega) (by have e1 := HNA.out.2.2; omega) (Nat.zero_le _) ?_; intro v' w17 r17 k17 o17; obtain ⟨p17, c17, hv', -⟩ := Row.shape r17; subst hv'; have H17 := @hideH _ (Kq.tail (x := (.slice pa na ca, Wr 2 (.slice pa na ca) na)) (L := kt4 (.slice px na cx) (.slice pd nd cd) na D) (HH.out.then ((Kept.refl [] wr).alloc _)) k17); clear r17 k17 o17 hrow hsrc HH)
        have HNB := @hideH _ (show nd ≤ maxLen by obtain ⟨p', c', e, e2, e3⟩ := Row.shape (H17.out.own.holds (.slice pd nd cd, fun w => Row w 0 1 (.slice pd nd cd) D.length (D.map Prod.snd)) (by simp [kt4])); have := HNA.out.2.1; omega)
        go_loopw [18] (fun vi wr => ∃ k : Nat, k ≤ nd ∧ vi = .int .i64 k ∧ Hid (Kq w15 Z (kt4 (.slice px na cx) (.slice pd nd cd) na D) wr)) (fun vi _ => nd - (intOf vi).toNat)
        case atStart => exact ⟨0, Nat.zero_le _, rfl, H17.out⟩
        case round =>
          clear H17
          obtain ⟨k, hk, rfl, hh⟩ := hrel
          have HH := @hideH _ hh.out
          clear hh
          by_cases hkl : k < nd
          · have hkl' : (k : Int) < (nd : Int) := by omega
            have hk0 : (0 : Int) ≤ (k : Int) := by omega
            have wk : IntKind.i64.wrap ((k : Int) + 1) = (k : Int) + 1 := wrap_i64_of (by omega) (by have e := HNB.out; unfold maxLen at e; omega)
            obtain ⟨wo, rfl⟩ : ∃ wo, wo = wr := ⟨_, rfl⟩
            obtain ⟨q, hq⟩ : ∃ q, D[k]? = some q := ⟨_, List.getElem?_eq_getElem (by have := HNA.out.2.1; omega)⟩
            obtain ⟨gd, hpd, y0⟩ := HH.out.cellD HNA.out.2.1.symm hq
            subst hpd
            obtain ⟨pq, cq, hq2, hb1, hb2⟩ := HH.out.shapeD (q := q.2) (n := q.1.length) (by unfold kt4; exact List.mem_cons_of_mem _ (List.mem_cons_of_mem _ (mem_dth (List.mem_of_getElem? hq))))
            obtain ⟨mq, hmq⟩ : ∃ mq, mq = q.1.length := ⟨_, rfl⟩
            have HIN := @hideH _ (show (Value.slice pq mq cq, Wr 3 (.slice pq mq cq) mq) ∈ kt4 (.slice px na cx) (.slice (some ⟨gd, 0, none⟩) nd cd) na D by rw [hmq, ← hq2]; unfold kt4; exact List.mem_cons_of_mem _ (List.mem_cons_of_mem _ (mem_dth (List.mem_of_getElem? hq))))
            have HY := @hideH _ (show ∀ wx, Kq w15 Z (kt4 (.slice px na cx) (.slice (some ⟨gd, 0, none⟩) nd cd) na D) wx → wx.cell? ⟨gd, k, none⟩ = some (.slice pq mq cq) from fun wx h => by
              obtain ⟨g', e, y⟩ := h.cellD HNA.out.2.1.symm hq
              cases e
              rw [y, hmq, ← hq2])
            rw [hq2, ← hmq] at y0
            have HMQ := @hideH _ (show mq ≤ maxLen by rw [hmq]; omega)
            clear hq2 hmq hb1 hb2 hq
            go_wp2
            go_loopw [19] (fun vj wr => ∃ j : Nat, j ≤ mq ∧ vj = .int .i64 j ∧ Hid (Kq w15 Z (kt4 (.slice px na cx) (.slice (some ⟨gd, 0, none⟩) nd cd) na D) wr)) (fun vj _ => mq - (intOf vj).toNat)
            case atStart => exact ⟨0, Nat.zero_le _, rfl, HH.out⟩
            case round =>
              clear HH y0
              obtain ⟨j, hj, rfl, hh⟩ := hrel
              have HJ := @hideH _ hh.out
              clear hh
              have y0 := HY.out wr HJ.out
              by_cases hjl : j < mq
              · have hjl' : (j : Int) < (mq : Int) := by omega
                have hj0 : (0 : Int) ≤ (j : Int) := by omega
                have wj : IntKind.i64.wrap ((j : Int) + 1) = (j : Int) + 1 := wrap_i64_of (by omega) (by have e := HMQ.out; unfold maxLen at e; omega)
                have hW := HJ.out.own.holds _ HIN.out
                obtain ⟨gq, a0, a1, a2, hpq, ⟨c0, c1, c2⟩, f0, f1, f2⟩ := Wr.place3 hW hjl
                subst hpq
                have hs := Wr.set3 hW hjl (-3) 0 false
                obtain ⟨wn, hwn⟩ : ∃ wx, wx = ((wr.setCell ⟨gq, j * 3, none⟩ (.int .i64 (-3))).setCell ⟨gq, j * 3 + 1, none⟩ (.int .u64 0)).setCell ⟨gq, j * 3 + 2, none⟩ (.bool false) := ⟨_, rfl⟩
                rw [← hwn] at hs
                have H1 := @hideH _ (HJ.out.touch HIN.out hs.2 hs.1)
                clear hs hW HJ
                go_wp2
                rw [← hwn]
                clear hwn c0 c1 c2 f0 f1 f2 y0
                go_roundw
                case rel => exact ⟨j + 1, by omega, by go_num, H1.out⟩
                case measure => simp [intOf]; omega
              have hjl' : ¬ (j : Int) < (mq : Int) := by omega
              clear hjl hj
              go_wp2
              go_roundw
              case rel => exact ⟨k + 1, by omega, by go_num, HJ.out⟩
              case measure => simp [intOf]; omega
          have hkl' : ¬ (k : Int) < (nd : Int) := by omega
          have H6 := @hideH _ HH.out.six
          clear hkl hk HH
          go_wp2
          go_loopw [20] (fun vi wr => ∃ k : Nat, k ≤ nd ∧ vi = .int .i64 k ∧ Hid (Kq w15 Z ((.slice pd nd cd, Rst (.slice pd nd cd) D k) :: dth (D.drop k)) wr)) (fun vi _ => nd - (intOf vi).toNat)
          case atStart => exact ⟨0, Nat.zero_le _, rfl, H6.out⟩
          case round =>
            clear H6
            obtain ⟨k, hk, rfl, hh⟩ := hrel
            have HH := @hideH _ hh.out
            clear hh
            by_cases hkl : k < nd
            · have hkl' : (k : Int) < (nd : Int) := by omega
              have hk0 : (0 : Int) ≤ (k : Int) := by omega
              have wk : IntKind.i64.wrap ((k : Int) + 1) = (k : Int) + 1 := wrap_i64_of (by omega) (by have e := HNB.out; unfold maxLen at e; omega)
              obtain ⟨q, hq⟩ : ∃ q, D[k]? = some q := ⟨_, List.getElem?_eq_getElem (by have := HNA.out.2.1; omega)⟩
              have hR := HH.out.own.holds (.slice pd nd cd, Rst (.slice pd nd cd) D k) (List.mem_cons_self ..)
              obtain ⟨gd, hpd, y0, -⟩ := Rst.at hR HNA.out.2.1.symm hq
              subst hpd
              have hK := HH.out
              rw [dth_drop hq] at hK
              obtain ⟨pq, cq, hq2, hb1, hb2⟩ := hK.shapeD (q := q.2) (n := q.1.length) (List.mem_cons_of_mem _ (List.mem_cons_self ..))
              obtain ⟨mq, hmq⟩ : ∃ mq, mq = q.1.length := ⟨_, rfl⟩
              rw [hq2, ← hmq] at hK
              have HMQ := @hideH _ (show mq ≤ 3600000000000 by
                have e1 := len_flatK (L := S'.done) (l := q.1) (by rw [← HDD.out]; exact List.mem_map_of_mem (List.mem_of_getElem? hq))
                have e2 := cnt_flat HSM.out
                omega)
              have HKK := @hideH _ hK
              have HY := @hideH _ (show ∀ wx, Rst (.slice (some ⟨gd, 0, none⟩) nd cd) D k wx → wx.cell? ⟨gd, k, none⟩ = some (.slice pq mq cq) ∧ wx.frozen? ⟨gd, k, none⟩ = false from fun wx h => by
                obtain ⟨g', e, y, f⟩ := h.at HNA.out.2.1.symm hq
                cases e
                exact ⟨by rw [y, hmq, ← hq2], f⟩)
              rw [hq2, ← hmq] at y0
              obtain ⟨csq, hrq⟩ := hK.own.holds (.slice pq mq cq, Wr 3 (.slice pq mq cq) mq) (List.mem_cons_of_mem _ (List.mem_cons_self ..))
              have hsrc := src_two18 (P := Tryz.prog) wr 48 50 Tryz.underlying48 (-3) 0 false
              have hrow := hrq.kept ((Kept.refl [] wr).alloc (.cells #[.int .i64 (-3), .int .u64 0, .bool false, .int .i64 (-3), .int .u64 0, .bool false] 50)) (by simp)
              clear hrq hK hR hq2 hmq hb1 hb2 hq HH
              obtain ⟨infC, hin1, hin2, hin3, hin4⟩ := info_parts3 (show (Tryz.prog.info? 50).map (fun i => (i.zero, i.size, i.bytes)) = some (some (.agg #[.int .i64 0, .int .u64 0, .bool false]), 3, 24) by kernel_rfl)
              have HIC := @hideH _ (And.intro hin1 (And.intro hin2 (And.intro hin3 hin4)))
              clear hin1 hin2 hin3 hin4
              go_upto_region 44 with (at_builtin; refine wpList_append_row2 rfl (.tmp 155) (.tmp 158) 48 rfl 0 50 infC (.agg #[.int .i64 0, .int .u64 0, .bool false]) 3 24 Tryz.underlying48 HIC.out.1 HIC.out.2.1 HIC.out.2.2.1 HIC.out.2.2.2 rfl _ _ _ (by rfl) hrow _ 2 _ (by rfl) hsrc (by have e1 := HMQ.out; omega) (by have e1 := HMQ.out; unfold maxLen; omega) (by have e1 := HMQ.out; omega) (Nat.zero_le _) ?_; intro v' w18 r18 k18 o18; obtain ⟨p18, c18, hv', hc18, -⟩ := Row.shape r18; subst hv'; have H18 := @hideH _ (((HKK.out.then ((Kept.refl [] wr).alloc _)).perm (List.Perm.swap _ _ _)).tail k18); clear r18 k18 o18 hrow hsrc HKK y0)
              have hR := H18.out.own.holds (.slice (some ⟨gd, 0, none⟩) nd cd, Rst (.slice (some ⟨gd, 0, none⟩) nd cd) D k) (List.mem_cons_self ..)
              obtain ⟨y0, f0⟩ := HY.out w18 hR
              have hs := Rst.set hR HNA.out.2.1.symm hkl (.slice p18 0 c18) rfl
              obtain ⟨wn, hwn⟩ : ∃ wx, wx = w18.setCell ⟨gd, k, none⟩ (.slice p18 0 c18) := ⟨_, rfl⟩
              rw [← hwn] at hs
              have H1 := @hideH _ (H18.out.head hs.2 hs.1 (Rst.stays _ _ _))
              clear hs hR H18
              go_wp2
              rw [← hwn]
              clear hwn y0 f0
              go_roundw
              case rel => exact ⟨k + 1, by omega, by go_num, H1.out⟩
              case measure => simp [intOf]; omega
            have hkl' : ¬ (k : Int) < (nd : Int) := by omega
            have BK := HAW.out.2.2.2.back O HAW.out.2.2.1 HAW.out.1 HAW.out.2.1 HH.out.kp
            have HB0 := @hideH _ BK.1
            have HE0 := @hideH _ BK.2.1
            have HF0 := @hideH _ BK.2.2
            clear BK HAW HH hkl hk
            have HQ := @hideH _ (E.entries _ HB0.out.v HB0.out.p HSM.out)
            rw [HEE.out.1, HEE.out.2, ← HLA.out.2] at HQ
            go_wp2_with fail
            refine HQ.out.mono ?_
            clear HQ
            rintro e w20 ⟨vy, rfl, hy, k20⟩
            have HY0 := @hideH _ hy
            have HB1 := @hideH _ (HB0.out.then O k20)
            have HE1 := @hideH _ (HE0.out.kept k20 (by simp))
            have HF1 := @hideH _ (HF0.out.then k20)
            clear hy k20 HB0 HE0 HF0
            go_wp2_with fail
            refine (entries_eq _ _ la _ _ _ HY0.out HE1.out).mono ?_
            rintro e w21 ⟨rfl, k21⟩
            have HB2 := @hideH _ (HB1.out.then O k21)
            have HE2 := @hideH _ (HE1.out.kept k21 (by simp))
            have HF2 := @hideH _ (HF1.out.then k21)
            clear k21 HB1 HE1 HF1 HY0
            have HQ := @hideH _ (FO.fold _ G _ HF2.out (by rw [HG.out]; exact cnt_flat HSM.out) (fun q hq x hx => okC.in64 HM.out (HKC.out.keyD q.1 (by rw [← HG.out]; exact List.mem_map_of_mem hq) x hx)))
            rw [HG.out, ← HLA.out.2] at HQ
            go_wp2_with fail
            refine HQ.out.mono ?_
            clear HQ
            rintro e w22 ⟨vz, rfl, hz, k22⟩
            have HZ0 := @hideH _ hz
            have HB3 := @hideH _ (HB2.out.then O k22)
            have HE3 := @hideH _ (HE2.out.kept k22 (by simp))
            clear hz k22 HB2 HE2 HF2
            go_wp2_with fail
            refine (entries_eq _ _ la _ _ _ HZ0.out HE3.out).mono ?_
            rintro e w23 ⟨rfl, k23⟩
            have HB4 := @hideH _ (HB3.out.then O k23)
            have HE4 := @hideH _ (HE3.out.kept k23 (by simp))
            clear k23 HB3 HE3 HZ0
            go_wp2_with fail
            refine (E.done _ HB4.out.v HB4.out.p HSM.out).mono ?_
            rintro e w24 ⟨vg, M, rfl, hg, hM, k24⟩
            have HM0 := @hideH _ (And.intro hg.ll hM)
            have HB5 := @hideH _ (HB4.out.then O k24)
            have HE5 := @hideH _ (HE4.out.kept k24 (by simp))
            clear hg hM k24 HB4 HE4
            have HQ := @hideH _ (FO.fold _ M _ HM0.out.1 (by rw [HM0.out.2]; exact cnt_flat HSM.out) (fun q hq x hx => okC.in64 HM.out (HKC.out.keyD q.1 (by rw [← HM0.out.2]; exact List.mem_map_of_mem hq) x hx)))
            rw [HM0.out.2, ← HLA.out.2] at HQ
            go_wp2_with fail
            refine HQ.out.mono ?_
            clear HQ
            rintro e w25 ⟨vz, rfl, hz, k25⟩
            have HZ0 := @hideH _ hz
            have HB6 := @hideH _ (HB5.out.then O k25)
            have HE6 := @hideH _ (HE5.out.kept k25 (by simp))
            clear hz k25 HB5 HE5 HM0
            go_wp2_with fail
            refine (entries_eq _ _ la _ _ _ HZ0.out HE6.out).mono ?_
            rintro e w26 ⟨rfl, k26⟩
            have HKF := @hideH _ (HB6.out.kp.then k26)
            clear k26 HB6 HE6 HZ0
            go_wp2
            go_ret
            exact ⟨by first | rfl | simp, HKF.out⟩
end Go.Proofs.YtocpagpkpibmaaaGreatDoor

