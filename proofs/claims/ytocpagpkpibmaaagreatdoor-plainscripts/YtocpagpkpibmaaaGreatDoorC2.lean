import Derived.Test.YtocpagpkpibmaaaGreatDoorRows
import Derived.Deep.MidRow
import Derived.Test.YtocpagpkpibmaaaGreatDoorC1
/-
  OWN WORK. The model (layer 18) in plain words: how much there is: each step adds one at most.
-/
namespace Go.Proofs.YtocpagpkpibmaaaGreatDoor
set_option linter.unusedVariables false
theorem chsN_append (a b : List Tn) : chsN (a ++ b) = chsN a + chsN b := by
  induction a with
  | nil => simp [chsN]
  | cons t r ih => simp only [List.cons_append, chsN, ih]; omega
theorem chsN_at {l : List Tn} {k : Nat} {x : Tn} (hk : l[k]? = some x) : chsN l = chsN (l.take k) + x.chs.length + chsN (l.drop (k + 1)) := by
  conv => lhs; rw [split_at hk]
  rw [chsN_append]; simp only [chsN]; omega
theorem chsN_set {l : List Tn} {k : Nat} {x : Tn} (hk : l[k]? = some x) (y : Tn) : chsN (l.set k y) + x.chs.length = chsN l + y.chs.length := by
  rw [chsN_at hk, set_split hk, chsN_append]; simp only [chsN]; omega
theorem chsN_erase {l : List Tn} {k : Nat} {x : Tn} (hk : l[k]? = some x) : chsN (l.eraseIdx k) + x.chs.length = chsN l := by
  rw [chsN_at hk, erase_split, chsN_append]; omega
theorem findO_idx {c : Cf} {s : St} (ok : OkS c s) {id : Int} {t : Tn} (h : findO s.opn id = some t) : ∃ k : Nat, s.opn[k]? = some t := List.getElem?_of_mem (findO_some h).1
theorem ask_find {c : Cf} {s : St} {id key : Int} (h : askE c s id key = 0) : ∃ t, findO s.opn id = some t := by
  unfold askE at h
  split at h
  · exact absurd h (by decide)
  · rename_i q
    cases e : findO s.opn id with
    | none => rw [e] at q; simp at q
    | some t => exact ⟨t, rfl⟩
theorem cnt_chg {c : Cf} {s : St} (ok : OkS c s) {k : Nat} {t : Tn} (hk : s.opn[k]? = some t) (p : Int) (x : Chg) : cnt (chgS c s t p x) ≤ cnt s + 1 := by
  by_cases h : 0 < lenC s t x
  · cases hf : fitsS c s (38 + 2 * lenC s t x) (46 + lenC s t x) with
    | true =>
      rw [(chg_fit (page := p) ok hk rfl h hf).2]
      have := chsN_set hk (heldT ⟨t.id, t.pages, t.chs ++ [x], t.lens ++ [lenC s t x]⟩ p)
      rw [(heldT_id _ _).2.2.1, List.length_append] at this
      unfold cnt; simp at this ⊢; omega
    | false =>
      rw [(chg_not (page := p) ok hk rfl h hf).2]
      have := chsN_erase hk
      unfold cnt; dsimp only; omega
  · rw [(chg_zero (page := p) ok hk rfl h).2]
    have := chsN_set hk (heldT t p)
    rw [(heldT_id _ _).2.2.1] at this
    unfold cnt; dsimp only; omega
theorem cnt_step {c : Cf} {S : St} (ok : OkS c S) (o : OpR) : cnt (stS c S o) ≤ cnt S + 1 := by
  unfold stS
  by_cases q1 : o.kind = 1
  · rw [if_pos q1]
    unfold begS
    split
    · unfold cnt; dsimp only; rw [chsN_append]; simp [chsN]
    · omega
  rw [if_neg q1]
  by_cases q2 : o.kind = 2
  · rw [if_pos q2]
    by_cases h : askE c S o.id o.key = 0
    · obtain ⟨t, ht⟩ := ask_find h
      obtain ⟨k, hk⟩ := findO_idx ok ht
      rw [(get_yes ok h hk ht).2]
      have := chsN_set hk (heldT t (o.key % c.pages))
      rw [(heldT_id _ _).2.2.1] at this
      unfold cnt; dsimp only; omega
    · rw [(get_no h).2]; omega
  rw [if_neg q2]
  by_cases q3 : o.kind = 3
  · rw [if_pos q3]
    by_cases h : askE c S o.id o.key = 0
    · obtain ⟨t, ht⟩ := ask_find h
      obtain ⟨k, hk⟩ := findO_idx ok ht
      cases hb : full c S t o.key with
      | true => rw [(put_full (v := o.v) h ht hb).2]; omega
      | false => rw [(put_chg (v := o.v) h ht hb).2]; exact cnt_chg ok hk _ _
    · rw [(put_no (v := o.v) h).2.1]; omega
  rw [if_neg q3]
  by_cases q4 : o.kind = 4
  · rw [if_pos q4]
    by_cases h : askE c S o.id o.key = 0
    · obtain ⟨t, ht⟩ := ask_find h
      obtain ⟨k, hk⟩ := findO_idx ok ht
      cases hb : (seesT S t o.key).2 with
      | true => rw [(del_chg h ht hb).2.2]; exact cnt_chg ok hk _ _
      | false =>
        rw [(del_none ok hk h ht hb).2.2]
        have := chsN_set hk (heldT t (o.key % c.pages))
        rw [(heldT_id _ _).2.2.1] at this
        unfold cnt; dsimp only; omega
    · rw [(put_no (v := 0) h).2.2.2.2]; omega
  rw [if_neg q4]
  by_cases q5 : o.kind = 5
  · rw [if_pos q5]
    cases h : findO S.opn o.id with
    | none => rw [(abo_none h).2.2]; omega
    | some t =>
      obtain ⟨k, hk⟩ := findO_idx ok h
      rw [(abo_some ok hk h).2.2]
      have := chsN_erase hk
      unfold cnt; dsimp only; rw [List.flatten_append, List.length_append, List.length_append]; simp; omega
  rw [if_neg q5]
  by_cases q6 : o.kind = 6
  · rw [if_pos q6]
    cases h : findO S.opn o.id with
    | none => rw [(abo_none h).2.1]; omega
    | some t =>
      obtain ⟨k, hk⟩ := findO_idx ok h
      rw [(abo_some ok hk h).2.1]
      have := chsN_erase hk
      unfold cnt; dsimp only; omega
  rw [if_neg q6]
  by_cases q7 : o.kind = 7
  · rw [if_pos q7]; unfold chkS; split <;> (unfold cnt; first | omega | (dsimp only; omega))
  rw [if_neg q7]
  by_cases q8 : o.kind = 8
  · rw [if_pos q8]; unfold renS; split <;> (unfold cnt; first | omega | (dsimp only; omega))
  rw [if_neg q8]; omega
end Go.Proofs.YtocpagpkpibmaaaGreatDoor

/-
  OWN WORK (by mkpno.py). Scripts (layer 18): rows of five cells.
-/
namespace Go.Proofs.YtocpagpkpibmaaaGreatDoor
open Go.RowKit
set_option linter.unusedVariables false
set_option linter.unusedSimpArgs false

def OpR.cs (s : OpR) : List Value := [.int .i64 s.kind, .int .i64 s.id, .int .i64 s.key, .int .u64 s.v, .int .i64 s.n]
def OpAt (w : World) (a : Addr) (s : OpR) : Prop := (∀ (j : Nat) u, s.cs[j]? = some u → w.cell? (a.add j) = some u) ∧ s.ok
/-- v is a slice of these -/
def Ops (w : World) (v : Value) (ss : List OpR) : Prop :=
  ∃ (p : Option Addr) (c : Nat), v = .slice p ss.length c ∧ ss.length ≤ c ∧ c ≤ maxLen ∧ (p = none → c = 0) ∧ ∀ a, p = some a → ∀ (i : Nat) s, ss[i]? = some s → OpAt w (a.add (i * 5)) s
theorem OpAt.kept {w w' : World} {a : Addr} {s : OpR} (h : OpAt w a s) (k : Kept [] w w') : OpAt w' a s := ⟨fun j u hj => k.cell (h.1 j u hj) (by simp), h.2⟩
theorem Ops.kept {w w' : World} {v : Value} {ss : List OpR} (h : Ops w v ss) (k : Kept [] w w') : Ops w' v ss := by
  obtain ⟨p, c, e, h1, h2, h3, h4⟩ := h
  exact ⟨p, c, e, h1, h2, h3, fun a ha i s hs => (h4 a ha i s hs).kept k⟩
theorem Ops.shape {w : World} {v : Value} {ss : List OpR} (h : Ops w v ss) : ∃ p c, v = .slice p ss.length c ∧ ss.length ≤ maxLen := by
  obtain ⟨p, c, e, h1, h2, -⟩ := h
  exact ⟨p, c, e, by omega⟩
theorem Ops.at {w : World} {v : Value} {ss : List OpR} (h : Ops w v ss) {k : Nat} {s : OpR} (hk : ss[k]? = some s) :
    ∃ b o c, v = .slice (some ⟨b, o, none⟩) ss.length c ∧ (w.cell? ⟨b, o + k * 5, none⟩ = some (.int .i64 s.kind) ∧ w.cell? ⟨b, o + k * 5 + 1, none⟩ = some (.int .i64 s.id) ∧ w.cell? ⟨b, o + k * 5 + 2, none⟩ = some (.int .i64 s.key) ∧ w.cell? ⟨b, o + k * 5 + 3, none⟩ = some (.int .u64 s.v) ∧ w.cell? ⟨b, o + k * 5 + 4, none⟩ = some (.int .i64 s.n)) ∧ s.ok := by
  obtain ⟨p, c, rfl, h1, h2, h3, h4⟩ := h
  have hkl := (List.getElem?_eq_some_iff.1 hk).1
  cases p with
  | none => have := h3 rfl; omega
  | some a =>
    have h0 := (h4 a rfl 0 ss[0] (List.getElem?_eq_getElem (by omega))).1 0 _ rfl
    have hs := spot_of_cell h0
    have hs' : a.spot = none := by
      unfold Addr.add at hs
      split at hs <;> simp_all
    obtain ⟨g, g4⟩ := h4 a rfl k s hk
    obtain ⟨b, o, sp⟩ := a
    simp only at hs'
    subst hs'
    have hA : (⟨b, o, none⟩ : Addr).add (k * 5) = ⟨b, o + k * 5, none⟩ := add_none (a := ⟨b, o, none⟩) rfl (k * 5)
    rw [hA] at g
    have q : ∀ (j : Nat) u, s.cs[j]? = some u → w.cell? ⟨b, o + k * 5 + j, none⟩ = some u := fun j u hj => by have := g j u hj; rw [add_none (a := ⟨b, o + k * 5, none⟩) rfl] at this; exact this
    exact ⟨b, o, c, rfl, ⟨q 0 _ rfl, q 1 _ rfl, q 2 _ rfl, q 3 _ rfl, q 4 _ rfl⟩, g4⟩
end Go.Proofs.YtocpagpkpibmaaaGreatDoor

/-
  OWN WORK (by mkpni.py). The document's Fold (layer 18).
-/
namespace Go.Proofs.YtocpagpkpibmaaaGreatDoor
open Go.RowKit
set_option linter.unusedVariables false
set_option linter.unusedSimpArgs false

set_option maxRecDepth 20000 in
set_option maxHeartbeats 6400000 in
theorem rFold (v : Value) (D : List (List Chg × Value)) (w : World) (h : Ll w v D) (hlen : (D.map Prod.fst).flatten.length ≤ 4000000000000) : Calls Tryz.prog 89 #[v] w fun e w' => ∃ vo, e = .returned vo ∧ Es w' w.heap.size vo (foldL (D.map Prod.fst)) ∧ Kept [] w w' := by
  obtain ⟨pd, kd, hvd, hnc, hcm⟩ := h.1.shape
  subst hvd
  obtain ⟨nd, hnd⟩ : ∃ nd, nd = D.length := ⟨_, rfl⟩
  rw [← hnd]
  have HND := @hideH _ (And.intro hnd (show nd ≤ maxLen by rw [hnd]; exact Nat.le_trans hnc hcm))
  have HL := @hideH _ h
  rw [← hnd] at HL
  have HLEN := @hideH _ hlen
  clear h hlen hnd hnc hcm
  obtain ⟨infE, hin1, hin2, hin3, hin4⟩ := info_parts3 (show (Tryz.prog.info? 47).map (fun i => (i.zero, i.size, i.bytes)) = some (some (.agg #[.int .i64 0, .int .u64 0]), 2, 16) by kernel_rfl)
  have HIE := @hideH _ (And.intro hin1 (And.intro hin2 (And.intro hin3 hin4)))
  clear hin1 hin2 hin3 hin4
  go_enter Tryz.func89, Tryz.ntmps89
  go_wp2
  go_loopw [3, 4] (fun vo vi wr => ∃ (i m : Nat) (po : Option Addr) (co : Nat), i ≤ nd ∧ vi = .int .i64 i ∧ vo = .slice po m co ∧ Hid (m = (foldL ((D.map Prod.fst).take i)).length ∧ Es wr w.heap.size (.slice po m co) (foldL ((D.map Prod.fst).take i)) ∧ Kept [] w wr)) (fun _ vi _ => nd - (intOf vi).toNat)
  case atStart => exact ⟨0, 0, none, 0, Nat.zero_le _, rfl, rfl, by simp [foldL], by simp [foldL]; exact Es.nil _ _, Kept.refl _ _⟩
  case round =>
    obtain ⟨i, m, po, co, hi, rfl, rfl, hh⟩ := hrel
    obtain ⟨wa, hwa⟩ : ∃ wa, wa = wr := ⟨_, rfl⟩
    rw [← hwa] at hh ⊢
    clear hwa
    by_cases hil : i < nd
    rotate_left
    · have hil' : ¬ (i : Int) < (nd : Int) := by omega
      have HE := @hideH _ (show (D.map Prod.fst).take i = D.map Prod.fst from List.take_of_length_le (by rw [List.length_map]; have := HND.out; omega))
      go_wp2
      go_ret
      exact ⟨_, rfl, by rw [← HE.out]; exact hh.out.2.1, hh.out.2.2⟩
    have hil' : (i : Int) < (nd : Int) := by omega
    have hi0 : (0 : Int) ≤ (i : Int) := by omega
    have wi : IntKind.i64.wrap ((i : Int) + 1) = (i : Int) + 1 := wrap_i64_of (by omega) (by have e := HND.out.2; unfold maxLen at e; omega)
    obtain ⟨d, hd⟩ : ∃ d, D[i]? = some d := ⟨_, List.getElem?_eq_getElem (by have := HND.out.1; omega)⟩
    obtain ⟨gd, hpd, -⟩ := HL.out.at hd
    subst hpd
    obtain ⟨l, vl⟩ := d
    have hcl := HL.out.2 _ (List.mem_of_getElem? hd)
    dsimp only at hcl
    obtain ⟨pl, cl, hvl, hlc, hlm⟩ := hcl.shape
    subst hvl
    obtain ⟨nl, hnl⟩ : ∃ nl, nl = l.length := ⟨_, rfl⟩
    have HD := @hideH _ (And.intro hd (And.intro hnl (Nat.le_trans hlc hlm)))
    have HCL := @hideH _ hcl
    have hls : (D.map Prod.fst)[i]? = some l := by rw [List.getElem?_map, hd]; rfl
    have HLS := @hideH _ hls
    have HH := @hideH _ hh.out
    clear hd hcl hlc hlm hnl hls hh
    go_wp2
    go_loopw [3, 5] (fun vo vj wr => ∃ (j m : Nat) (po : Option Addr) (co : Nat), j ≤ nl ∧ vj = .int .i64 j ∧ vo = .slice po m co ∧ Hid (m = (foldE (foldL ((D.map Prod.fst).take i)) (l.take j)).length ∧ Es wr w.heap.size (.slice po m co) (foldE (foldL ((D.map Prod.fst).take i)) (l.take j)) ∧ Kept [] w wr)) (fun _ vj _ => nl - (intOf vj).toNat)
    case atStart => exact ⟨0, m, po, co, Nat.zero_le _, rfl, rfl, by simp [foldE]; exact HH.out.1, by simp [foldE]; exact HH.out.2.1, HH.out.2.2⟩
    case round =>
      obtain ⟨j, mj, pj, cj, hj, rfl, rfl, hh⟩ := hrel
      obtain ⟨wb, hwb⟩ : ∃ wb, wb = wr := ⟨_, rfl⟩
      rw [← hwb] at hh ⊢
      clear hwb
      obtain ⟨gd', hpd', dd⟩ := (HL.out.then hh.out.2.2).at HD.out.1
      cases hpd'
      dsimp only at dd
      rw [← HD.out.2.1] at dd
      by_cases hjl : j < nl
      rotate_left
      · have hjl' : ¬ (j : Int) < (nl : Int) := by omega
        have HE := @hideH _ (show foldE (foldL ((D.map Prod.fst).take i)) (l.take j) = foldL ((D.map Prod.fst).take (i + 1)) by rw [show l.take j = l from List.take_of_length_le (by have := HD.out.2.1; omega), foldL_take HLS.out])
        have HX := @hideH _ hh.out
        clear hh
        go_wp2
        go_roundw
        case rel => exact ⟨i + 1, mj, pj, cj, by omega, by go_num, rfl, by rw [← HE.out]; exact HX.out.1, by rw [← HE.out]; exact HX.out.2.1, HX.out.2.2⟩
        case measure => simp [intOf]; omega
      have hjl' : (j : Int) < (nl : Int) := by omega
      have hj0 : (0 : Int) ≤ (j : Int) := by omega
      have wj : IntKind.i64.wrap ((j : Int) + 1) = (j : Int) + 1 := wrap_i64_of (by omega) (by have e := HD.out.2; unfold maxLen at e; omega)
      obtain ⟨x, hx⟩ : ∃ x, l[j]? = some x := ⟨_, List.getElem?_eq_getElem (by have := HD.out.2.1; omega)⟩
      have hcl := HCL.out.kept hh.out.2.2 (by simp)
      rw [← HD.out.2.1] at hcl
      obtain ⟨gx, hpx, -, -, x0, x1, x2⟩ := hcl.at hx
      subst hpx
      obtain ⟨O, hO⟩ : ∃ O, O = foldE (foldL ((D.map Prod.fst).take i)) (l.take j) := ⟨_, rfl⟩
      rw [← hO] at hh
      have HO := @hideH _ (And.intro hO (show O.length ≤ 4000000000000 by rw [hO]; exact Nat.le_trans (fold_bound HLS.out) HLEN.out))
      have HFT := @hideH _ (show foldE (foldL ((D.map Prod.fst).take i)) (l.take (j + 1)) = layE x x.gone O by rw [foldE_take hx, hO])
      obtain ⟨w6, hw6⟩ : ∃ wx, wx = wb.alloc (.cells #[.int .i64 x.key, .int .u64 x.val, .bool x.gone] 149) := ⟨_, rfl⟩
      have k6 : Kept [] wb w6 := by rw [hw6]; exact (Kept.refl [] wb).alloc _
      have X6 : Blk w6 wb.heap.size 149 [.int .i64 x.key, .int .u64 x.val, .bool x.gone] := by rw [hw6]; exact Blk.new wb _ _
      have HX6 := @hideH _ X6
      have HO6 := @hideH _ (And.intro hh.out.1 (hh.out.2.1.kept k6 (by simp)))
      have HK6 := @hideH _ (hh.out.2.2.then k6)
      have y0 := X6.cell (j := 0) rfl
      have y1 := X6.cell (j := 1) rfl
      have y2 := X6.cell (j := 2) rfl
      clear hx hcl hO hh k6 X6
      go_upto_region 9 with fail
      rw [← hw6]
      clear hw6 dd x0 x1 x2
      go_wp2
      go_loopw [7, 8, 9] (fun vn vb vk wr => ∃ (k q : Nat) (pn : Option Addr) (cn : Nat) (b : Bool) (N : List (Int × Int)), k ≤ mj ∧ q ≤ k + 1 ∧ vk = .int .i64 k ∧ vb = .bool b ∧ vn = .slice pn q cn ∧ Hid (q = N.length ∧ Mid x O k N b ∧ Es wr w6.heap.size (.slice pn q cn) N ∧ Kept [] w6 wr)) (fun _ _ vk _ => mj - (intOf vk).toNat)
      case atStart => exact ⟨0, 0, none, 0, x.gone, [], Nat.zero_le _, by omega, rfl, rfl, rfl, rfl, Mid.start x O, Es.nil _ _, Kept.refl _ _⟩
      case round =>
        obtain ⟨k, q, pn, cn, b, N, hk, hq, rfl, rfl, rfl, hh⟩ := hrel
        replace y0 := hh.out.2.2.2.cell y0 (by simp)
        replace y1 := hh.out.2.2.2.cell y1 (by simp)
        have HQ := @hideH _ (show q ≤ 4000000000001 by have := HO.out.2; have := HO6.out.1; omega)
        by_cases hkl : k < mj
        rotate_left
        · have hkl' : ¬ (k : Int) < (mj : Int) := by omega
          have HF := @hideH _ (hh.out.2.1.fin (show k = O.length by have := HO6.out.1; omega))
          cases b
          rotate_left
          · have HX := @hideH _ hh.out
            clear hh
            go_wp2
            go_roundw
            case rel => exact ⟨j + 1, q, pn, cn, by omega, by go_num, rfl, by rw [HFT.out, HF.out]; simpa using HX.out.1, by rw [HFT.out, HF.out]; simpa using HX.out.2.2.1.mono HK6.out.size, HK6.out.then HX.out.2.2.2⟩
            case measure => simp [intOf]; omega
          obtain ⟨w7, hw7⟩ : ∃ wx, wx = wr.alloc (.cells #[.int .i64 x.key, .int .u64 x.val] 47) := ⟨_, rfl⟩
          have k7 : Kept [] wr w7 := by rw [hw7]; exact (Kept.refl [] wr).alloc _
          have hsrc := src_ent (P := Tryz.prog) wr 36 47 Tryz.underlying36 x.key x.val
          rw [← hw7] at hsrc
          have R7 := hh.out.2.2.1.kept k7 (by simp)
          unfold Es at R7
          rw [← hh.out.1] at R7
          have hba := (hh.out.2.2.2.then k7).size
          have HX := @hideH _ hh.out
          have HK7 := @hideH _ k7
          clear hh k7
          go_wp2_with (at_builtin; rw [← hw7]; refine wpList_append_row2 rfl (.tmp 77) (.tmp 83) 36 rfl w6.heap.size 47 infE (.agg #[.int .i64 0, .int .u64 0]) 2 16 Tryz.underlying36 HIE.out.1 HIE.out.2.1 HIE.out.2.2.1 HIE.out.2.2.2 rfl _ _ _ (by rfl) R7 _ 1 _ (by rfl) hsrc (by have e1 := HQ.out; omega) (by have e1 := HQ.out; unfold maxLen; omega) (by have e1 := HQ.out; omega) hba ?_; intro v' w8 r8 k8 o8; obtain ⟨p8, c8, hv', -⟩ := Row.shape r8; subst hv'; have HX8 := @hideH _ (And.intro r8 k8); clear r8 k8 o8 R7 hsrc hba hw7)
          go_roundw
          case rel => exact ⟨j + 1, q + 1, p8, c8, by omega, by go_num, rfl, by rw [HFT.out, HF.out, HX.out.1]; simp, by rw [HFT.out, HF.out]; exact (Es.snoc (w := w8) (x := (x.key, x.val)) (by rw [← HX.out.1]; exact HX8.out.1)).mono HK6.out.size, (HK6.out.then (HX.out.2.2.2.then HK7.out)).trans HX8.out.2 (fun y hy => .inr (by have := (Row.lt HX.out.2.2.1 y (own_mem.1 hy)).1; have := HK6.out.size; omega))⟩
          case measure => simp [intOf]; omega
        have hkl' : (k : Int) < (mj : Int) := by omega
        have hk0 : (0 : Int) ≤ (k : Int) := by omega
        have wk : IntKind.i64.wrap ((k : Int) + 1) = (k : Int) + 1 := wrap_i64_of (by omega) (by have := HO.out.2; have := HO6.out.1; omega)
        obtain ⟨e, he⟩ : ∃ e, O[k]? = some e := ⟨_, List.getElem?_eq_getElem (by have := HO6.out.1; omega)⟩
        obtain ⟨ge, hpe, -, hge, f0, f1⟩ := HO6.out.2.at he
        subst hpe
        have g0 := HX6.out.cell (j := 0) rfl
        have g1 := HX6.out.cell (j := 1) rfl
        have HM := @hideH _ (hh.out.2.1.step he)
        have HC := @hideH _ (And.intro f0 (And.intro f1 (And.intro g0 g1)))
        have HS0 := @hideH _ (And.intro hh.out.1 (And.intro hh.out.2.2.1 hh.out.2.2.2))
        have HQK := @hideH _ hq
        clear y0 y1 y2 he hh f0 f1 g0 g1 hge
        cases b
        rotate_left
        · skip
          have z0 := (HS0.out.2.2).cell HC.out.1 (by simp)
          have z1 := (HS0.out.2.2).cell HC.out.2.1 (by simp)
          have y0 := (HS0.out.2.2).cell HC.out.2.2.1 (by simp)
          have y1 := (HS0.out.2.2).cell HC.out.2.2.2 (by simp)
          go_upto_region 14 with fail
          go_quiet (fail)
          clear z0 z1 y0 y1
          obtain ⟨wx1, hwx1⟩ : ∃ wx, wx = wr.drewN nq := ⟨_, rfl⟩
          have kwx1 : Kept [] wr wx1 := by rw [hwx1]; exact (Kept.refl [] wr).drewN' _
          rw [← hwx1]
          clear hwx1
          have HS1 := @hideH _ (And.intro HS0.out.1 (And.intro (HS0.out.2.1.kept kwx1 (by simp)) (HS0.out.2.2.then kwx1)))
          clear kwx1 HQ
          have HQ := @hideH _ (show q ≤ 4000000000002 by have := HO.out.2; have := HO6.out.1; have := HQK.out; omega)
          have z0 := (HS1.out.2.2).cell HC.out.1 (by simp)
          have z1 := (HS1.out.2.2).cell HC.out.2.1 (by simp)
          have y0 := (HS1.out.2.2).cell HC.out.2.2.1 (by simp)
          have y1 := (HS1.out.2.2).cell HC.out.2.2.2 (by simp)
          by_cases ek : e.1 = x.key
          · have ek' : (e.1 != x.key) = false := by simpa using ek
            have HMM := @hideH _ (show Mid x O (k + 1) (N) true from by have m := HM.out; rw [if_neg (by simp)] at m; rw [if_pos ek] at m; simpa using m)
            clear ek
            go_upto_region 17 with fail
            go_quiet (fail)
            clear z0 z1 y0 y1
            obtain ⟨wz, hwz⟩ : ∃ wx, wx = wx1.drewN nq := ⟨_, rfl⟩
            have kwz : Kept [] wx1 wz := by rw [hwz]; exact (Kept.refl [] wx1).drewN' _
            rw [← hwz]
            clear hwz
            go_wp2
            go_roundw
            case rel => exact ⟨k + 1, q, pn, cn, true, N, by omega, by have := HQK.out; have := HMM.out.len; have := HS1.out.1; omega, by go_num, rfl, rfl, HS1.out.1, HMM.out, HS1.out.2.1.kept kwz (by simp), HS1.out.2.2.then kwz⟩
            case measure => simp [intOf]; omega
          · have ek' : (e.1 != x.key) = true := by simpa using ek
            have HMM := @hideH _ (show Mid x O (k + 1) (N ++ [e]) true from by have m := HM.out; rw [if_neg (by simp)] at m; rw [if_neg ek] at m; simpa using m)
            clear ek
            go_upto_region 17 with fail
            go_quiet (fail)
            clear z0 z1 y0 y1
            obtain ⟨wz, hwz⟩ : ∃ wx, wx = wx1.drewN nq := ⟨_, rfl⟩
            have kwz : Kept [] wx1 wz := by rw [hwz]; exact (Kept.refl [] wx1).drewN' _
            rw [← hwz]
            clear hwz
            have HSZ := @hideH _ (And.intro HS1.out.1 (And.intro (HS1.out.2.1.kept kwz (by simp)) (HS1.out.2.2.then kwz)))
            clear kwz
            have z0 := (HSZ.out.2.2).cell HC.out.1 (by simp)
            have z1 := (HSZ.out.2.2).cell HC.out.2.1 (by simp)
            have y0 := (HSZ.out.2.2).cell HC.out.2.2.1 (by simp)
            have y1 := (HSZ.out.2.2).cell HC.out.2.2.2 (by simp)
            clear y0 y1
            obtain ⟨wl, hwl⟩ : ∃ wx, wx = wz.alloc (.cells #[.int .i64 e.1, .int .u64 e.2] 47) := ⟨_, rfl⟩
            have kl : Kept [] wz wl := by rw [hwl]; exact (Kept.refl [] wz).alloc _
            have hsrc := src_ent (P := Tryz.prog) wz 36 47 Tryz.underlying36 e.1 e.2
            skip
            rw [← hwl] at hsrc
            have R7 := HSZ.out.2.1.kept kl (by simp)
            unfold Es at R7
            rw [← HSZ.out.1] at R7
            have hba := (HSZ.out.2.2.then kl).size
            have HKL := @hideH _ kl
            clear kl
            go_upto_region 13 with (at_builtin; rw [← hwl]; refine wpList_append_row2 rfl (.tmp 68) (.tmp 73) 36 rfl w6.heap.size 47 infE (.agg #[.int .i64 0, .int .u64 0]) 2 16 Tryz.underlying36 HIE.out.1 HIE.out.2.1 HIE.out.2.2.1 HIE.out.2.2.2 rfl _ _ _ (by rfl) R7 _ 1 _ (by rfl) hsrc (by have e1 := HQ.out; omega) (by have e1 := HQ.out; unfold maxLen; omega) (by have e1 := HQ.out; omega) hba ?_; intro v' wy r8 k8 o8; obtain ⟨pwy, cwy, hv', -⟩ := Row.shape r8; subst hv'; have HX8 := @hideH _ (And.intro r8 k8); clear r8 k8 o8 R7 hsrc hba hwl)
            have HSY := @hideH _ (show q + 1 = (N ++ [e]).length ∧ Es wy w6.heap.size (.slice pwy (q + 1) cwy) (N ++ [e]) ∧ Kept [] w6 wy from ⟨by rw [List.length_append, ← HSZ.out.1]; rfl, Es.snoc (w := wy) (x := e) (by rw [← HSZ.out.1]; exact HX8.out.1), (HSZ.out.2.2.then HKL.out).trans HX8.out.2 (fun y hy => .inr (Row.lt HSZ.out.2.1 y (own_mem.1 hy)).1)⟩)
            clear HX8 HKL
            clear z0 z1
            go_wp2
            go_roundw
            case rel => exact ⟨k + 1, q + 1, pwy, cwy, true, N ++ [e], by omega, by have := HMM.out.len; have := HSY.out.1; omega, by go_num, rfl, rfl, HSY.out.1, HMM.out, HSY.out.2.1, HSY.out.2.2⟩
            case measure => simp [intOf]; omega
        by_cases hle : x.key ≤ e.1
        rotate_left
        · skip
          have z0 := (HS0.out.2.2).cell HC.out.1 (by simp)
          have z1 := (HS0.out.2.2).cell HC.out.2.1 (by simp)
          have y0 := (HS0.out.2.2).cell HC.out.2.2.1 (by simp)
          have y1 := (HS0.out.2.2).cell HC.out.2.2.2 (by simp)
          go_upto_region 14 with fail
          go_quiet (fail)
          clear z0 z1 y0 y1
          obtain ⟨wx1, hwx1⟩ : ∃ wx, wx = wr.drewN nq := ⟨_, rfl⟩
          have kwx1 : Kept [] wr wx1 := by rw [hwx1]; exact (Kept.refl [] wr).drewN' _
          rw [← hwx1]
          clear hwx1
          have HS1 := @hideH _ (And.intro HS0.out.1 (And.intro (HS0.out.2.1.kept kwx1 (by simp)) (HS0.out.2.2.then kwx1)))
          have HLE := @hideH _ hle
          clear kwx1 HQ hle
          have HQ := @hideH _ (show q ≤ 4000000000002 by have := HO.out.2; have := HO6.out.1; have := HQK.out; omega)
          have z0 := (HS1.out.2.2).cell HC.out.1 (by simp)
          have z1 := (HS1.out.2.2).cell HC.out.2.1 (by simp)
          have y0 := (HS1.out.2.2).cell HC.out.2.2.1 (by simp)
          have y1 := (HS1.out.2.2).cell HC.out.2.2.2 (by simp)
          by_cases ek : e.1 = x.key
          · have ek' : (e.1 != x.key) = false := by simpa using ek
            have HMM := @hideH _ (show Mid x O (k + 1) (N) false from by have m := HM.out; rw [if_neg (fun t => HLE.out t.2), decide_eq_false HLE.out] at m; rw [if_pos ek] at m; simpa using m)
            clear ek
            go_upto_region 17 with fail
            go_quiet (fail)
            clear z0 z1 y0 y1
            obtain ⟨wz, hwz⟩ : ∃ wx, wx = wx1.drewN nq := ⟨_, rfl⟩
            have kwz : Kept [] wx1 wz := by rw [hwz]; exact (Kept.refl [] wx1).drewN' _
            rw [← hwz]
            clear hwz
            go_wp2
            go_roundw
            case rel => exact ⟨k + 1, q, pn, cn, false, N, by omega, by have := HQK.out; have := HMM.out.len; have := HS1.out.1; omega, by go_num, rfl, rfl, HS1.out.1, HMM.out, HS1.out.2.1.kept kwz (by simp), HS1.out.2.2.then kwz⟩
            case measure => simp [intOf]; omega
          · have ek' : (e.1 != x.key) = true := by simpa using ek
            have HMM := @hideH _ (show Mid x O (k + 1) (N ++ [e]) false from by have m := HM.out; rw [if_neg (fun t => HLE.out t.2), decide_eq_false HLE.out] at m; rw [if_neg ek] at m; simpa using m)
            clear ek
            go_upto_region 17 with fail
            go_quiet (fail)
            clear z0 z1 y0 y1
            obtain ⟨wz, hwz⟩ : ∃ wx, wx = wx1.drewN nq := ⟨_, rfl⟩
            have kwz : Kept [] wx1 wz := by rw [hwz]; exact (Kept.refl [] wx1).drewN' _
            rw [← hwz]
            clear hwz
            have HSZ := @hideH _ (And.intro HS1.out.1 (And.intro (HS1.out.2.1.kept kwz (by simp)) (HS1.out.2.2.then kwz)))
            clear kwz
            have z0 := (HSZ.out.2.2).cell HC.out.1 (by simp)
            have z1 := (HSZ.out.2.2).cell HC.out.2.1 (by simp)
            have y0 := (HSZ.out.2.2).cell HC.out.2.2.1 (by simp)
            have y1 := (HSZ.out.2.2).cell HC.out.2.2.2 (by simp)
            clear y0 y1
            obtain ⟨wl, hwl⟩ : ∃ wx, wx = wz.alloc (.cells #[.int .i64 e.1, .int .u64 e.2] 47) := ⟨_, rfl⟩
            have kl : Kept [] wz wl := by rw [hwl]; exact (Kept.refl [] wz).alloc _
            have hsrc := src_ent (P := Tryz.prog) wz 36 47 Tryz.underlying36 e.1 e.2
            skip
            rw [← hwl] at hsrc
            have R7 := HSZ.out.2.1.kept kl (by simp)
            unfold Es at R7
            rw [← HSZ.out.1] at R7
            have hba := (HSZ.out.2.2.then kl).size
            have HKL := @hideH _ kl
            clear kl
            go_upto_region 13 with (at_builtin; rw [← hwl]; refine wpList_append_row2 rfl (.tmp 68) (.tmp 73) 36 rfl w6.heap.size 47 infE (.agg #[.int .i64 0, .int .u64 0]) 2 16 Tryz.underlying36 HIE.out.1 HIE.out.2.1 HIE.out.2.2.1 HIE.out.2.2.2 rfl _ _ _ (by rfl) R7 _ 1 _ (by rfl) hsrc (by have e1 := HQ.out; omega) (by have e1 := HQ.out; unfold maxLen; omega) (by have e1 := HQ.out; omega) hba ?_; intro v' wy r8 k8 o8; obtain ⟨pwy, cwy, hv', -⟩ := Row.shape r8; subst hv'; have HX8 := @hideH _ (And.intro r8 k8); clear r8 k8 o8 R7 hsrc hba hwl)
            have HSY := @hideH _ (show q + 1 = (N ++ [e]).length ∧ Es wy w6.heap.size (.slice pwy (q + 1) cwy) (N ++ [e]) ∧ Kept [] w6 wy from ⟨by rw [List.length_append, ← HSZ.out.1]; rfl, Es.snoc (w := wy) (x := e) (by rw [← HSZ.out.1]; exact HX8.out.1), (HSZ.out.2.2.then HKL.out).trans HX8.out.2 (fun y hy => .inr (Row.lt HSZ.out.2.1 y (own_mem.1 hy)).1)⟩)
            clear HX8 HKL
            clear z0 z1
            go_wp2
            go_roundw
            case rel => exact ⟨k + 1, q + 1, pwy, cwy, false, N ++ [e], by omega, by have := HMM.out.len; have := HSY.out.1; omega, by go_num, rfl, rfl, HSY.out.1, HMM.out, HSY.out.2.1, HSY.out.2.2⟩
            case measure => simp [intOf]; omega
        have z0 := (HS0.out.2.2).cell HC.out.1 (by simp)
        have z1 := (HS0.out.2.2).cell HC.out.2.1 (by simp)
        have y0 := (HS0.out.2.2).cell HC.out.2.2.1 (by simp)
        have y1 := (HS0.out.2.2).cell HC.out.2.2.2 (by simp)
        go_upto_region 14 with fail
        go_quiet (fail)
        clear z0 z1 y0 y1
        obtain ⟨wx1, hwx1⟩ : ∃ wx, wx = wr.drewN nq := ⟨_, rfl⟩
        have kwx1 : Kept [] wr wx1 := by rw [hwx1]; exact (Kept.refl [] wr).drewN' _
        rw [← hwx1]
        clear hwx1
        have HS1 := @hideH _ (And.intro HS0.out.1 (And.intro (HS0.out.2.1.kept kwx1 (by simp)) (HS0.out.2.2.then kwx1)))
        have HLE := @hideH _ hle
        clear kwx1 hle
        have z0 := (HS1.out.2.2).cell HC.out.1 (by simp)
        have z1 := (HS1.out.2.2).cell HC.out.2.1 (by simp)
        have y0 := (HS1.out.2.2).cell HC.out.2.2.1 (by simp)
        have y1 := (HS1.out.2.2).cell HC.out.2.2.2 (by simp)
        clear z0 z1
        obtain ⟨wl, hwl⟩ : ∃ wx, wx = wx1.alloc (.cells #[.int .i64 x.key, .int .u64 x.val] 47) := ⟨_, rfl⟩
        have kl : Kept [] wx1 wl := by rw [hwl]; exact (Kept.refl [] wx1).alloc _
        have hsrc := src_ent (P := Tryz.prog) wx1 36 47 Tryz.underlying36 (x.key, x.val).1 (x.key, x.val).2
        dsimp only at hsrc
        rw [← hwl] at hsrc
        have R7 := HS1.out.2.1.kept kl (by simp)
        unfold Es at R7
        rw [← HS1.out.1] at R7
        have hba := (HS1.out.2.2.then kl).size
        have HKL := @hideH _ kl
        clear kl
        go_upto_region 16 with (at_builtin; rw [← hwl]; refine wpList_append_row2 rfl (.tmp 52) (.tmp 58) 36 rfl w6.heap.size 47 infE (.agg #[.int .i64 0, .int .u64 0]) 2 16 Tryz.underlying36 HIE.out.1 HIE.out.2.1 HIE.out.2.2.1 HIE.out.2.2.2 rfl _ _ _ (by rfl) R7 _ 1 _ (by rfl) hsrc (by have e1 := HQ.out; omega) (by have e1 := HQ.out; unfold maxLen; omega) (by have e1 := HQ.out; omega) hba ?_; intro v' wx2 r8 k8 o8; obtain ⟨pwx2, cwx2, hv', -⟩ := Row.shape r8; subst hv'; have HX8 := @hideH _ (And.intro r8 k8); clear r8 k8 o8 R7 hsrc hba hwl)
        have HS2 := @hideH _ (show q + 1 = (N ++ [(x.key, x.val)]).length ∧ Es wx2 w6.heap.size (.slice pwx2 (q + 1) cwx2) (N ++ [(x.key, x.val)]) ∧ Kept [] w6 wx2 from ⟨by rw [List.length_append, ← HS1.out.1]; rfl, Es.snoc (w := wx2) (x := (x.key, x.val)) (by rw [← HS1.out.1]; exact HX8.out.1), (HS1.out.2.2.then HKL.out).trans HX8.out.2 (fun y hy => .inr (Row.lt HS1.out.2.1 y (own_mem.1 hy)).1)⟩)
        clear HX8 HKL
        clear y0 y1 HQ
        have HQ := @hideH _ (show (q + 1) ≤ 4000000000002 by have := HO.out.2; have := HO6.out.1; have := HQK.out; omega)
        have z0 := (HS2.out.2.2).cell HC.out.1 (by simp)
        have z1 := (HS2.out.2.2).cell HC.out.2.1 (by simp)
        have y0 := (HS2.out.2.2).cell HC.out.2.2.1 (by simp)
        have y1 := (HS2.out.2.2).cell HC.out.2.2.2 (by simp)
        by_cases ek : e.1 = x.key
        · have ek' : (e.1 != x.key) = false := by simpa using ek
          have HMM := @hideH _ (show Mid x O (k + 1) ((N ++ [(x.key, x.val)])) true from by have m := HM.out; rw [if_pos ⟨rfl, HLE.out⟩, decide_eq_true HLE.out] at m; rw [if_pos ek] at m; simpa using m)
          clear ek
          go_upto_region 17 with fail
          go_quiet (fail)
          clear z0 z1 y0 y1
          obtain ⟨wz, hwz⟩ : ∃ wx, wx = wx2.drewN nq := ⟨_, rfl⟩
          have kwz : Kept [] wx2 wz := by rw [hwz]; exact (Kept.refl [] wx2).drewN' _
          rw [← hwz]
          clear hwz
          go_wp2
          go_roundw
          case rel => exact ⟨k + 1, (q + 1), pwx2, cwx2, true, (N ++ [(x.key, x.val)]), by omega, by have := HQK.out; have := HMM.out.len; have := HS2.out.1; omega, by go_num, rfl, rfl, HS2.out.1, HMM.out, HS2.out.2.1.kept kwz (by simp), HS2.out.2.2.then kwz⟩
          case measure => simp [intOf]; omega
        · have ek' : (e.1 != x.key) = true := by simpa using ek
          have HMM := @hideH _ (show Mid x O (k + 1) ((N ++ [(x.key, x.val)]) ++ [e]) true from by have m := HM.out; rw [if_pos ⟨rfl, HLE.out⟩, decide_eq_true HLE.out] at m; rw [if_neg ek] at m; simpa using m)
          clear ek
          go_upto_region 17 with fail
          go_quiet (fail)
          clear z0 z1 y0 y1
          obtain ⟨wz, hwz⟩ : ∃ wx, wx = wx2.drewN nq := ⟨_, rfl⟩
          have kwz : Kept [] wx2 wz := by rw [hwz]; exact (Kept.refl [] wx2).drewN' _
          rw [← hwz]
          clear hwz
          have HSZ := @hideH _ (And.intro HS2.out.1 (And.intro (HS2.out.2.1.kept kwz (by simp)) (HS2.out.2.2.then kwz)))
          clear kwz
          have z0 := (HSZ.out.2.2).cell HC.out.1 (by simp)
          have z1 := (HSZ.out.2.2).cell HC.out.2.1 (by simp)
          have y0 := (HSZ.out.2.2).cell HC.out.2.2.1 (by simp)
          have y1 := (HSZ.out.2.2).cell HC.out.2.2.2 (by simp)
          clear y0 y1
          obtain ⟨wl, hwl⟩ : ∃ wx, wx = wz.alloc (.cells #[.int .i64 e.1, .int .u64 e.2] 47) := ⟨_, rfl⟩
          have kl : Kept [] wz wl := by rw [hwl]; exact (Kept.refl [] wz).alloc _
          have hsrc := src_ent (P := Tryz.prog) wz 36 47 Tryz.underlying36 e.1 e.2
          skip
          rw [← hwl] at hsrc
          have R7 := HSZ.out.2.1.kept kl (by simp)
          unfold Es at R7
          rw [← HSZ.out.1] at R7
          have hba := (HSZ.out.2.2.then kl).size
          have HKL := @hideH _ kl
          clear kl
          go_upto_region 13 with (at_builtin; rw [← hwl]; refine wpList_append_row2 rfl (.tmp 68) (.tmp 73) 36 rfl w6.heap.size 47 infE (.agg #[.int .i64 0, .int .u64 0]) 2 16 Tryz.underlying36 HIE.out.1 HIE.out.2.1 HIE.out.2.2.1 HIE.out.2.2.2 rfl _ _ _ (by rfl) R7 _ 1 _ (by rfl) hsrc (by have e1 := HQ.out; omega) (by have e1 := HQ.out; unfold maxLen; omega) (by have e1 := HQ.out; omega) hba ?_; intro v' wy r8 k8 o8; obtain ⟨pwy, cwy, hv', -⟩ := Row.shape r8; subst hv'; have HX8 := @hideH _ (And.intro r8 k8); clear r8 k8 o8 R7 hsrc hba hwl)
          have HSY := @hideH _ (show (q + 1) + 1 = ((N ++ [(x.key, x.val)]) ++ [e]).length ∧ Es wy w6.heap.size (.slice pwy ((q + 1) + 1) cwy) ((N ++ [(x.key, x.val)]) ++ [e]) ∧ Kept [] w6 wy from ⟨by rw [List.length_append, ← HSZ.out.1]; rfl, Es.snoc (w := wy) (x := e) (by rw [← HSZ.out.1]; exact HX8.out.1), (HSZ.out.2.2.then HKL.out).trans HX8.out.2 (fun y hy => .inr (Row.lt HSZ.out.2.1 y (own_mem.1 hy)).1)⟩)
          clear HX8 HKL
          clear z0 z1
          go_wp2
          go_roundw
          case rel => exact ⟨k + 1, (q + 1) + 1, pwy, cwy, true, (N ++ [(x.key, x.val)]) ++ [e], by omega, by have := HMM.out.len; have := HSY.out.1; omega, by go_num, rfl, rfl, HSY.out.1, HMM.out, HSY.out.2.1, HSY.out.2.2⟩
          case measure => simp [intOf]; omega
end Go.Proofs.YtocpagpkpibmaaaGreatDoor

/-
  OWN WORK. The model (layer 18): how the document's State lies.
-/
namespace Go.Proofs.YtocpagpkpibmaaaGreatDoor
open Go.RowKit
set_option linter.unusedVariables false
abbrev Pt := Tn × Value × Value × Value
def Cf.cs (c : Cf) : List Value := [.int .i64 c.pages, .int .i64 c.slots, .int .i64 c.log, .int .i64 c.frames, .int .i64 c.table, .int .i64 c.keys]
def ocells : List Pt → List Value
  | [] => []
  | x :: r => .int .i64 x.1.id :: x.2.1 :: x.2.2.1 :: x.2.2.2 :: ocells r
theorem ocells_length : ∀ (l : List Pt), (ocells l).length = l.length * 4
  | [] => rfl
  | x :: r => by simp [ocells, ocells_length r]; omega
theorem ocells_at : ∀ {l : List Pt} {i : Nat} {x : Pt}, l[i]? = some x → (ocells l)[i * 4]? = some (.int .i64 x.1.id) ∧ (ocells l)[i * 4 + 1]? = some x.2.1 ∧ (ocells l)[i * 4 + 2]? = some x.2.2.1 ∧ (ocells l)[i * 4 + 3]? = some x.2.2.2
  | [], i, x, h => by simp at h
  | y :: r, 0, x, h => by
    simp at h
    subst h
    exact ⟨rfl, rfl, rfl, rfl⟩
  | y :: r, i + 1, x, h => by
    have := ocells_at (l := r) (i := i) (x := x) (by simpa using h)
    rw [show (i + 1) * 4 = i * 4 + 4 by omega]
    exact this
theorem ocells_append (a b : List Pt) : ocells (a ++ b) = ocells a ++ ocells b := by
  induction a with
  | nil => rfl
  | cons x r ih => simp [ocells, ih]
def three (p : Pt) : List (Value × (World → Prop)) := [(p.2.1, fun w => Ns w 0 p.2.1 p.1.pages), (p.2.2.1, fun w => Cs w 0 p.2.2.1 p.1.chs), (p.2.2.2, fun w => Ns w 0 p.2.2.2 p.1.lens)]
def things (vd vo : Value) (D : List (List Chg × Value)) (P : List Pt) : List (Value × (World → Prop)) :=
  (vd, fun w => Row w 0 1 vd D.length (D.map Prod.snd)) :: (vo, fun w => Row w 0 4 vo P.length (ocells P)) :: (D.map (fun d => (d.2, fun w => Cs w 0 d.2 d.1)) ++ P.flatMap three)
structure SrP (w : World) (g : Nat) (c : Cf) (vd vo : Value) (u : Int) (D : List (List Chg × Value)) (P : List Pt) : Prop where
  box : Blk w g 100 (c.cs ++ [vd, vo, .int .i64 u])
  own : Own w g (things vd vo D P)
def SrP.st (u : Int) (D : List (List Chg × Value)) (P : List Pt) : St := ⟨D.map Prod.fst, P.map Prod.fst, u⟩
section
variable {w : World} {g : Nat} {c : Cf} {vd vo : Value} {u : Int} {D : List (List Chg × Value)} {P : List Pt}
theorem SrP.rowD (h : SrP w g c vd vo u D P) : Row w 0 1 vd D.length (D.map Prod.snd) := h.own.holds _ (by unfold things; exact List.mem_cons_self ..)
theorem SrP.rowO (h : SrP w g c vd vo u D P) : Row w 0 4 vo P.length (ocells P) := h.own.holds (vo, fun w => Row w 0 4 vo P.length (ocells P)) (by unfold things; simp)
theorem SrP.done (h : SrP w g c vd vo u D P) {d : List Chg × Value} (hd : d ∈ D) : Cs w 0 d.2 d.1 := h.own.holds (d.2, fun w => Cs w 0 d.2 d.1) (by unfold things; exact List.mem_cons_of_mem _ (List.mem_cons_of_mem _ (List.mem_append_left _ (List.mem_map_of_mem hd))))
theorem SrP.three (h : SrP w g c vd vo u D P) {p : Pt} (hp : p ∈ P) : Ns w 0 p.2.1 p.1.pages ∧ Cs w 0 p.2.2.1 p.1.chs ∧ Ns w 0 p.2.2.2 p.1.lens := by
  have q : ∀ x ∈ Go.Proofs.YtocpagpkpibmaaaGreatDoor.three p, x.2 w := fun x hx => h.own.holds x (by unfold things; exact List.mem_cons_of_mem _ (List.mem_cons_of_mem _ (List.mem_append_right _ (List.mem_flatMap.2 ⟨p, hp, hx⟩))))
  exact ⟨q (p.2.1, fun w => Ns w 0 p.2.1 p.1.pages) (by unfold Go.Proofs.YtocpagpkpibmaaaGreatDoor.three; simp), q (p.2.2.1, fun w => Cs w 0 p.2.2.1 p.1.chs) (by unfold Go.Proofs.YtocpagpkpibmaaaGreatDoor.three; simp), q (p.2.2.2, fun w => Ns w 0 p.2.2.2 p.1.lens) (by unfold Go.Proofs.YtocpagpkpibmaaaGreatDoor.three; simp)⟩
theorem SrP.at {p : Option Addr} {n k : Nat} (h : SrP w g c vd (.slice p n k) u D P) {j : Nat} {x : Pt} (hj : P[j]? = some x) :
    ∃ gl, p = some ⟨gl, 0, none⟩ ∧ w.cell? ⟨gl, j * 4, none⟩ = some (.int .i64 x.1.id) ∧ w.cell? ⟨gl, j * 4 + 1, none⟩ = some x.2.1 ∧ w.cell? ⟨gl, j * 4 + 2, none⟩ = some x.2.2.1 ∧ w.cell? ⟨gl, j * 4 + 3, none⟩ = some x.2.2.2 := by
  have hjl := (List.getElem?_eq_some_iff.1 hj).1
  obtain ⟨p', c', e, h3, h4⟩ := Row.shape h.rowO
  cases e
  obtain ⟨gl, rfl, h6, h7, h8, h9⟩ := Row.pos h.rowO (by omega)
  obtain ⟨a0, a1, a2, a3⟩ := ocells_at hj
  exact ⟨gl, rfl, h8 _ _ a0, h8 _ _ a1, h8 _ _ a2, h8 _ _ a3⟩
theorem SrP.atD {p : Option Addr} {n k : Nat} (h : SrP w g c (.slice p n k) vo u D P) {j : Nat} {d : List Chg × Value} (hj : D[j]? = some d) : ∃ gl, p = some ⟨gl, 0, none⟩ ∧ w.cell? ⟨gl, j, none⟩ = some d.2 := by
  have hjl := (List.getElem?_eq_some_iff.1 hj).1
  obtain ⟨p', c', e, h3, h4⟩ := Row.shape h.rowD
  cases e
  obtain ⟨gl, rfl, h6, h7, h8, h9⟩ := Row.pos h.rowD (by omega)
  exact ⟨gl, rfl, h8 _ _ (by rw [List.getElem?_map, hj]; rfl)⟩
theorem SrP.then {w' : World} (h : SrP w g c vd vo u D P) (k : Kept [] w w') : SrP w' g c vd vo u D P := ⟨h.box.kept k (by simp), h.own.then k (by simp)⟩
end
end Go.Proofs.YtocpagpkpibmaaaGreatDoor

/-
  OWN WORK (by mkpn1.py). The document's State (layer 18): small things that change nothing.
-/
namespace Go.Proofs.YtocpagpkpibmaaaGreatDoor
open Go.RowKit
set_option linter.unusedVariables false
set_option linter.unusedSimpArgs false

set_option maxRecDepth 20000 in
set_option maxHeartbeats 1600000 in
theorem rIn (n l h : Int) (w : World) : Calls Tryz.prog 79 #[.int .i64 n, .int .i64 l, .int .i64 h] w fun e w' => e = .returned (.bool (decide (l ≤ n ∧ n ≤ h))) ∧ w' = w := by
  obtain ⟨E, hE⟩ : ∃ E, E = decide (l ≤ n ∧ n ≤ h) := ⟨_, rfl⟩
  rw [← hE]
  by_cases h1 : l ≤ n
  · by_cases h2 : n ≤ h
    · skip
      have HV := @hideH _ (show E = true by rw [hE]; exact decide_eq_true (by omega))
      clear hE
      go_enter Tryz.func79, Tryz.ntmps79
      go_wp2
      go_ret
      exact ⟨by rw [HV.out]; rfl, by first | rfl | trivial⟩
    · skip
      have HV := @hideH _ (show E = false by rw [hE]; exact decide_eq_false (by omega))
      clear hE
      go_enter Tryz.func79, Tryz.ntmps79
      go_wp2
      go_ret
      exact ⟨by rw [HV.out]; rfl, by first | rfl | trivial⟩
  · skip
    have HV := @hideH _ (show E = false by rw [hE]; exact decide_eq_false (by omega))
    clear hE
    go_enter Tryz.func79, Tryz.ntmps79
    go_wp2
    go_ret
    exact ⟨by rw [HV.out]; rfl, by first | rfl | trivial⟩
set_option maxRecDepth 20000 in
set_option maxHeartbeats 6400000 in
theorem rMay (c : Cf) (w : World) : Calls Tryz.prog 46 #[.agg #[.int .i64 c.pages, .int .i64 c.slots, .int .i64 c.log, .int .i64 c.frames, .int .i64 c.table, .int .i64 c.keys]] w fun e w' => e = .returned (.bool (decide (mayC c))) ∧ Kept [] w w' := by
  obtain ⟨w1, hw1⟩ : ∃ wx, wx = w.alloc (.cells #[.int .i64 c.pages, .int .i64 c.slots, .int .i64 c.log, .int .i64 c.frames, .int .i64 c.table, .int .i64 c.keys] 25) := ⟨_, rfl⟩
  have HK := @hideH _ (show Kept [] w w1 by rw [hw1]; exact (Kept.refl [] w).alloc _)
  have B : Blk w1 w.heap.size 25 [.int .i64 c.pages, .int .i64 c.slots, .int .i64 c.log, .int .i64 c.frames, .int .i64 c.table, .int .i64 c.keys] := by rw [hw1]; exact Blk.new w _ _
  have c0 := B.cell (j := 0) rfl
  have c1 := B.cell (j := 1) rfl
  have c2 := B.cell (j := 2) rfl
  have c3 := B.cell (j := 3) rfl
  have c4 := B.cell (j := 4) rfl
  have c5 := B.cell (j := 5) rfl
  clear B
  go_enter Tryz.func46, Tryz.ntmps46
  go_upto_region 1 with fail
  rw [← hw1]
  clear hw1
  have HQ := @hideH _ (rIn c.pages 1 16 w1)
  by_cases h0 : 1 ≤ c.pages ∧ c.pages ≤ 16
  rotate_left
  · rw [decide_eq_false h0] at HQ
    have HE := @hideH _ (decide_eq_false (fun q : mayC c => h0 q.1))
    clear h0
    go_wp2_with fail
    refine HQ.out.mono ?_
    clear HQ
    rintro e wx ⟨rfl, hwx⟩
    rw [hwx]
    clear hwx wx
    go_wp2
    go_ret
    exact ⟨by rw [HE.out]; rfl, HK.out⟩
  rw [decide_eq_true h0] at HQ
  have H0 := @hideH _ h0
  clear h0
  go_wp2_with fail
  refine HQ.out.mono ?_
  clear HQ
  rintro e wx ⟨rfl, hwx⟩
  rw [hwx]
  clear hwx wx
  have HQ := @hideH _ (rIn c.slots 1 8 w1)
  by_cases h1 : 1 ≤ c.slots ∧ c.slots ≤ 8
  rotate_left
  · rw [decide_eq_false h1] at HQ
    have HE := @hideH _ (decide_eq_false (fun q : mayC c => h1 q.2.1))
    clear h1
    go_wp2_with fail
    refine HQ.out.mono ?_
    clear HQ
    rintro e wx ⟨rfl, hwx⟩
    rw [hwx]
    clear hwx wx
    go_wp2
    go_ret
    exact ⟨by rw [HE.out]; rfl, HK.out⟩
  rw [decide_eq_true h1] at HQ
  have H1 := @hideH _ h1
  clear h1
  go_wp2_with fail
  refine HQ.out.mono ?_
  clear HQ
  rintro e wx ⟨rfl, hwx⟩
  rw [hwx]
  clear hwx wx
  have HQ := @hideH _ (rIn c.log 1024 65536 w1)
  by_cases h2 : 1024 ≤ c.log ∧ c.log ≤ 65536
  rotate_left
  · rw [decide_eq_false h2] at HQ
    have HE := @hideH _ (decide_eq_false (fun q : mayC c => h2 q.2.2.1))
    clear h2
    go_wp2_with fail
    refine HQ.out.mono ?_
    clear HQ
    rintro e wx ⟨rfl, hwx⟩
    rw [hwx]
    clear hwx wx
    go_wp2
    go_ret
    exact ⟨by rw [HE.out]; rfl, HK.out⟩
  rw [decide_eq_true h2] at HQ
  have H2 := @hideH _ h2
  clear h2
  go_wp2_with fail
  refine HQ.out.mono ?_
  clear HQ
  rintro e wx ⟨rfl, hwx⟩
  rw [hwx]
  clear hwx wx
  have HQ := @hideH _ (rIn c.frames 2 16 w1)
  by_cases h3 : 2 ≤ c.frames ∧ c.frames ≤ 16
  rotate_left
  · rw [decide_eq_false h3] at HQ
    have HE := @hideH _ (decide_eq_false (fun q : mayC c => h3 q.2.2.2.1))
    clear h3
    go_wp2_with fail
    refine HQ.out.mono ?_
    clear HQ
    rintro e wx ⟨rfl, hwx⟩
    rw [hwx]
    clear hwx wx
    go_wp2
    go_ret
    exact ⟨by rw [HE.out]; rfl, HK.out⟩
  rw [decide_eq_true h3] at HQ
  have H3 := @hideH _ h3
  clear h3
  go_wp2_with fail
  refine HQ.out.mono ?_
  clear HQ
  rintro e wx ⟨rfl, hwx⟩
  rw [hwx]
  clear hwx wx
  have HQ := @hideH _ (rIn c.table 1 8 w1)
  by_cases h4 : 1 ≤ c.table ∧ c.table ≤ 8
  rotate_left
  · rw [decide_eq_false h4] at HQ
    have HE := @hideH _ (decide_eq_false (fun q : mayC c => h4 q.2.2.2.2.1))
    clear h4
    go_wp2_with fail
    refine HQ.out.mono ?_
    clear HQ
    rintro e wx ⟨rfl, hwx⟩
    rw [hwx]
    clear hwx wx
    go_wp2
    go_ret
    exact ⟨by rw [HE.out]; rfl, HK.out⟩
  rw [decide_eq_true h4] at HQ
  have H4 := @hideH _ h4
  clear h4
  go_wp2_with fail
  refine HQ.out.mono ?_
  clear HQ
  rintro e wx ⟨rfl, hwx⟩
  rw [hwx]
  clear hwx wx
  have HQ := @hideH _ (rIn c.keys 1 1048576 w1)
  by_cases h5 : 1 ≤ c.keys ∧ c.keys ≤ 1048576
  rotate_left
  · rw [decide_eq_false h5] at HQ
    have HE := @hideH _ (decide_eq_false (fun q : mayC c => h5 q.2.2.2.2.2))
    clear h5
    go_wp2_with fail
    refine HQ.out.mono ?_
    clear HQ
    rintro e wx ⟨rfl, hwx⟩
    rw [hwx]
    clear hwx wx
    go_wp2
    go_ret
    exact ⟨by rw [HE.out]; rfl, HK.out⟩
  rw [decide_eq_true h5] at HQ
  have H5 := @hideH _ h5
  clear h5
  go_wp2_with fail
  refine HQ.out.mono ?_
  clear HQ
  rintro e wx ⟨rfl, hwx⟩
  rw [hwx]
  clear hwx wx
  have HE := @hideH _ (decide_eq_true (show mayC c from ⟨H0.out, H1.out, H2.out, H3.out, H4.out, H5.out⟩))
  go_wp2
  go_ret
  exact ⟨by rw [HE.out]; rfl, HK.out⟩
theorem fold_take {l : List Chg} {key : Int} {p : Int × Bool} {j : Nat} {x : Chg} (h : l[j]? = some x) : (l.take (j + 1)).foldl (stepV key) p = stepV key ((l.take j).foldl (stepV key) p) x := by
  rw [List.take_add_one, h, List.foldl_append]
  rfl
set_option maxRecDepth 20000 in
set_option maxHeartbeats 1600000 in
theorem rValue {v0 : Value} {l : List Chg} {base : Nat} (key v : Int) (th : Bool) (w : World) (h : Cs w base v0 l) : Calls Tryz.prog 101 #[v0, .int .i64 key, .int .u64 v, .bool th] w fun e w' => e = .returned (.tuple #[.int .u64 (valueL l key (v, th)).1, .bool (valueL l key (v, th)).2]) ∧ w' = w := by
  obtain ⟨p, c, hv, hnc, hcm⟩ := h.shape
  subst hv
  obtain ⟨n, hn⟩ : ∃ n, n = l.length := ⟨_, rfl⟩
  have HC := @hideH _ h
  have HN := @hideH _ (And.intro hn (Nat.le_trans hnc hcm))
  rw [← hn]
  clear h hn hnc hcm
  go_enter Tryz.func101, Tryz.ntmps101
  go_wp2
  go_loopw [2, 3, 10] (fun vv vt vi wr => ∃ j : Nat, j ≤ n ∧ vi = .int .i64 j ∧ vv = .int .u64 ((l.take j).foldl (stepV key) (v, th)).1 ∧ vt = .bool ((l.take j).foldl (stepV key) (v, th)).2 ∧ wr = w) (fun _ _ vi _ => n - (intOf vi).toNat)
  case atStart => exact ⟨0, Nat.zero_le _, rfl, rfl, rfl, rfl⟩
  case round =>
    obtain ⟨j, hj, rfl, rfl, rfl, hw⟩ := hrel
    subst hw
    obtain ⟨q, hq⟩ : ∃ q, q = (l.take j).foldl (stepV key) (v, th) := ⟨_, rfl⟩
    rw [← hq]
    have HQ := @hideH _ hq
    clear hq
    obtain ⟨q1, q2⟩ := q
    dsimp only
    by_cases hjl : j < n
    · have hjl' : (j : Int) < (n : Int) := by omega
      have hj0 : (0 : Int) ≤ (j : Int) := by omega
      have wj : IntKind.i64.wrap ((j : Int) + 1) = (j : Int) + 1 := wrap_i64_of (by omega) (by have e1 := HN.out.1; have e2 := HN.out.2; unfold maxLen at e2; omega)
      obtain ⟨x, hx⟩ : ∃ x, l[j]? = some x := ⟨_, List.getElem?_eq_getElem (by have := HN.out.1; omega)⟩
      obtain ⟨gl, hp, -, -, d0, d1, d2⟩ := HC.out.at hx
      subst hp
      have HF := @hideH _ (fold_take (key := key) (p := (v, th)) hx)
      rw [← HQ.out] at HF
      clear hx
      by_cases e : x.key = key
      · have e' : (x.key == key) = true := by simpa using e
        have HX := @hideH _ (show stepV key (q1, q2) x = (x.val, !x.gone) by simp [stepV, e])
        clear e
        go_wp2
        go_roundw
        case rel => exact ⟨j + 1, by omega, by go_num, by rw [HF.out, HX.out], by rw [HF.out, HX.out], by first | rfl | trivial⟩
        case measure => simp [intOf]; omega
      · have e' : (x.key == key) = false := by simpa using e
        have HX := @hideH _ (show stepV key (q1, q2) x = (q1, q2) by simp [stepV, e])
        clear e
        go_wp2
        go_roundw
        case rel => exact ⟨j + 1, by omega, by go_num, by rw [HF.out, HX.out], by rw [HF.out, HX.out], by first | rfl | trivial⟩
        case measure => simp [intOf]; omega
    · have hjl' : ¬ (j : Int) < (n : Int) := by omega
      have HV := @hideH _ (show valueL l key (v, th) = shutV (q1, q2) by rw [valueL, HQ.out, List.take_of_length_le (by have := HN.out.1; omega)])
      cases q2
      · go_wp2
        go_ret2
        exact ⟨by rw [HV.out]; rfl, by first | rfl | trivial⟩
      · go_wp2
        go_ret2
        exact ⟨by rw [HV.out]; rfl, by first | rfl | trivial⟩
end Go.Proofs.YtocpagpkpibmaaaGreatDoor

/-
  OWN WORK (by mkpn2.py). The document's State (layer 18): New, at, Kept, fits, sees.
-/
namespace Go.Proofs.YtocpagpkpibmaaaGreatDoor
open Go.RowKit
set_option linter.unusedVariables false
set_option linter.unusedSimpArgs false

theorem sr_new (w : World) (c : Cf) : SrP (w.alloc (.cells #[.int .i64 c.pages, .int .i64 c.slots, .int .i64 c.log, .int .i64 c.frames, .int .i64 c.table, .int .i64 c.keys, .slice none 0 0, .slice none 0 0, .int .i64 0] 100)) w.heap.size c (.slice none 0 0) (.slice none 0 0) 0 [] [] :=
  ⟨Blk.new w _ (c.cs ++ [.slice none 0 0, .slice none 0 0, .int .i64 0]), by
    unfold things
    refine ⟨fun x hx => ?_, fun x hx => ?_, fun x hx y hy => ?_, ?_⟩
    · simp at hx
      rcases hx with rfl | rfl
      · exact Row.nil _ _ _
      · exact Row.nil _ _ _
    · simp at hx
      rcases hx with rfl | rfl
      · exact Row.stays _ _ _ _ _
      · exact Row.stays _ _ _ _ _
    · simp at hx
      rcases hx with rfl | rfl <;> cases hy
    · refine List.pairwise_cons.2 ⟨fun x hx => ?_, by simp⟩
      simp at hx
      subst hx
      exact Ap.none rfl⟩
set_option maxRecDepth 20000 in
set_option maxHeartbeats 1600000 in
theorem rNew (c : Cf) (w : World) : Calls Tryz.prog 27 #[.agg #[.int .i64 c.pages, .int .i64 c.slots, .int .i64 c.log, .int .i64 c.frames, .int .i64 c.table, .int .i64 c.keys]] w fun e w' => (mayC c ∧ ∃ g, w.heap.size ≤ g ∧ e = .returned (.tuple #[.pointer (some ⟨g, 0, none⟩), .int .i64 0]) ∧ SrP w' g c (.slice none 0 0) (.slice none 0 0) 0 [] [] ∧ Kept [] w w') ∨ (¬ mayC c ∧ e = .returned (.tuple #[.pointer none, .int .i64 260]) ∧ Kept [] w w') := by
  obtain ⟨w1, hw1⟩ : ∃ wx, wx = w.alloc (.cells #[.int .i64 c.pages, .int .i64 c.slots, .int .i64 c.log, .int .i64 c.frames, .int .i64 c.table, .int .i64 c.keys] 25) := ⟨_, rfl⟩
  have k1 : Kept [] w w1 := by rw [hw1]; exact (Kept.refl [] w).alloc _
  have B : Blk w1 w.heap.size 25 [.int .i64 c.pages, .int .i64 c.slots, .int .i64 c.log, .int .i64 c.frames, .int .i64 c.table, .int .i64 c.keys] := by rw [hw1]; exact Blk.new w _ _
  have c0 := B.cell (j := 0) rfl
  have c1 := B.cell (j := 1) rfl
  have c2 := B.cell (j := 2) rfl
  have c3 := B.cell (j := 3) rfl
  have c4 := B.cell (j := 4) rfl
  have c5 := B.cell (j := 5) rfl
  clear B
  go_enter Tryz.func27, Tryz.ntmps27
  go_upto_region 1 with fail
  rw [← hw1]
  clear hw1
  go_wp2_with fail
  refine (rMay c w1).mono ?_
  rintro e w2 ⟨rfl, k2⟩
  replace c0 := k2.cell c0 (by simp)
  replace c1 := k2.cell c1 (by simp)
  replace c2 := k2.cell c2 (by simp)
  replace c3 := k2.cell c3 (by simp)
  replace c4 := k2.cell c4 (by simp)
  replace c5 := k2.cell c5 (by simp)
  by_cases hm : mayC c
  rotate_left
  · have HM := @hideH _ hm
    have HK := @hideH _ (k1.then k2)
    rw [decide_eq_false hm]
    clear hm k1 k2
    go_wp2
    go_ret2
    exact .inr ⟨HM.out, rfl, HK.out⟩
  have HM := @hideH _ hm
  rw [decide_eq_true hm]
  have HK := @hideH _ (k1.then k2)
  clear hm k1 k2
  obtain ⟨w3, hw3⟩ : ∃ wx, wx = w2.alloc (.cells #[.int .i64 c.pages, .int .i64 c.slots, .int .i64 c.log, .int .i64 c.frames, .int .i64 c.table, .int .i64 c.keys, .slice none 0 0, .slice none 0 0, .int .i64 0] 100) := ⟨_, rfl⟩
  have HS := @hideH _ (show SrP w3 w2.heap.size c (.slice none 0 0) (.slice none 0 0) 0 [] [] by rw [hw3]; exact sr_new w2 c)
  have HK3 := @hideH _ (show Kept [] w w3 by rw [hw3]; exact HK.out.alloc _)
  go_wp2
  rw [← hw3]
  go_ret2
  exact .inl ⟨HM.out, _, HK.out.size, rfl, HS.out, HK3.out⟩
set_option maxRecDepth 20000 in
set_option maxHeartbeats 1600000 in
theorem rAt {g : Nat} {c : Cf} {vd vo : Value} {u : Int} {D : List (List Chg × Value)} {P : List Pt} (b : Int) (w : World) (h : SrP w g c vd vo u D P) : Calls Tryz.prog 80 #[.pointer (some ⟨g, 0, none⟩), .int .i64 b] w fun e w' => w' = w ∧ ∃ i : Int, e = .returned (.int .i64 i) ∧ ((i = -1 ∧ findO (P.map Prod.fst) b = none) ∨ ∃ (k : Nat) (x : Pt), i = (k : Int) ∧ P[k]? = some x ∧ x.1.id = b ∧ findO (P.map Prod.fst) b = some x.1) := by
  obtain ⟨p, k0, hv, hnc, hcm⟩ := h.rowO.shape
  subst hv
  obtain ⟨n, hn⟩ : ∃ n, n = P.length := ⟨_, rfl⟩
  have HR := @hideH _ h
  have HN := @hideH _ (And.intro hn (Nat.le_trans hnc hcm))
  have B := h.box
  rw [← hn] at B
  have c1 := B.cell (j := 7) rfl
  clear h hn hnc hcm
  clear B
  go_enter Tryz.func80, Tryz.ntmps80
  go_wp2
  go_loopw [5] (fun i wr => ∃ k : Nat, k ≤ n ∧ i = .int .i64 k ∧ wr = w ∧ Hid (∀ (i : Nat) (y : Tn), i < k → (P.map Prod.fst)[i]? = some y → y.id ≠ b)) (fun i _ => n - (intOf i).toNat)
  case atStart => exact ⟨0, Nat.zero_le _, rfl, rfl, fun i y hi => absurd hi (Nat.not_lt_zero i)⟩
  case round =>
    obtain ⟨k, hk, rfl, hw, hh⟩ := hrel
    subst hw
    by_cases hkl : k < n
    · have hkl' : (k : Int) < (n : Int) := by omega
      have h0 : (0 : Int) ≤ (k : Int) := by omega
      have wk : IntKind.i64.wrap ((k : Int) + 1) = (k : Int) + 1 := wrap_i64_of (by omega) (by have e1 := HN.out.1; have e2 := HN.out.2; unfold maxLen at e2; omega)
      obtain ⟨x, hx⟩ : ∃ x, P[k]? = some x := ⟨_, List.getElem?_eq_getElem (by have := HN.out.1; omega)⟩
      obtain ⟨gl, hp, d0, -⟩ := HR.out.at hx
      subst hp
      have HX := @hideH _ hx
      have HX' := @hideH _ (show (P.map Prod.fst)[k]? = some x.1 by rw [List.getElem?_map, hx]; rfl)
      clear hx
      by_cases e : x.1.id = b
      · have HE := @hideH _ (findO_at HX'.out e hh.out)
        have HB := @hideH _ e
        rw [e] at d0
        clear e
        go_wp2
        go_ret
        exact ⟨by first | rfl | trivial, _, rfl, .inr ⟨k, x, rfl, HX.out, HB.out, HE.out⟩⟩
      · have e' : (x.1.id == b) = false := by simpa using e
        have HB := @hideH _ e
        clear e
        go_wp2
        go_roundw
        case rel => exact ⟨k + 1, by omega, by go_num, by first | rfl | trivial, fun i y hi hy => by
          by_cases c : i = k
          · subst c; rw [HX'.out] at hy; cases hy; exact HB.out
          · exact hh.out i y (by omega) hy⟩
        case measure => simp [intOf]; omega
    · have hkl' : ¬ (k : Int) < (n : Int) := by omega
      have HE := @hideH _ (findO_no (l := P.map Prod.fst) (b := b) (fun i y hi hy => hh.out i y (by rw [List.length_map, ← HN.out.1] at hi; omega) hy))
      go_wp2
      go_ret
      exact ⟨by first | rfl | trivial, _, rfl, .inl ⟨rfl, HE.out⟩⟩
theorem sumL_take {l : List Int} {j : Nat} {x : Int} (h : l[j]? = some x) : sumL (l.take (j + 1)) = sumL (l.take j) + (46 + x) := by
  rw [List.take_add_one, h, sumL_append]
  simp [sumL]
theorem keptO_take {l : List Tn} {j : Nat} {x : Tn} (h : l[j]? = some x) : keptO (l.take (j + 1)) = keptO (l.take j) + x.kept := by
  rw [List.take_add_one, h, keptO_append]
  simp [keptO]
theorem keptO_part {l : List Tn} (h : ∀ t ∈ l, ∀ n ∈ t.lens, 1 ≤ n ∧ n ≤ 16) {j k : Nat} {x : Tn} (hx : l[j]? = some x) : 0 ≤ keptO (l.take j) ∧ 0 ≤ sumL (x.lens.take k) ∧ keptO (l.take j) + 99 + sumL (x.lens.take k) ≤ keptO l := by
  obtain ⟨hl, rfl⟩ := List.getElem?_eq_some_iff.1 hx
  have e1 : keptO l = keptO (l.take j) + (l[j].kept + keptO (l.drop (j + 1))) := by
    conv => lhs; rw [← List.take_append_drop j l, keptO_append, List.drop_eq_getElem_cons hl]
    rfl
  have e2 : sumL l[j].lens = sumL (l[j].lens.take k) + sumL (l[j].lens.drop k) := by rw [← sumL_append, List.take_append_drop]
  have hm : l[j] ∈ l := List.getElem_mem hl
  have e3 := keptO_pos (l := l.take j) (fun t ht => h t (List.mem_of_mem_take ht))
  have e4 := keptO_pos (l := l.drop (j + 1)) (fun t ht => h t (List.mem_of_mem_drop ht))
  have e5 := sumL_pos (l := l[j].lens.take k) (fun n hn => h _ hm n (List.mem_of_mem_take hn))
  have e6 := sumL_pos (l := l[j].lens.drop k) (fun n hn => h _ hm n (List.mem_of_mem_drop hn))
  unfold Tn.kept at e1
  omega
set_option maxRecDepth 20000 in
set_option maxHeartbeats 3200000 in
theorem rKept {g : Nat} {c : Cf} {vd vo : Value} {u : Int} {D : List (List Chg × Value)} {P : List Pt} (w : World) (h : SrP w g c vd vo u D P) (hl : ∀ t ∈ P.map Prod.fst, ∀ n ∈ t.lens, 1 ≤ n ∧ n ≤ 16) (hk : keptO (P.map Prod.fst) ≤ 65536) : Calls Tryz.prog 58 #[.pointer (some ⟨g, 0, none⟩)] w fun e w' => e = .returned (.int .i64 (keptO (P.map Prod.fst))) ∧ w' = w := by
  obtain ⟨p, k0, hv, hnc, hcm⟩ := h.rowO.shape
  subst hv
  obtain ⟨n, hn⟩ : ∃ n, n = P.length := ⟨_, rfl⟩
  have HR := @hideH _ h
  have HN := @hideH _ (And.intro hn (Nat.le_trans hnc hcm))
  have B := h.box
  rw [← hn] at B
  have c1 := B.cell (j := 7) rfl
  clear h hn hnc hcm
  clear B
  obtain ⟨T, hT⟩ : ∃ T, T = P.map Prod.fst := ⟨_, rfl⟩
  have HT := @hideH _ hT
  have HL := @hideH _ (And.intro hl hk)
  rw [← hT] at HL ⊢
  clear hT hl hk
  go_enter Tryz.func58, Tryz.ntmps58
  go_wp2
  go_loopw [3, 4, 5] (fun s i _ wr => ∃ k : Nat, k ≤ n ∧ i = .int .i64 k ∧ s = .int .i64 (keptO (T.take k)) ∧ wr = w) (fun _ i _ _ => n - (intOf i).toNat)
  case atStart => exact ⟨0, Nat.zero_le _, rfl, rfl, rfl⟩
  case round =>
    obtain ⟨k, hk, rfl, rfl, hw⟩ := hrel
    subst hw
    by_cases hkl : k < n
    rotate_left
    · have hkl' : ¬ (k : Int) < (n : Int) := by omega
      have HJ := @hideH _ (show T.take k = T from List.take_of_length_le (by rw [HT.out, List.length_map, ← HN.out.1]; omega))
      go_wp2
      go_ret
      exact ⟨by rw [HJ.out]; rfl, by first | rfl | trivial⟩
    have hkl' : (k : Int) < (n : Int) := by omega
    have h0 : (0 : Int) ≤ (k : Int) := by omega
    have wk : IntKind.i64.wrap ((k : Int) + 1) = (k : Int) + 1 := wrap_i64_of (by omega) (by have e1 := HN.out.1; have e2 := HN.out.2; unfold maxLen at e2; omega)
    obtain ⟨x, hx⟩ : ∃ x, P[k]? = some x := ⟨_, List.getElem?_eq_getElem (by have := HN.out.1; omega)⟩
    obtain ⟨gl, hp, -, -, -, d3⟩ := HR.out.at hx
    subst hp
    have hns := (HR.out.three (List.mem_of_getElem? hx)).2.2
    obtain ⟨t, v1, v2, v3⟩ := x
    dsimp only at hns d3
    obtain ⟨pu, cu, hu, hmc, hcm⟩ := hns.shape
    subst hu
    obtain ⟨m, hm⟩ : ∃ m, m = t.lens.length := ⟨_, rfl⟩
    have HX := @hideH _ (show T[k]? = some t by rw [HT.out, List.getElem?_map, hx]; rfl)
    have HU := @hideH _ hns
    have HM := @hideH _ (And.intro hm (Nat.le_trans hmc hcm))
    rw [← hm] at d3
    clear hx hns hm hmc hcm
    obtain ⟨K, hK⟩ : ∃ K, K = keptO (T.take k) := ⟨_, rfl⟩
    have HK := @hideH _ hK
    rw [← hK]
    have w9 : IntKind.i64.wrap (K + 99) = K + 99 := by have e1 := keptO_part HL.out.1 (k := 0) HX.out; have e2 := HL.out.2; rw [← hK] at e1; exact wrap_i64_of (by omega) (by omega)
    clear hK
    obtain ⟨wo, hwo⟩ : ∃ wo, wo = wr := ⟨_, rfl⟩
    rw [← hwo] at HR c1 d3 HU ⊢
    clear hwo
    go_wp2
    go_loopw [3, 5] (fun s i wq => ∃ j : Nat, j ≤ m ∧ i = .int .i64 j ∧ s = .int .i64 (K + 99 + sumL (t.lens.take j)) ∧ wq = wo) (fun _ i _ => m - (intOf i).toNat)
    case atStart => exact ⟨0, Nat.zero_le _, rfl, by simp [sumL], rfl⟩
    case round =>
      obtain ⟨j, hj, rfl, rfl, hw⟩ := hrel
      rw [hw]
      clear hw
      obtain ⟨s1, hs1⟩ : ∃ s, s = sumL (t.lens.take j) := ⟨_, rfl⟩
      have HS1 := @hideH _ hs1
      rw [← hs1]
      clear hs1
      by_cases hjl : j < m
      · have hjl' : (j : Int) < (m : Int) := by omega
        have hj0 : (0 : Int) ≤ (j : Int) := by omega
        have wj : IntKind.i64.wrap ((j : Int) + 1) = (j : Int) + 1 := wrap_i64_of (by omega) (by have e1 := HM.out.1; have e2 := HM.out.2; unfold maxLen at e2; omega)
        obtain ⟨z, hz⟩ : ∃ z, t.lens[j]? = some z := ⟨_, List.getElem?_eq_getElem (by have := HM.out.1; omega)⟩
        obtain ⟨gu, hpu, -, -, e0, -⟩ := HU.out.at hz
        subst hpu
        have HZ := @hideH _ (show sumL (t.lens.take (j + 1)) = s1 + (46 + z) by rw [sumL_take hz, HS1.out])
        have hzr := HL.out.1 t (List.mem_of_getElem? HX.out) z (List.mem_of_getElem? hz)
        have hb0 := keptO_part HL.out.1 (k := j) HX.out
        have hb1 := keptO_part HL.out.1 (k := j + 1) HX.out
        rw [← HK.out, ← HS1.out] at hb0
        rw [← HK.out, HZ.out] at hb1
        have v1 : IntKind.i64.wrap (K + 99 + s1 + 46) = K + 99 + s1 + 46 := by have e2 := HL.out.2; exact wrap_i64_of (by omega) (by omega)
        have v2 : IntKind.i64.wrap (K + 99 + s1 + 46 + z) = K + 99 + s1 + 46 + z := by have e2 := HL.out.2; exact wrap_i64_of (by omega) (by omega)
        clear hz hb0 hb1 hzr
        go_wp2
        go_roundw
        case rel => exact ⟨j + 1, by omega, by go_num, by rw [HZ.out]; congr 1; omega, by first | rfl | trivial⟩
        case measure => simp [intOf]; omega
      · have hjl' : ¬ (j : Int) < (m : Int) := by omega
        have HJ := @hideH _ (show keptO (T.take (k + 1)) = K + 99 + s1 by have hjt : t.lens.take j = t.lens := List.take_of_length_le (by have := HM.out.1; omega); rw [keptO_take HX.out, HK.out, HS1.out, Tn.kept, hjt]; omega)
        go_wp2
        go_roundw
        case rel => exact ⟨k + 1, by omega, by go_num, by rw [HJ.out], by first | rfl | trivial⟩
        case measure => simp [intOf]; omega
set_option maxRecDepth 20000 in
set_option maxHeartbeats 3200000 in
theorem rFits {g : Nat} {c : Cf} {vd vo : Value} {u : Int} {D : List (List Chg × Value)} {P : List Pt} (more keep : Int) (w : World) (h : SrP w g c vd vo u D P) (ok : OkS c (SrP.st u D P)) (hm : 0 ≤ more ∧ more ≤ 70000) (hk : 0 ≤ keep ∧ keep ≤ 70000) : Calls Tryz.prog 81 #[.pointer (some ⟨g, 0, none⟩), .int .i64 more, .int .i64 keep] w fun e w' => e = .returned (.bool (fitsS c (SrP.st u D P) more keep)) ∧ Kept [] w w' := by
  have HQ := @hideH _ (fun w6 (h6 : SrP w6 g c vd vo u D P) => rKept w6 h6 ok.lens ok.kept.2.1)
  obtain ⟨K, hK⟩ : ∃ K, K = keptO (P.map Prod.fst) := ⟨_, rfl⟩
  rw [← hK] at HQ
  have HE := @hideH _ (show fitsS c (SrP.st u D P) more keep = decide (u + more + K + keep ≤ c.log) by rw [hK]; rfl)
  have hb := ok.kept
  have hlo := ok.low
  have hcl := ok.may.2.2.1
  simp only [SrP.st] at hb hlo
  rw [← hK] at hb
  have v1 : IntKind.i64.wrap (u + more) = u + more := wrap_i64_of (by omega) (by omega)
  have v2 : IntKind.i64.wrap (u + more + K) = u + more + K := wrap_i64_of (by omega) (by omega)
  have v3 : IntKind.i64.wrap (u + more + K + keep) = u + more + K + keep := wrap_i64_of (by omega) (by omega)
  have c8 := h.box.cell (j := 8) rfl
  have c2 := h.box.cell (j := 2) rfl
  have HR := @hideH _ h
  clear h ok hm hk hK hb hlo hcl
  rw [HE.out]
  clear HE
  go_enter Tryz.func81, Tryz.ntmps81
  have kx : Kept [] w w.drew := (Kept.refl [] w).drew
  have hx := HR.out.then kx
  go_upto_region 1 with fail
  go_region_held3 (fun w' => w'.cell? ⟨g, 8, none⟩ = some (.int .i64 u) ∧ w'.cell? ⟨g, 2, none⟩ = some (.int .i64 c.log))
    (first
      | (exact ⟨kx.cell c8 (by simp), kx.cell c2 (by simp)⟩)
      | fail)
    (first
      | (go_at_call 58; refine (HQ.out _ hx).mono ?_; rintro e w6 ⟨rfl, hw6⟩; rw [hw6]; clear hw6)
      | fail)
  all_goals (have HKX := @hideH _ kx)
  all_goals (clear kx hx HQ c8 c2)
  all_goals go_wp2
  all_goals go_ret
  all_goals exact ⟨by first | rfl | simp, HKX.out⟩
end Go.Proofs.YtocpagpkpibmaaaGreatDoor

/-
  OWN WORK (by mkpn3.py). The document's State (layer 18): sees, holds, asked.
-/
namespace Go.Proofs.YtocpagpkpibmaaaGreatDoor
open Go.RowKit
set_option linter.unusedVariables false
set_option linter.unusedSimpArgs false

theorem seesD_take {ls : List (List Chg)} {key : Int} {j : Nat} {l : List Chg} (h : ls[j]? = some l) : seesD (ls.take (j + 1)) key = valueL l key (seesD (ls.take j) key) := by
  unfold seesD
  rw [List.take_add_one, h, List.foldl_append]
  rfl
set_option maxRecDepth 20000 in
set_option maxHeartbeats 3200000 in
theorem rSees {g : Nat} {c : Cf} {vd vo : Value} {u : Int} {D : List (List Chg × Value)} {P : List Pt} (k : Nat) (key : Int) (w : World) (h : SrP w g c vd vo u D P) {x : Pt} (hx : P[k]? = some x) : Calls Tryz.prog 84 #[.pointer (some ⟨g, 0, none⟩), .int .i64 (k : Int), .int .i64 key] w fun e w' => e = .returned (.tuple #[.int .u64 (seesT (SrP.st u D P) x.1 key).1, .bool (seesT (SrP.st u D P) x.1 key).2]) ∧ w' = w := by
  obtain ⟨po, ko, hvo, hnco, hcmo⟩ := h.rowO.shape
  subst hvo
  obtain ⟨pd, kd, hvd, hncd, hcmd⟩ := h.rowD.shape
  subst hvd
  obtain ⟨n, hn⟩ : ∃ n, n = P.length := ⟨_, rfl⟩
  obtain ⟨m, hm⟩ : ∃ m, m = D.length := ⟨_, rfl⟩
  have HR := @hideH _ h
  have HN := @hideH _ (show n = P.length ∧ m = D.length ∧ D.length ≤ maxLen from ⟨hn, hm, Nat.le_trans hncd hcmd⟩)
  have B := h.box
  rw [← hn, ← hm] at B
  have c6 := B.cell (j := 6) rfl
  have c7 := B.cell (j := 7) rfl
  have hkn : (k : Int) < (n : Int) := by have := (List.getElem?_eq_some_iff.1 hx).1; omega
  have hk0 : (0 : Int) ≤ (k : Int) := by omega
  obtain ⟨gl, hp, -, -, dl, -⟩ := h.at hx
  subst hp
  have HCS := @hideH _ (h.three (List.mem_of_getElem? hx)).2.1
  obtain ⟨t, v1, v2, v3⟩ := x
  dsimp only at dl HCS
  clear B h hx hn hm hnco hcmo hncd hcmd
  go_enter Tryz.func84, Tryz.ntmps84
  go_wp2
  go_loopw [8, 9, 10] (fun vv vt vi wr => ∃ j : Nat, j ≤ m ∧ vi = .int .i64 j ∧ vv = .int .u64 (seesD ((D.map Prod.fst).take j) key).1 ∧ vt = .bool (seesD ((D.map Prod.fst).take j) key).2 ∧ wr = w) (fun _ _ vi _ => m - (intOf vi).toNat)
  case atStart => exact ⟨0, Nat.zero_le _, rfl, rfl, rfl, rfl⟩
  case round =>
    obtain ⟨j, hj, rfl, rfl, rfl, hw⟩ := hrel
    subst hw
    obtain ⟨q, hq⟩ : ∃ q, q = seesD ((D.map Prod.fst).take j) key := ⟨_, rfl⟩
    rw [← hq]
    have HQ := @hideH _ hq
    clear hq
    by_cases hjl : j < m
    · have hjl' : (j : Int) < (m : Int) := by omega
      have hj0 : (0 : Int) ≤ (j : Int) := by omega
      have wj : IntKind.i64.wrap ((j : Int) + 1) = (j : Int) + 1 := wrap_i64_of (by omega) (by have e1 := HN.out; unfold maxLen at e1; omega)
      obtain ⟨d, hd⟩ : ∃ d, D[j]? = some d := ⟨_, List.getElem?_eq_getElem (by have := HN.out.2.1; omega)⟩
      obtain ⟨gd, hpd, e0⟩ := HR.out.atD hd
      subst hpd
      have hcs := HR.out.done (List.mem_of_getElem? hd)
      have HS := @hideH _ (seesD_take (key := key) (show (D.map Prod.fst)[j]? = some d.1 by rw [List.getElem?_map, hd]; rfl))
      rw [← HQ.out] at HS
      obtain ⟨r, hr⟩ : ∃ r, r = valueL d.1 key q := ⟨_, rfl⟩
      have HV := @hideH _ (rValue key q.1 q.2 wr hcs)
      rw [show ((q.1, q.2) : Int × Bool) = q from rfl, ← hr] at HV
      have HRR := @hideH _ hr
      obtain ⟨pq, cq, hdv, -⟩ := hcs.shape
      rw [hdv] at e0 HV
      clear hd hcs hr hdv
      go_wp2_with fail
      refine HV.out.mono ?_
      clear HV
      rintro e wx ⟨rfl, hwx⟩
      rw [hwx]
      clear hwx wx
      go_wp2
      go_roundw
      case rel => exact ⟨j + 1, by omega, by go_num, by rw [HS.out, HRR.out], by rw [HS.out, HRR.out], by first | rfl | trivial⟩
      case measure => simp [intOf]; omega
    · have hjl' : ¬ (j : Int) < (m : Int) := by omega
      have HT := @hideH _ (show q = seesD (D.map Prod.fst) key by rw [HQ.out, List.take_of_length_le (by rw [List.length_map, ← HN.out.2.1]; omega)])
      obtain ⟨r, hr⟩ : ∃ r, r = valueL t.chs key q := ⟨_, rfl⟩
      have HV := @hideH _ (rValue key q.1 q.2 wr HCS.out)
      rw [show ((q.1, q.2) : Int × Bool) = q from rfl, ← hr] at HV
      have HRR := @hideH _ (show seesT (SrP.st u D P) t key = r by rw [hr, HT.out]; rfl)
      obtain ⟨pq, cq, hdv, -⟩ := HCS.out.shape
      rw [hdv] at dl HV
      clear hr hdv
      go_wp2_with fail
      refine HV.out.mono ?_
      clear HV
      rintro e wx ⟨rfl, hwx⟩
      rw [hwx]
      clear hwx wx
      go_wp2
      go_ret2
      exact ⟨by rw [HRR.out]; first | rfl | simp, by first | rfl | trivial⟩
theorem contains_no {l : List Int} {p : Int} (h : ∀ (i : Nat) (y : Int), i < l.length → l[i]? = some y → y ≠ p) : l.contains p = false := by
  rw [Bool.eq_false_iff]
  intro q
  have hm : p ∈ l := by simpa using q
  obtain ⟨i, hi, e⟩ := List.getElem_of_mem hm
  exact h i p hi (List.getElem?_eq_some_iff.2 ⟨hi, e⟩) rfl
theorem contains_yes {l : List Int} {p : Int} {i : Nat} (h : l[i]? = some p) : l.contains p = true := by simpa using List.mem_of_getElem? h
set_option maxRecDepth 20000 in
set_option maxHeartbeats 1600000 in
theorem rHolds (t : Tn) (v1 v2 v3 : Value) (page : Int) (w : World) (h : Ns w 0 v1 t.pages) : Calls Tryz.prog 100 #[.agg #[.int .i64 t.id, v1, v2, v3], .int .i64 page] w fun e w' => e = .returned (.bool (t.pages.contains page)) ∧ Kept [] w w' := by
  obtain ⟨p, k0, hv, hnc, hcm⟩ := h.shape
  subst hv
  obtain ⟨w1, hw1⟩ : ∃ wx, wx = w.alloc (.cells #[.int .i64 t.id, .slice p t.pages.length k0, v2, v3] 143) := ⟨_, rfl⟩
  have k1 : Kept [] w w1 := by rw [hw1]; exact (Kept.refl [] w).alloc _
  have B : Blk w1 w.heap.size 143 [.int .i64 t.id, .slice p t.pages.length k0, v2, v3] := by rw [hw1]; exact Blk.new w _ _
  obtain ⟨n, hn⟩ : ∃ n, n = t.pages.length := ⟨_, rfl⟩
  have HP := @hideH _ (h.kept k1 (by simp))
  have HN := @hideH _ (And.intro hn (Nat.le_trans hnc hcm))
  have HK := @hideH _ k1
  rw [← hn] at B hw1 ⊢
  have c1 := B.cell (j := 1) rfl
  obtain ⟨E, hE⟩ : ∃ E, E = t.pages.contains page := ⟨_, rfl⟩
  rw [← hE]
  have HE := @hideH _ hE
  clear B h hn hnc hcm k1 hE
  go_enter Tryz.func100, Tryz.ntmps100
  go_upto_region 1 with fail
  rw [← hw1]
  clear hw1
  go_wp2
  go_loopw [5] (fun i wr => ∃ j : Nat, j ≤ n ∧ i = .int .i64 j ∧ wr = w1 ∧ Hid (∀ (i : Nat) (y : Int), i < j → t.pages[i]? = some y → y ≠ page)) (fun i _ => n - (intOf i).toNat)
  case atStart => exact ⟨0, Nat.zero_le _, rfl, rfl, fun i y hi => absurd hi (Nat.not_lt_zero i)⟩
  case round =>
    obtain ⟨j, hj, rfl, hw, hh⟩ := hrel
    subst hw
    by_cases hjl : j < n
    · have hjl' : (j : Int) < (n : Int) := by omega
      have hj0 : (0 : Int) ≤ (j : Int) := by omega
      have wj : IntKind.i64.wrap ((j : Int) + 1) = (j : Int) + 1 := wrap_i64_of (by omega) (by have e1 := HN.out.1; have e2 := HN.out.2; unfold maxLen at e2; omega)
      obtain ⟨y, hy⟩ : ∃ y, t.pages[j]? = some y := ⟨_, List.getElem?_eq_getElem (by have := HN.out.1; omega)⟩
      obtain ⟨gl, hp, -, -, e0, -⟩ := HP.out.at hy
      subst hp
      have HY := @hideH _ hy
      clear hy
      by_cases e : y = page
      · have HV := @hideH _ (show E = true by rw [HE.out]; exact contains_yes (by rw [HY.out, e]))
        have e' : (y == page) = true := by simpa using e
        clear e
        go_wp2
        go_ret
        exact ⟨by rw [HV.out]; rfl, HK.out⟩
      · have e' : (y == page) = false := by simpa using e
        have HB := @hideH _ e
        clear e
        go_wp2
        go_roundw
        case rel => exact ⟨j + 1, by omega, by go_num, by first | rfl | trivial, fun i y hi hy => by
          by_cases c : i = j
          · subst c; rw [HY.out] at hy; cases hy; exact HB.out
          · exact hh.out i y (by omega) hy⟩
        case measure => simp [intOf]; omega
    · have hjl' : ¬ (j : Int) < (n : Int) := by omega
      have HV := @hideH _ (show E = false by rw [HE.out]; exact contains_no (fun i y hi hy => hh.out i y (by rw [← HN.out.1] at hi; omega) hy))
      go_wp2
      go_ret
      exact ⟨by rw [HV.out]; rfl, HK.out⟩
end Go.Proofs.YtocpagpkpibmaaaGreatDoor

/-
  OWN WORK (by mkpn5.py). The document's State (layer 18): asked.
-/
namespace Go.Proofs.YtocpagpkpibmaaaGreatDoor
open Go.RowKit
set_option linter.unusedVariables false
set_option linter.unusedSimpArgs false

theorem busy_no {l : List Tn} {id page : Int} (h : ∀ (i : Nat) (y : Tn), i < l.length → l[i]? = some y → y.id = id ∨ y.pages.contains page = false) : busy l id page = false := by
  unfold busy
  rw [List.any_eq_false]
  intro x hx
  obtain ⟨i, hi, rfl⟩ := List.getElem_of_mem hx
  rcases h i _ hi (List.getElem?_eq_getElem hi) with q | q
  · simp [q]
  · have q' : page ∉ l[i].pages := by simpa using q
    simp [q']
theorem busy_yes {l : List Tn} {id page : Int} {i : Nat} {y : Tn} (hi : l[i]? = some y) (hne : y.id ≠ id) (hp : y.pages.contains page = true) : busy l id page = true := by
  unfold busy
  rw [List.any_eq_true]
  exact ⟨y, List.mem_of_getElem? hi, by have hp' : page ∈ y.pages := (by simpa using hp); simp [hp', hne]⟩
theorem ask_none {c : Cf} {s : St} {id key : Int} (h : findO s.opn id = none) : askE c s id key = 160 := by unfold askE; rw [if_pos (by simp [h])]
theorem ask_key {c : Cf} {s : St} {id key : Int} {t : Tn} (h : findO s.opn id = some t) (hk : key < 0 ∨ c.keys ≤ key) : askE c s id key = 50 := by unfold askE; rw [if_neg (by simp [h]), if_pos hk]
theorem ask_in {c : Cf} {s : St} {id key : Int} {t : Tn} (h : findO s.opn id = some t) (h1 : ¬ key < 0) (h2 : ¬ c.keys ≤ key) : askE c s id key = if busy s.opn id (key % c.pages) = true then 150 else 0 := by unfold askE; rw [if_neg (by simp [h]), if_neg (by omega)]
theorem id_ne {l : List Tn} (h : l.Pairwise fun x y => x.id ≠ y.id) {i k : Nat} {x y : Tn} (hi : l[i]? = some x) (hk : l[k]? = some y) (hne : i ≠ k) : x.id ≠ y.id := by
  obtain ⟨h1, rfl⟩ := List.getElem?_eq_some_iff.1 hi
  obtain ⟨h2, rfl⟩ := List.getElem?_eq_some_iff.1 hk
  rcases Nat.lt_or_gt_of_ne hne with c | c
  · exact List.pairwise_iff_getElem.1 h i k h1 h2 c
  · exact fun e => List.pairwise_iff_getElem.1 h k i h2 h1 c e.symm
set_option maxRecDepth 20000 in
set_option maxHeartbeats 3200000 in
theorem rAsked {g : Nat} {c : Cf} {vd vo : Value} {u : Int} {D : List (List Chg × Value)} {P : List Pt} (id key : Int) (w : World) (h : SrP w g c vd vo u D P) (ok : OkS c (SrP.st u D P)) : Calls Tryz.prog 82 #[.pointer (some ⟨g, 0, none⟩), .int .i64 id, .int .i64 key] w fun e w' => Kept [] w w' ∧ ((askE c (SrP.st u D P) id key ≠ 0 ∧ e = .returned (.tuple #[.int .i64 0, .int .i64 0, .int .i64 (askE c (SrP.st u D P) id key)])) ∨ (askE c (SrP.st u D P) id key = 0 ∧ ∃ (k : Nat) (x : Pt), P[k]? = some x ∧ x.1.id = id ∧ findO (P.map Prod.fst) id = some x.1 ∧ e = .returned (.tuple #[.int .i64 (k : Int), .int .i64 (key % c.pages), .int .i64 0]))) := by
  have HA := @hideH _ (rAt id w h)
  obtain ⟨po, ko, hvo, hnco, hcmo⟩ := h.rowO.shape
  subst hvo
  obtain ⟨n, hn⟩ : ∃ n, n = P.length := ⟨_, rfl⟩
  have HR := @hideH _ h
  have HN := @hideH _ (And.intro hn (Nat.le_trans hnco hcmo))
  have B := h.box
  rw [← hn] at B
  have c7 := B.cell (j := 7) rfl
  have c0 := B.cell (j := 0) rfl
  have c5 := B.cell (j := 5) rfl
  have HOK := @hideH _ ok
  obtain ⟨E, hE⟩ : ∃ E, E = askE c (SrP.st u D P) id key := ⟨_, rfl⟩
  rw [← hE]
  have HE := @hideH _ hE
  obtain ⟨pg, hpg⟩ : ∃ pg, pg = key % c.pages := ⟨_, rfl⟩
  rw [← hpg]
  have HPG := @hideH _ hpg
  clear hpg
  clear B h hn hnco hcmo ok hE
  go_enter Tryz.func82, Tryz.ntmps82
  go_wp2_with fail
  refine HA.out.mono ?_
  clear HA
  rintro e wx ⟨hwx, i, rfl, hi⟩
  rw [hwx]
  clear hwx wx
  rcases hi with ⟨rfl, he⟩ | ⟨k, x, rfl, hx, hb, he⟩
  · have HV := @hideH _ (show E = 160 by rw [HE.out]; exact ask_none he)
    clear he
    go_wp2
    go_ret3
    exact ⟨Kept.refl _ _, .inl ⟨by rw [HV.out]; decide, by rw [HV.out]; rfl⟩⟩
  have hk0 : (0 : Int) ≤ (k : Int) := by omega
  have hk0' : ¬ (k : Int) < (0 : Int) := by omega
  have HX := @hideH _ (And.intro hx (And.intro hb he))
  clear hx hb he
  by_cases h1 : key < 0
  · have HV := @hideH _ (show E = 50 by rw [HE.out]; exact ask_key HX.out.2.2 (.inl h1))
    go_wp2
    go_ret3
    exact ⟨Kept.refl _ _, .inl ⟨by rw [HV.out]; decide, by rw [HV.out]; rfl⟩⟩
  by_cases h2 : c.keys ≤ key
  · have HV := @hideH _ (show E = 50 by rw [HE.out]; exact ask_key HX.out.2.2 (.inr h2))
    go_wp2
    go_ret3
    exact ⟨Kept.refl _ _, .inl ⟨by rw [HV.out]; decide, by rw [HV.out]; rfl⟩⟩
  have HV0 := @hideH _ (show E = if busy (P.map Prod.fst) id (key % c.pages) = true then 150 else 0 by rw [HE.out]; exact ask_in HX.out.2.2 h1 h2)
  have hkey : 0 ≤ key := by omega
  have hpp : 0 < c.pages := by have := HOK.out.may.1; omega
  have hp0 : (c.pages == 0) = false := by simp; omega
  rw [← HPG.out] at HV0
  have htm : key.tmod c.pages = pg := by rw [HPG.out]; exact Int.tmod_eq_emod_of_nonneg hkey
  go_wp2
  go_loopw [11] (fun vi wr => ∃ j : Nat, j ≤ n ∧ vi = .int .i64 j ∧ Hid (Kept [] w wr ∧ ∀ (i : Nat) (y : Tn), i < j → (P.map Prod.fst)[i]? = some y → y.id = id ∨ y.pages.contains pg = false)) (fun vi _ => n - (intOf vi).toNat)
  case atStart => exact ⟨0, Nat.zero_le _, rfl, Kept.refl _ _, fun i y hi => absurd hi (Nat.not_lt_zero i)⟩
  case round =>
    obtain ⟨j, hj, rfl, hh⟩ := hrel
    by_cases hjl : j < n
    rotate_left
    · have hjl' : ¬ (j : Int) < (n : Int) := by omega
      have c7' := hh.out.1.cell c7 (by simp)
      have HV := @hideH _ (show E = 0 by rw [HV0.out, if_neg]; rw [busy_no (fun i y hi hy => hh.out.2 i y (by rw [List.length_map, ← HN.out.1] at hi; omega) hy)]; decide)
      go_wp2
      go_ret3
      exact ⟨hh.out.1, .inr ⟨HV.out, k, x.1, ⟨x.2.1, x.2.2.1, x.2.2.2, HX.out.1⟩, HX.out.2.1, HX.out.2.2, by first | rfl | simp⟩⟩
    have hjl' : (j : Int) < (n : Int) := by omega
    have hj0 : (0 : Int) ≤ (j : Int) := by omega
    have wj : IntKind.i64.wrap ((j : Int) + 1) = (j : Int) + 1 := wrap_i64_of (by omega) (by have e1 := HN.out.1; have e2 := HN.out.2; unfold maxLen at e2; omega)
    obtain ⟨y, hy⟩ : ∃ y, P[j]? = some y := ⟨_, List.getElem?_eq_getElem (by have := HN.out.1; omega)⟩
    have HY := @hideH _ hy
    have HY' := @hideH _ (show (P.map Prod.fst)[j]? = some y.1 by rw [List.getElem?_map, hy]; rfl)
    have c7' := hh.out.1.cell c7 (by simp)
    obtain ⟨gl, hp, d0, d1, d2, d3⟩ := (HR.out.then hh.out.1).at hy
    subst hp
    have HNS := @hideH _ ((HR.out.then hh.out.1).three (List.mem_of_getElem? hy)).1
    clear hy c7
    by_cases hjk : j = k
    · have hjk' : ((j : Int) != (k : Int)) = false := by subst hjk; simp
      have HI := @hideH _ (show y.1.id = id by have e := HY.out; rw [hjk, HX.out.1] at e; cases e; exact HX.out.2.1)
      clear hjk
      go_wp2
      go_roundw
      case rel => exact ⟨j + 1, by omega, by go_num, hh.out.1, fun i z hi hz => by
        by_cases c : i = j
        · subst c; rw [HY'.out] at hz; cases hz; exact .inl HI.out
        · exact hh.out.2 i z (by omega) hz⟩
      case measure => simp [intOf]; omega
    have hjk' : ((j : Int) != (k : Int)) = true := by simp; omega
    have HNE := @hideH _ (show y.1.id ≠ id from fun e => id_ne HOK.out.dif HY'.out (show (P.map Prod.fst)[k]? = some x.1 by rw [List.getElem?_map, HX.out.1]; rfl) hjk (by rw [e, HX.out.2.1]))
    clear hjk
    obtain ⟨t, v1, v2, v3⟩ := y
    dsimp only at d0 d1 d2 d3 HNS HNE HY'
    have hq := rHolds t v1 v2 v3 pg wr HNS.out
    obtain ⟨bb, hbb⟩ : ∃ bb, bb = t.pages.contains pg := ⟨_, rfl⟩
    rw [← hbb] at hq
    have HQ := @hideH _ hq
    have HBB := @hideH _ hbb
    have HH := @hideH _ hh.out
    clear hq hbb hh
    go_wp2_with fail
    refine HQ.out.mono ?_
    clear HQ
    rintro e wy ⟨rfl, ky⟩
    cases bb
    · have HK := @hideH _ (HH.out.1.then ky)
      clear ky
      go_wp2
      go_roundw
      case rel => exact ⟨j + 1, by omega, by go_num, HK.out, fun i z hi hz => by
        by_cases c : i = j
        · subst c; rw [HY'.out] at hz; cases hz; exact .inr HBB.out.symm
        · exact HH.out.2 i z (by omega) hz⟩
      case measure => simp [intOf]; omega
    · have HK := @hideH _ (HH.out.1.then ky)
      have HV := @hideH _ (show E = 150 by rw [HV0.out, if_pos (busy_yes HY'.out HNE.out HBB.out.symm)])
      clear ky
      go_wp2
      go_ret3
      exact ⟨HK.out, .inl ⟨by rw [HV.out]; decide, by rw [HV.out]; rfl⟩⟩
end Go.Proofs.YtocpagpkpibmaaaGreatDoor

/-
  OWN WORK. The model (layer 18): the document's State: one list of a row is another one; rows come and go.
-/
namespace Go.Proofs.YtocpagpkpibmaaaGreatDoor
open Go.RowKit
set_option linter.unusedVariables false
theorem splitPt {l : List Pt} {k : Nat} {x : Pt} (hk : l[k]? = some x) : l = l.take k ++ x :: l.drop (k + 1) := by
  obtain ⟨hl, hx⟩ := List.getElem?_eq_some_iff.1 hk
  rw [← hx, List.getElem_cons_drop]
  exact (List.take_append_drop k l).symm
def restT (k : Nat) (P : List Pt) : List (Value × (World → Prop)) := (P.take k).flatMap three ++ (P.drop (k + 1)).flatMap three
theorem flat_three {P : List Pt} {k : Nat} {p : Pt} (hk : P[k]? = some p) : (P.flatMap three).Perm (three p ++ restT k P) := by
  conv => lhs; rw [splitPt hk]
  rw [List.flatMap_append, List.flatMap_cons]
  unfold restT
  rw [← List.append_assoc, ← List.append_assoc]
  exact (List.perm_append_comm).append_right _
theorem flat_set {P : List Pt} {k : Nat} {p p' : Pt} (hk : P[k]? = some p) : ((P.set k p').flatMap three).Perm (three p' ++ restT k P) := by
  have hl := (List.getElem?_eq_some_iff.1 hk).1
  have e : (P.set k p')[k]? = some p' := List.getElem?_set_self hl
  have q := flat_three e
  have r : restT k (P.set k p') = restT k P := by
    unfold restT
    rw [List.take_set_of_le (Nat.le_refl k), List.drop_set_of_lt (by omega)]
  rw [r] at q
  exact q
def dthings (D : List (List Chg × Value)) : List (Value × (World → Prop)) := D.map (fun d => (d.2, fun w => Cs w 0 d.2 d.1))
section
variable {w w8 : World} {g : Nat} {c : Cf} {vd vo : Value} {u : Int} {D : List (List Chg × Value)} {P : List Pt}
/-- one row's list is another one -/
theorem sr_setRow {gl n cap k off : Nat} {p p' : Pt} {v v' : Value} {A A' : World → Prop} {R : List (Value × (World → Prop))} (h : SrP w g c vd (.slice (some ⟨gl, 0, none⟩) n cap) u D P) (hk : P[k]? = some p)
    (h1 : (three p).Perm ((v, A) :: R)) (h2 : ((v', A') :: R).Perm (three p')) (k8 : Kept v.ownBlock.toList w w8) (hA : A' w8) (sA : Stays v' A') (o : ∀ y, v'.ownBlock = some y → v.ownBlock = some y ∨ (w.heap.size ≤ y ∧ y < w8.heap.size)) (hone : v'.oneCell' = true)
    (ho : off < 4) (hc : ocells (P.set k p') = (ocells P).set (k * 4 + off) v') :
    (∃ x, w8.cell? ⟨gl, k * 4 + off, none⟩ = some x) ∧ w8.frozen? ⟨gl, k * 4 + off, none⟩ = false ∧ SrP (w8.setCell ⟨gl, k * 4 + off, none⟩ v') g c vd (.slice (some ⟨gl, 0, none⟩) n cap) u D (P.set k p') ∧ Kept (gl :: v.ownBlock.toList) w (w8.setCell ⟨gl, k * 4 + off, none⟩ v') ∧ Fr w (blks (things vd (.slice (some ⟨gl, 0, none⟩) n cap) D P)) (blks (things vd (.slice (some ⟨gl, 0, none⟩) n cap) D (P.set k p'))) := by
  obtain ⟨V, hV⟩ : ∃ V : Value, V = .slice (some ⟨gl, 0, none⟩) n cap := ⟨_, rfl⟩
  have hkl := (List.getElem?_eq_some_iff.1 hk).1
  -- the list first
  have pm : (things vd (.slice (some ⟨gl, 0, none⟩) n cap) D P).Perm ((v, A) :: ((.slice (some ⟨gl, 0, none⟩) n cap, fun w => Row w 0 4 (.slice (some ⟨gl, 0, none⟩) n cap) P.length (ocells P)) :: (vd, fun w => Row w 0 1 vd D.length (D.map Prod.snd)) :: (dthings D ++ (R ++ restT k P)))) := by
    unfold things
    have q1 : (dthings D ++ P.flatMap three).Perm ((v, A) :: (dthings D ++ (R ++ restT k P))) := by
      have a1 := (flat_three hk).trans (h1.append_right (restT k P))
      have a2 := a1.append_left (dthings D)
      exact a2.trans List.perm_middle
    have q2 := (q1.cons (Value.slice (some ⟨gl, 0, none⟩) n cap, fun w => Row w 0 4 (.slice (some ⟨gl, 0, none⟩) n cap) P.length (ocells P))).cons (vd, fun w => Row w 0 1 vd D.length (D.map Prod.snd))
    refine q2.trans ?_
    refine ((List.Perm.swap _ _ _).cons _).trans ?_
    refine (List.Perm.swap _ _ _).trans ?_
    exact (List.Perm.swap _ _ _).cons _
  have o1 := h.own.perm pm
  have hgl : (Value.slice (some ⟨gl, 0, none⟩) n cap).ownBlock = some gl := rfl
  have hap := (List.pairwise_cons.1 o1.ap).1 _ (List.mem_cons_self ..)
  have hvg : gl ∉ v.ownBlock.toList := fun hm => hap gl (own_mem.1 hm) hgl
  have hgv : g ∉ v.ownBlock.toList := fun hm => (o1.lt (v, A) (List.mem_cons_self ..) g (own_mem.1 hm)).2 rfl
  have hglg : gl ≠ g := (h.own.lt (.slice (some ⟨gl, 0, none⟩) n cap, fun w => Row w 0 4 (.slice (some ⟨gl, 0, none⟩) n cap) P.length (ocells P)) (by unfold things; simp) gl hgl).2
  have o2 := o1.head k8 hA sA (fun y hy => (o y hy).imp id (fun q => ⟨q.1, q.2, by have := h.box.lt; omega⟩))
  have o3 := o2.perm (List.Perm.swap _ _ _)
  -- then the row's cell
  have r8 : Row w8 0 4 (.slice (some ⟨gl, 0, none⟩) n cap) P.length (ocells P) := o3.holds _ (List.mem_cons_self ..)
  obtain ⟨p'', c'', e, -, -⟩ := Row.shape r8
  cases e
  obtain ⟨gl', e', -, -, hcell, hfree⟩ := Row.pos r8 (by omega)
  cases e'
  have hb : k * 4 + off < cap * 4 := by
    obtain ⟨q1, q2, e1, e2, -⟩ := Row.shape r8
    cases e1
    omega
  obtain ⟨r9, k9⟩ := r8.set (k * 4 + off) (by omega) v' hone
  have o4 := o3.head (v' := .slice (some ⟨gl, 0, none⟩) P.length cap) (p' := fun w => Row w 0 4 (.slice (some ⟨gl, 0, none⟩) P.length cap) (P.set k p').length (ocells (P.set k p'))) (k9.mono (by simp [Value.ownBlock])) (by show Row _ _ _ _ _ _; rw [List.length_set, hc]; exact r9) (Row.stays _ _ _ _ _) (fun y hy => .inl hy)
  refine ⟨?_, (hfree _ hb).2, ⟨(h.box.kept k8 hgv).kept k9 (by simp; exact fun e => hglg e.symm), ?_⟩, ?_, ?_⟩
  · have := (hfree _ hb).1
    cases hx : w8.cell? ⟨gl, k * 4 + off, none⟩ with
    | none => rw [hx] at this; cases this
    | some x => exact ⟨x, rfl⟩
  · refine o4.perm ?_
    unfold things
    have q1 : ((v', A') :: (dthings D ++ (R ++ restT k P))).Perm (dthings D ++ (P.set k p').flatMap three) := by
      have a1 := (h2.append_right (restT k P)).trans (flat_set (p' := p') hk).symm
      have a2 := a1.append_left (dthings D)
      exact List.perm_middle.symm.trans a2
    refine ((List.Perm.swap _ _ _).cons _).trans ?_
    refine (List.Perm.swap _ _ _).trans ?_
    exact (q1.cons _).cons _
  · exact (k8.mono (fun x hx => List.mem_cons_of_mem _ hx)).trans k9 (fun x hx => .inl (by simp at hx; rw [hx]; exact List.mem_cons_self ..))
  · intro y hy
    obtain ⟨x, hx, e⟩ := mem_blks.1 hy
    have old : ∀ z ∈ things vd (.slice (some ⟨gl, 0, none⟩) P.length cap) D P, z.1.ownBlock = some y → y ∈ blks (things vd (.slice (some ⟨gl, 0, none⟩) P.length cap) D P) ∨ w.heap.size ≤ y := fun z hz q => .inl (mem_blks.2 ⟨z, hz, q⟩)
    unfold things at hx
    rcases List.mem_cons.1 hx with rfl | hx
    · exact old _ (by unfold things; exact List.mem_cons_self ..) e
    · rcases List.mem_cons.1 hx with rfl | hx
      · exact old (.slice (some ⟨gl, 0, none⟩) P.length cap, fun w => Row w 0 4 (.slice (some ⟨gl, 0, none⟩) P.length cap) P.length (ocells P)) (by unfold things; simp) e
      · rcases List.mem_append.1 hx with hx | hx
        · exact old x (by unfold things; exact List.mem_cons_of_mem _ (List.mem_cons_of_mem _ (List.mem_append_left _ hx))) e
        · have hx2 := (flat_set (p' := p') hk).mem_iff.1 hx
          have inP : ∀ z ∈ three p ++ restT k P, z ∈ things vd (.slice (some ⟨gl, 0, none⟩) P.length cap) D P := fun z hz => by unfold things; exact List.mem_cons_of_mem _ (List.mem_cons_of_mem _ (List.mem_append_right _ ((flat_three hk).mem_iff.2 hz)))
          rcases List.mem_append.1 hx2 with hx3 | hx3
          · rcases List.mem_cons.1 (h2.mem_iff.2 hx3) with rfl | hx4
            · rcases o y e with q | q
              · exact old (v, A) (inP _ (List.mem_append_left _ (h1.mem_iff.2 (List.mem_cons_self ..)))) q
              · exact .inr q.1
            · exact old x (inP _ (List.mem_append_left _ (h1.mem_iff.2 (List.mem_cons_of_mem _ hx4)))) e
          · exact old x (inP _ (List.mem_append_right _ hx3)) e
end
end Go.Proofs.YtocpagpkpibmaaaGreatDoor

/-
  OWN WORK (by mkpn6.py). The document's State (layer 18): hold.
-/
namespace Go.Proofs.YtocpagpkpibmaaaGreatDoor
open Go.RowKit
set_option linter.unusedVariables false
set_option linter.unusedSimpArgs false

theorem ocells_set1 : ∀ (l : List Pt) (k : Nat) (t : Tn) (v1 v2 v3 v' : Value) (pg : List Int), l[k]? = some (t, v1, v2, v3) → ocells (l.set k (⟨t.id, pg, t.chs, t.lens⟩, v', v2, v3)) = (ocells l).set (k * 4 + 1) v'
  | [], k, t, v1, v2, v3, v', pg, h => by simp at h
  | y :: r, 0, t, v1, v2, v3, v', pg, h => by simp at h; subst h; simp [ocells]
  | y :: r, k + 1, t, v1, v2, v3, v', pg, h => by
    have q := ocells_set1 r k t v1 v2 v3 v' pg (by simpa using h)
    rw [show (k + 1) * 4 = k * 4 + 4 by omega]
    simp only [List.set_cons_succ, ocells, q]
theorem held_in {t : Tn} {page : Int} (h : t.pages.contains page = true) : heldT t page = t := by simp only [heldT, h, if_true]
theorem held_new {t : Tn} {page : Int} (h : t.pages.contains page = false) : heldT t page = ⟨t.id, t.pages ++ [page], t.chs, t.lens⟩ := by simp only [heldT, h]; rfl
theorem set_same {α : Type} {l : List α} {b : Nat} {x : α} (h : l[b]? = some x) : l.set b x = l := by
  obtain ⟨hl, rfl⟩ := List.getElem?_eq_some_iff.1 h
  exact List.set_getElem_self hl
theorem sr_hold {w w7 w8 : World} {g : Nat} {c : Cf} {vd : Value} {u : Int} {D : List (List Chg × Value)} {P : List Pt} {gl n cap k : Nat} {t : Tn} {v1 v2 v3 v' : Value} {page : Int} (h : SrP w g c vd (.slice (some ⟨gl, 0, none⟩) n cap) u D P) (hk : P[k]? = some (t, v1, v2, v3)) (k7 : Kept [] w w7) (r8 : Row w8 0 1 v' (t.pages.length + 1) (i64s t.pages ++ [.int .i64 page])) (k8 : Kept v1.ownBlock.toList w7 w8) (o8 : v'.ownBlock = v1.ownBlock ∨ (v'.ownBlock = some w7.heap.size ∧ Kept [] w7 w8)) (hc : t.pages.contains page = false) :
    w8.cell? ⟨g, 7, none⟩ = some (.slice (some ⟨gl, 0, none⟩) n cap) ∧ w8.cell? ⟨gl, k * 4 + 1, none⟩ = some v1 ∧ w8.frozen? ⟨gl, k * 4 + 1, none⟩ = false ∧ ∃ P', SrP (w8.setCell ⟨gl, k * 4 + 1, none⟩ v') g c vd (.slice (some ⟨gl, 0, none⟩) n cap) u D P' ∧ P'.map Prod.fst = (P.map Prod.fst).set k (heldT t page) ∧ Kept (gl :: v1.ownBlock.toList) w (w8.setCell ⟨gl, k * 4 + 1, none⟩ v') ∧ Fr w (blks (things vd (.slice (some ⟨gl, 0, none⟩) n cap) D P)) (blks (things vd (.slice (some ⟨gl, 0, none⟩) n cap) D P')) := by
  have hz := k7.size
  have k08 : Kept v1.ownBlock.toList w w8 := (k7.mono (T := v1.ownBlock.toList) (by simp)).trans k8 (fun x hx => .inl hx)
  have hN : Ns w8 0 v' (t.pages ++ [page]) := by unfold Ns; rw [List.length_append, show i64s (t.pages ++ [page]) = i64s t.pages ++ [.int .i64 page] by simp [i64s]]; exact r8
  have hone : v'.oneCell' = true := by obtain ⟨p, c, e, -⟩ := hN.shape; rw [e]; rfl
  obtain ⟨-, q2, q3, q4, q5⟩ := sr_setRow (off := 1) (p' := (⟨t.id, t.pages ++ [page], t.chs, t.lens⟩, v', v2, v3)) (v := v1) (v' := v') (A := fun w => Ns w 0 v1 t.pages) (A' := fun w => Ns w 0 v' (t.pages ++ [page])) (R := [(v2, fun w => Cs w 0 v2 t.chs), (v3, fun w => Ns w 0 v3 t.lens)]) h hk (List.Perm.refl _) (List.Perm.refl _) k08 hN (Row.stays _ _ _ _ _) (fun y hy => by
    rcases o8 with q | ⟨q, -⟩
    · exact .inl (by rw [← q]; exact hy)
    · exact .inr ⟨by rw [q] at hy; cases hy; omega, (hN.lt hy).2⟩) hone (by omega) (ocells_set1 P k t v1 v2 v3 v' _ hk)
  have hm : (P.set k (⟨t.id, t.pages ++ [page], t.chs, t.lens⟩, v', v2, v3)).map Prod.fst = (P.map Prod.fst).set k (heldT t page) := by rw [List.map_set, held_new hc]
  have hgv : g ∉ v1.ownBlock.toList := fun hm => (h.own.lt (v1, fun w => Ns w 0 v1 t.pages) (by unfold things; exact List.mem_cons_of_mem _ (List.mem_cons_of_mem _ (List.mem_append_right _ (List.mem_flatMap.2 ⟨_, List.mem_of_getElem? hk, by unfold three; simp⟩)))) g (own_mem.1 hm)).2 rfl
  obtain ⟨gl', e, -, d1, -, -⟩ := h.at hk
  cases e
  have hglv : gl ∉ v1.ownBlock.toList := fun hm => by
    have hp := (List.pairwise_cons.1 (List.pairwise_cons.1 (show (things vd (.slice (some ⟨gl, 0, none⟩) n cap) D P).Pairwise (fun a b => Ap a.1 b.1) from h.own.ap)).2).1 (v1, fun w => Ns w 0 v1 t.pages) (List.mem_append_right _ (List.mem_flatMap.2 ⟨_, List.mem_of_getElem? hk, by unfold three; simp⟩))
    exact hp gl rfl (own_mem.1 hm)
  exact ⟨k08.cell (h.box.cell (j := 7) rfl) hgv, k08.cell d1 hglv, q2, _, q3, hm, q4, q5⟩
set_option maxRecDepth 20000 in
set_option maxHeartbeats 3200000 in
theorem rHold {g : Nat} {c : Cf} {vd vo : Value} {u : Int} {D : List (List Chg × Value)} {P : List Pt} (k : Nat) (page : Int) (w : World) (h : SrP w g c vd vo u D P) {x : Pt} (hx : P[k]? = some x) (hl : x.1.pages.length ≤ 1000) : Calls Tryz.prog 83 #[.pointer (some ⟨g, 0, none⟩), .int .i64 (k : Int), .int .i64 page] w fun e w' => e = .returned (.tuple #[]) ∧ ∃ P', SrP w' g c vd vo u D P' ∧ P'.map Prod.fst = (P.map Prod.fst).set k (heldT x.1 page) ∧ Kept (vo.ownBlock.toList ++ x.2.1.ownBlock.toList) w w' ∧ Fr w (blks (things vd vo D P)) (blks (things vd vo D P')) := by
  obtain ⟨po, ko, hvo, hnco, hcmo⟩ := h.rowO.shape
  subst hvo
  obtain ⟨n, hn⟩ : ∃ n, n = P.length := ⟨_, rfl⟩
  have HN := @hideH _ hn
  have B := h.box
  rw [← hn] at B
  have c7 := B.cell (j := 7) rfl
  have hkn : (k : Int) < (n : Int) := by have := (List.getElem?_eq_some_iff.1 hx).1; omega
  have hk0 : (0 : Int) ≤ (k : Int) := by omega
  obtain ⟨gl, hp, d0, d1, d2, d3⟩ := h.at hx
  subst hp
  obtain ⟨t, v1, v2, v3⟩ := x
  dsimp only at d0 d1 d2 d3 hl ⊢
  have hns := (h.three (List.mem_of_getElem? hx)).1
  dsimp only at hns
  obtain ⟨pu, cu, hu, -⟩ := hns.shape
  subst hu
  obtain ⟨q, hq⟩ : ∃ q, q = t.pages.length := ⟨_, rfl⟩
  rw [← hq] at d1
  have HQQ := @hideH _ (And.intro hq (show q ≤ 1000 by omega))
  have HNS := @hideH _ hns
  have HR := @hideH _ h
  have HX := @hideH _ hx
  have hh := rHolds t (.slice pu t.pages.length cu) v2 v3 page w hns
  rw [← hq] at hh
  obtain ⟨bb, hbb⟩ : ∃ bb, bb = t.pages.contains page := ⟨_, rfl⟩
  rw [← hbb] at hh
  have HH := @hideH _ hh
  have HBB := @hideH _ hbb
  clear B h hx hn hnco hcmo hns hl hq hh hbb
  obtain ⟨infI, hin1, hin2, hin3, hin4⟩ := info_parts3 (show (Tryz.prog.info? 3).map (fun i => (i.zero, i.size, i.bytes)) = some (some (.int .i64 0), 1, 8) by kernel_rfl)
  have HII := @hideH _ (And.intro hin1 (And.intro hin2 (And.intro hin3 hin4)))
  clear hin1 hin2 hin3 hin4
  go_enter Tryz.func83, Tryz.ntmps83
  go_wp2_with fail
  refine HH.out.mono ?_
  clear HH
  rintro e w1 ⟨rfl, k1⟩
  cases bb
  rotate_left
  · have HK := @hideH _ k1
    clear k1
    go_wp2
    go_end0
    exact ⟨by first | rfl | simp, P, HR.out.then HK.out, by rw [held_in HBB.out.symm, set_same (show (P.map Prod.fst)[k]? = some t by rw [List.getElem?_map, HX.out]; rfl)], HK.out.mono (by simp), Fr.refl _ _⟩
  have HK1 := @hideH _ k1
  replace c7 := k1.cell c7 (by simp)
  replace d1 := k1.cell d1 (by simp)
  clear k1 d0 d2 d3
  go_upto_region 1 with fail
  obtain ⟨w6, hw6⟩ : ∃ wx, wx = w1.drew := ⟨_, rfl⟩
  have k6 : Kept [] w1 w6 := by rw [hw6]; exact (Kept.refl [] w1).drew
  have hS : (fun w' => w'.cell? ⟨g, 7, none⟩ = some (.slice (some ⟨gl, 0, none⟩) n ko) ∧ w'.cell? ⟨gl, k * 4 + 1, none⟩ = some (.slice pu q cu)) w6 := ⟨k6.cell c7 (by simp), k6.cell d1 (by simp)⟩
  try dsimp only at hS
  obtain ⟨w7, hw7⟩ : ∃ wx, wx = w6.alloc (.cells #[.int .i64 page] 3) := ⟨_, rfl⟩
  have k7 : Kept [] w6 w7 := by rw [hw7]; exact (Kept.refl [] w6).alloc _
  have hS7 := (⟨k7.cell hS.1 (by simp), k7.cell hS.2 (by simp)⟩ : (fun w' => w'.cell? ⟨g, 7, none⟩ = some (.slice (some ⟨gl, 0, none⟩) n ko) ∧ w'.cell? ⟨gl, k * 4 + 1, none⟩ = some (.slice pu q cu)) w7)
  try dsimp only at hS7
  refine wp_region_late (fun w' => w'.cell? ⟨g, 7, none⟩ = some (.slice (some ⟨gl, 0, none⟩) n ko) ∧ w'.cell? ⟨gl, k * 4 + 1, none⟩ = some (.slice pu q cu)) 18 (by kernel_rfl) ?_
  rw [← hw6]
  clear hw6 c7 d1
  refine wpAnyZ_take 0 (v := ?va0_1) rfl (by kernel_rfl) (by kernel_rfl) (by kernel_rfl) (by kernel_rfl) (fun _ _ _ h => h) (by rfl) ?hya0_1 hS ?resta0_1
  case hya0_1 => (intro wx hSx; obtain ⟨s1, s2⟩ := hSx; go_simp; (try with_reducible rfl))
  (try simp only [Act.put, List.getElem_toArray, List.getElem_cons_zero, List.getElem_cons_succ, List.setIfInBounds_toArray, List.set_cons_zero, List.set_cons_succ])
  refine wpAnyZ_take 1 (v := ?va1_2) rfl (by kernel_rfl) (by kernel_rfl) (by kernel_rfl) (by kernel_rfl) (fun _ _ _ h => h) (by rfl) ?hya1_2 hS ?resta1_2
  case hya1_2 => (intro wx hSx; obtain ⟨s1, s2⟩ := hSx; go_simp; (try with_reducible rfl))
  (try simp only [Act.put, List.getElem_toArray, List.getElem_cons_zero, List.getElem_cons_succ, List.setIfInBounds_toArray, List.set_cons_zero, List.set_cons_succ])
  refine wpAnyZ_take 2 (v := ?va2_3) rfl (by kernel_rfl) (by kernel_rfl) (by kernel_rfl) (by kernel_rfl) (fun _ _ _ h => h) (by rfl) ?hya2_3 hS ?resta2_3
  case hya2_3 => (intro wx hSx; obtain ⟨s1, s2⟩ := hSx; go_simp; (try with_reducible rfl))
  (try simp only [Act.put, List.getElem_toArray, List.getElem_cons_zero, List.getElem_cons_succ, List.setIfInBounds_toArray, List.set_cons_zero, List.set_cons_succ])
  refine wpAnyZ_take 3 (v := ?va3_4) rfl (by kernel_rfl) (by kernel_rfl) (by kernel_rfl) (by kernel_rfl) (fun _ _ _ h => h) (by rfl) ?hya3_4 hS ?resta3_4
  case hya3_4 => (intro wx hSx; obtain ⟨s1, s2⟩ := hSx; go_simp; (try with_reducible rfl))
  (try simp only [Act.put, List.getElem_toArray, List.getElem_cons_zero, List.getElem_cons_succ, List.setIfInBounds_toArray, List.set_cons_zero, List.set_cons_succ])
  refine wpAnyZ_take 4 (v := ?va4_5) rfl (by kernel_rfl) (by kernel_rfl) (by kernel_rfl) (by kernel_rfl) (fun _ _ _ h => h) (by rfl) ?hya4_5 hS ?resta4_5
  case hya4_5 => (intro wx hSx; obtain ⟨s1, s2⟩ := hSx; go_simp; (try with_reducible rfl))
  (try simp only [Act.put, List.getElem_toArray, List.getElem_cons_zero, List.getElem_cons_succ, List.setIfInBounds_toArray, List.set_cons_zero, List.set_cons_succ])
  refine wpAnyZ_take 5 (v := ?va5_6) rfl (by kernel_rfl) (by kernel_rfl) (by kernel_rfl) (by kernel_rfl) (fun _ _ _ h => h) (by rfl) ?hya5_6 hS ?resta5_6
  case hya5_6 => (intro wx hSx; obtain ⟨s1, s2⟩ := hSx; go_simp; (try with_reducible rfl))
  (try simp only [Act.put, List.getElem_toArray, List.getElem_cons_zero, List.getElem_cons_succ, List.setIfInBounds_toArray, List.set_cons_zero, List.set_cons_succ])
  refine wpAnyZ_take 6 (v := ?va6_7) rfl (by kernel_rfl) (by kernel_rfl) (by kernel_rfl) (by kernel_rfl) (fun _ _ _ h => h) (by rfl) ?hya6_7 hS ?resta6_7
  case hya6_7 => (intro wx hSx; obtain ⟨s1, s2⟩ := hSx; go_simp; (try with_reducible rfl))
  (try simp only [Act.put, List.getElem_toArray, List.getElem_cons_zero, List.getElem_cons_succ, List.setIfInBounds_toArray, List.set_cons_zero, List.set_cons_succ])
  refine wpAnyZ_take 7 (v := ?va7_8) rfl (by kernel_rfl) (by kernel_rfl) (by kernel_rfl) (by kernel_rfl) (fun _ _ _ h => h) (by rfl) ?hya7_8 hS ?resta7_8
  case hya7_8 => (intro wx hSx; obtain ⟨s1, s2⟩ := hSx; go_simp; (try with_reducible rfl))
  (try simp only [Act.put, List.getElem_toArray, List.getElem_cons_zero, List.getElem_cons_succ, List.setIfInBounds_toArray, List.set_cons_zero, List.set_cons_succ])
  refine wpAnyZ_take 8 (v := ?va8_9) rfl (by kernel_rfl) (by kernel_rfl) (by kernel_rfl) (by kernel_rfl) (fun _ _ _ h => h) (by rfl) ?hya8_9 hS ?resta8_9
  case hya8_9 => (intro wx hSx; obtain ⟨s1, s2⟩ := hSx; go_simp; (try with_reducible rfl))
  (try simp only [Act.put, List.getElem_toArray, List.getElem_cons_zero, List.getElem_cons_succ, List.setIfInBounds_toArray, List.set_cons_zero, List.set_cons_succ])
  refine wpAnyZ_take 9 (v := ?va9_10) rfl (by kernel_rfl) (by kernel_rfl) (by kernel_rfl) (by kernel_rfl) (fun _ _ _ h => h) (by rfl) ?hya9_10 hS ?resta9_10
  case hya9_10 => (intro wx hSx; obtain ⟨s1, s2⟩ := hSx; go_simp; (try with_reducible rfl))
  (try simp only [Act.put, List.getElem_toArray, List.getElem_cons_zero, List.getElem_cons_succ, List.setIfInBounds_toArray, List.set_cons_zero, List.set_cons_succ])
  refine wpAnyZ_take 10 (v := ?va10_11) rfl (by kernel_rfl) (by kernel_rfl) (by kernel_rfl) (by kernel_rfl) (fun _ _ _ h => h) (by rfl) ?hya10_11 hS ?resta10_11
  case hya10_11 => (intro wx hSx; obtain ⟨s1, s2⟩ := hSx; go_simp; (try with_reducible rfl))
  (try simp only [Act.put, List.getElem_toArray, List.getElem_cons_zero, List.getElem_cons_succ, List.setIfInBounds_toArray, List.set_cons_zero, List.set_cons_succ])
  refine wpAnyZ_take 11 (v := ?va11_12) rfl (by kernel_rfl) (by kernel_rfl) (by kernel_rfl) (by kernel_rfl) (fun _ _ _ h => h) (by rfl) ?hya11_12 hS ?resta11_12
  case hya11_12 => (intro wx hSx; obtain ⟨s1, s2⟩ := hSx; go_simp; (try with_reducible rfl))
  (try simp only [Act.put, List.getElem_toArray, List.getElem_cons_zero, List.getElem_cons_succ, List.setIfInBounds_toArray, List.set_cons_zero, List.set_cons_succ])
  refine wpAnyZ_take 12 (v := ?va12_13) rfl (by kernel_rfl) (by kernel_rfl) (by kernel_rfl) (by kernel_rfl) (fun _ _ _ h => h) (by rfl) ?hya12_13 hS ?resta12_13
  case hya12_13 => (intro wx hSx; obtain ⟨s1, s2⟩ := hSx; go_simp; (try with_reducible rfl))
  (try simp only [Act.put, List.getElem_toArray, List.getElem_cons_zero, List.getElem_cons_succ, List.setIfInBounds_toArray, List.set_cons_zero, List.set_cons_succ])
  refine wpAnyZ_take 13 (v := ?va13_14) rfl (by kernel_rfl) (by kernel_rfl) (by kernel_rfl) (by kernel_rfl) (fun _ _ _ h => h) (by rfl) ?hya13_14 hS ?resta13_14
  case hya13_14 => (intro wx hSx; obtain ⟨s1, s2⟩ := hSx; go_simp; (try with_reducible rfl))
  (try simp only [Act.put, List.getElem_toArray, List.getElem_cons_zero, List.getElem_cons_succ, List.setIfInBounds_toArray, List.set_cons_zero, List.set_cons_succ])
  refine wpAnyZ_one 14 rfl (by kernel_rfl) (fun K hK => ?_)
  go_simp
  refine hK _ _ (fun _ => by rw [← hw7]; exact hS7) ?_
  clear hK K
  (try simp only [Act.put, List.getElem_toArray, List.getElem_cons_zero, List.getElem_cons_succ, List.setIfInBounds_toArray, List.set_cons_zero, List.set_cons_succ])
  have hsrc := src_i64 (P := Tryz.prog) w6 31 3 Tryz.underlying31 page
  rw [← hw7] at hsrc
  rw [← hw7]
  clear hw7
  have k07 := (HK1.out.then k6).then k7
  have R7 := HNS.out.kept k07 (by simp)
  unfold Ns at R7
  rw [← HQQ.out.1] at R7
  refine wpAnyZ_one 15 rfl (by kernel_rfl) (fun K hK => ?_)
  refine step_append_row2 rfl (.tmp 28) (.tmp 30) 31 rfl 0 3 infI (.int .i64 0) 1 8 Tryz.underlying31 HII.out.1 HII.out.2.1 HII.out.2.2.1 HII.out.2.2.2 rfl _ _ _ (by rfl) R7 _ 1 _ (by rfl) hsrc (by have e1 := HQQ.out.2; omega) (by have e1 := HQQ.out.2; unfold maxLen; omega) (by have e1 := HQQ.out.2; omega) (Nat.zero_le _) ?_
  intro v' w8 r8 k8 o8
  obtain ⟨p', c', hv', -⟩ := Row.shape r8
  subst hv'
  have FIN := sr_hold (w8 := w8) (v' := .slice p' (q + 1) c') (page := page) HR.out HX.out k07 (by rw [← HQQ.out.1]; exact r8) (by rw [← HQQ.out.1]; exact k8) (by rw [← HQQ.out.1]; exact o8) HBB.out.symm
  obtain ⟨c8, d8', f8, FIN⟩ := FIN
  rw [← HQQ.out.1] at d8'
  rw [← HN.out] at c8
  have hS8 := (⟨c8, d8'⟩ : (fun w' => w'.cell? ⟨g, 7, none⟩ = some (.slice (some ⟨gl, 0, none⟩) n ko) ∧ w'.cell? ⟨gl, k * 4 + 1, none⟩ = some (.slice pu q cu)) w8)
  try dsimp only at hS8
  have HFIN := @hideH _ FIN
  clear FIN r8 k8 o8 hsrc R7 k07 hS7 k7 hS k6 c8
  refine hK _ _ (fun _ => hS8) ?_
  clear hK K
  (try simp only [Act.put, List.getElem_toArray, List.getElem_cons_zero, List.getElem_cons_succ, List.setIfInBounds_toArray, List.set_cons_zero, List.set_cons_succ])
  refine wpAnyZ_one 16 rfl (by kernel_rfl) (fun K hK => ?_)
  go_simp
  refine hK _ _ (fun _ => hS8) ?_
  clear hK K
  (try simp only [Act.put, List.getElem_toArray, List.getElem_cons_zero, List.getElem_cons_succ, List.setIfInBounds_toArray, List.set_cons_zero, List.set_cons_succ])
  refine wpAnyZ_one 17 rfl (by kernel_rfl) (fun K hK => ?_)
  go_simp
  refine hK _ _ (fun _ => hS8) ?_
  clear hK K
  (try simp only [Act.put, List.getElem_toArray, List.getElem_cons_zero, List.getElem_cons_succ, List.setIfInBounds_toArray, List.set_cons_zero, List.set_cons_succ])
  refine wpAnyZ_one 18 rfl (by kernel_rfl) (fun K hK => ?_)
  go_simp
  refine hK _ _ (fun h => absurd rfl h) ?_
  clear hK K
  (try simp only [Act.put, List.getElem_toArray, List.getElem_cons_zero, List.getElem_cons_succ, List.setIfInBounds_toArray, List.set_cons_zero, List.set_cons_succ])
  refine wpAnyZ_done (by kernel_rfl) ?_ _
  obtain ⟨w9, hw9⟩ : ∃ wx, wx = w8.setCell ⟨gl, k * 4 + 1, none⟩ (.slice p' (q + 1) c') := ⟨_, rfl⟩
  rw [← hw9] at HFIN
  rw [← hw9]
  clear hw9 hS8 f8 d8'
  go_wp2
  go_end0
  obtain ⟨P', q1, q2, q3, q4⟩ := HFIN.out
  exact ⟨by first | rfl | simp, P', q1, q2, q3.mono (fun x hx => by simp [Value.ownBlock] at hx ⊢; exact hx), q4⟩
end Go.Proofs.YtocpagpkpibmaaaGreatDoor

/-
  OWN WORK. The model (layer 18): the document's State as the laws see it: what it tells, and its blocks.
-/
namespace Go.Proofs.YtocpagpkpibmaaaGreatDoor
open Go.RowKit
set_option linter.unusedVariables false
/-- at g lies the document's State that tells S, in the blocks F -/
def Sr (w : World) (g : Nat) (F : List Nat) (c : Cf) (S : St) : Prop := ∃ vd vo u D P, SrP w g c vd vo u D P ∧ S = SrP.st u D P ∧ OkS c S ∧ F = g :: blks (things vd vo D P)
theorem SrP.kept {w w' : World} {g : Nat} {c : Cf} {vd vo : Value} {u : Int} {D : List (List Chg × Value)} {P : List Pt} {Z : List Nat} (h : SrP w g c vd vo u D P) (k : Kept Z w w') (hZ : ∀ x ∈ g :: blks (things vd vo D P), x ∉ Z) : SrP w' g c vd vo u D P :=
  ⟨h.box.kept k (hZ g (by simp)), h.own.then k (fun x hx y hy => hZ y (List.mem_cons_of_mem _ (mem_blks.2 ⟨x, hx, hy⟩)))⟩
theorem SrP.lt {w : World} {g : Nat} {c : Cf} {vd vo : Value} {u : Int} {D : List (List Chg × Value)} {P : List Pt} (h : SrP w g c vd vo u D P) : ∀ x ∈ g :: blks (things vd vo D P), x < w.heap.size := by
  intro x hx
  rcases List.mem_cons.1 hx with rfl | hx
  · exact h.box.lt
  · obtain ⟨z, h1, h2⟩ := mem_blks.1 hx
    exact (h.own.lt z h1 x h2).1
theorem Sr.kept {w w' : World} {g : Nat} {F : List Nat} {c : Cf} {S : St} {Z : List Nat} (h : Sr w g F c S) (k : Kept Z w w') (hZ : ∀ x ∈ F, x ∉ Z) : Sr w' g F c S := by
  obtain ⟨vd, vo, u, D, P, h1, h2, h3, rfl⟩ := h
  exact ⟨vd, vo, u, D, P, h1.kept k hZ, h2, h3, rfl⟩
theorem Sr.lt {w : World} {g : Nat} {F : List Nat} {c : Cf} {S : St} (h : Sr w g F c S) : ∀ x ∈ F, x < w.heap.size := by
  obtain ⟨vd, vo, u, D, P, h1, h2, h3, rfl⟩ := h
  exact h1.lt
theorem Sr.ok {w : World} {g : Nat} {F : List Nat} {c : Cf} {S : St} (h : Sr w g F c S) : OkS c S := by
  obtain ⟨vd, vo, u, D, P, h1, h2, h3, rfl⟩ := h
  exact h3
theorem Fr.cons {w : World} {g : Nat} {A B : List Nat} (h : Fr w A B) : Fr w (g :: A) (g :: B) := fun x hx => by
  rcases List.mem_cons.1 hx with rfl | hx
  · exact .inl (List.mem_cons_self ..)
  · exact (h x hx).imp (fun q => List.mem_cons_of_mem _ q) id
/-- the blocks of a list are among all -/
theorem vo_in {vd vo : Value} {D : List (List Chg × Value)} {P : List Pt} {y : Nat} (h : vo.ownBlock = some y) : y ∈ blks (things vd vo D P) := mem_blks.2 ⟨(vo, fun w => Row w 0 4 vo P.length (ocells P)), by unfold things; simp, h⟩
theorem vd_in {vd vo : Value} {D : List (List Chg × Value)} {P : List Pt} {y : Nat} (h : vd.ownBlock = some y) : y ∈ blks (things vd vo D P) := mem_blks.2 ⟨(vd, fun w => Row w 0 1 vd D.length (D.map Prod.snd)), by unfold things; simp, h⟩
theorem three_in {vd vo : Value} {D : List (List Chg × Value)} {P : List Pt} {p : Pt} (hp : p ∈ P) {x : Value × (World → Prop)} (hx : x ∈ three p) {y : Nat} (h : x.1.ownBlock = some y) : y ∈ blks (things vd vo D P) := mem_blks.2 ⟨x, by unfold things; exact List.mem_cons_of_mem _ (List.mem_cons_of_mem _ (List.mem_append_right _ (List.mem_flatMap.2 ⟨p, hp, hx⟩))), h⟩
theorem pages_in {vd vo : Value} {D : List (List Chg × Value)} {P : List Pt} {p : Pt} (hp : p ∈ P) {y : Nat} (h : p.2.1.ownBlock = some y) : y ∈ blks (things vd vo D P) := three_in hp (x := (p.2.1, fun w => Ns w 0 p.2.1 p.1.pages)) (by unfold three; simp) h
theorem chs_in {vd vo : Value} {D : List (List Chg × Value)} {P : List Pt} {p : Pt} (hp : p ∈ P) {y : Nat} (h : p.2.2.1.ownBlock = some y) : y ∈ blks (things vd vo D P) := three_in hp (x := (p.2.2.1, fun w => Cs w 0 p.2.2.1 p.1.chs)) (by unfold three; simp) h
theorem lens_in {vd vo : Value} {D : List (List Chg × Value)} {P : List Pt} {p : Pt} (hp : p ∈ P) {y : Nat} (h : p.2.2.2.ownBlock = some y) : y ∈ blks (things vd vo D P) := three_in hp (x := (p.2.2.2, fun w => Ns w 0 p.2.2.2 p.1.lens)) (by unfold three; simp) h
/-- one is open no more, its list in a new block -/
theorem over_fr {w : World} {vd vo vl : Value} {D : List (List Chg × Value)} {P : List Pt} {k : Nat} (hv : ∀ y, vl.ownBlock = some y → w.heap.size ≤ y) : Fr w (blks (things vd vo D P)) (blks (things vd vl D (P.eraseIdx k))) := by
  intro y hy
  obtain ⟨x, hx, e⟩ := mem_blks.1 hy
  unfold things at hx
  rcases List.mem_cons.1 hx with rfl | hx
  · exact .inl (vd_in e)
  · rcases List.mem_cons.1 hx with rfl | hx
    · exact .inr (hv y e)
    · rcases List.mem_append.1 hx with hx | hx
      · exact .inl (mem_blks.2 ⟨x, by unfold things; exact List.mem_cons_of_mem _ (List.mem_cons_of_mem _ (List.mem_append_left _ hx)), e⟩)
      · obtain ⟨p, hp, hx⟩ := List.mem_flatMap.1 hx
        exact .inl (three_in ((List.eraseIdx_sublist ..).subset hp) hx e)
theorem sr_k {P : List Pt} {k : Nat} {x : Pt} (h : P[k]? = some x) : (P.map Prod.fst)[k]? = some x.1 := by rw [List.getElem?_map, h]; rfl
end Go.Proofs.YtocpagpkpibmaaaGreatDoor

/-
  OWN WORK (by mkpne.py). The document's State (layer 18): a row's lengths and changes are lengthened.
-/
namespace Go.Proofs.YtocpagpkpibmaaaGreatDoor
open Go.RowKit
set_option linter.unusedVariables false
set_option linter.unusedSimpArgs false

theorem ccells_snoc (l : List Chg) (x : Chg) : ccells (l ++ [x]) = ccells l ++ [.int .i64 x.key, .int .u64 x.val, .bool x.gone] := by rw [ccells_append]; rfl
theorem perm_21 {α : Type} (a b c : α) : [a, b, c].Perm [b, a, c] := List.Perm.swap _ _ _
theorem perm_31 {α : Type} (a b c : α) : [a, b, c].Perm [c, a, b] := ((List.Perm.swap c b []).cons a).trans (List.Perm.swap c a [b])
theorem perm_12 {α : Type} (a b c : α) : [b, a, c].Perm [a, b, c] := List.Perm.swap _ _ _
theorem perm_13 {α : Type} (a b c : α) : [c, a, b].Perm [a, b, c] := (perm_31 a b c).symm
theorem ocells_set3' : ∀ (l : List Pt) (k : Nat) (t t' : Tn) (v1 v2 v3 v' : Value), l[k]? = some (t, v1, v2, v3) → t'.id = t.id → ocells (l.set k (t', v1, v2, v')) = (ocells l).set (k * 4 + 3) v'
  | [], k, t, t', v1, v2, v3, v', h, _ => by simp at h
  | y :: r, 0, t, t', v1, v2, v3, v', h, e => by simp at h; subst h; simp [ocells, e]
  | y :: r, k + 1, t, t', v1, v2, v3, v', h, e => by
    have q := ocells_set3' r k t t' v1 v2 v3 v' (by simpa using h) e
    rw [show (k + 1) * 4 = k * 4 + 4 by omega]
    simp only [List.set_cons_succ, ocells, q]
theorem sr_len {w w7 w8 : World} {g : Nat} {c : Cf} {vd : Value} {u : Int} {D : List (List Chg × Value)} {P : List Pt} {gl n cap k : Nat} {t : Tn} {v1 v2 v3 v' : Value} {m : Int} (h : SrP w g c vd (.slice (some ⟨gl, 0, none⟩) n cap) u D P) (hk : P[k]? = some (t, v1, v2, v3)) (k7 : Kept [] w w7) (r8 : Row w8 0 1 v' (t.lens.length + 1) (i64s t.lens ++ [.int .i64 m])) (k8 : Kept v3.ownBlock.toList w7 w8) (o8 : v'.ownBlock = v3.ownBlock ∨ (v'.ownBlock = some w7.heap.size ∧ Kept [] w7 w8)) :
    w8.cell? ⟨g, 7, none⟩ = some (.slice (some ⟨gl, 0, none⟩) n cap) ∧ w8.cell? ⟨gl, k * 4 + 3, none⟩ = some v3 ∧ w8.frozen? ⟨gl, k * 4 + 3, none⟩ = false ∧ SrP (w8.setCell ⟨gl, k * 4 + 3, none⟩ v') g c vd (.slice (some ⟨gl, 0, none⟩) n cap) u D (P.set k (⟨t.id, t.pages, t.chs, t.lens ++ [m]⟩, v1, v2, v')) ∧ Kept (gl :: v3.ownBlock.toList) w (w8.setCell ⟨gl, k * 4 + 3, none⟩ v') ∧ Fr w (blks (things vd (.slice (some ⟨gl, 0, none⟩) n cap) D P)) (blks (things vd (.slice (some ⟨gl, 0, none⟩) n cap) D (P.set k (⟨t.id, t.pages, t.chs, t.lens ++ [m]⟩, v1, v2, v')))) ∧ (∀ y, y ∈ gl :: v3.ownBlock.toList → y ∈ blks (things vd (.slice (some ⟨gl, 0, none⟩) n cap) D P)) := by
  have hz := k7.size
  have k08 : Kept v3.ownBlock.toList w w8 := (k7.mono (T := v3.ownBlock.toList) (by simp)).trans k8 (fun x hx => .inl hx)
  have hN : Ns w8 0 v' (t.lens ++ [m]) := by unfold Ns; rw [List.length_append, show i64s (t.lens ++ [m]) = i64s t.lens ++ [.int .i64 m] by simp [i64s]]; exact r8
  have hone : v'.oneCell' = true := by obtain ⟨p, c, e, -⟩ := hN.shape; rw [e]; rfl
  obtain ⟨-, q2, q3, q4, q5⟩ := sr_setRow (off := 3) (p' := (⟨t.id, t.pages, t.chs, t.lens ++ [m]⟩, v1, v2, v')) (v := v3) (v' := v') (A := fun w => Ns w 0 v3 t.lens) (A' := fun w => Ns w 0 v' (t.lens ++ [m])) (R := [(v1, fun w => Ns w 0 v1 t.pages), (v2, fun w => Cs w 0 v2 t.chs)]) h hk (perm_31 _ _ _) (perm_13 _ _ _) k08 hN (Row.stays _ _ _ _ _) (fun y hy => by
    rcases o8 with q | ⟨q, -⟩
    · exact .inl (by rw [← q]; exact hy)
    · exact .inr ⟨by rw [q] at hy; cases hy; omega, (Row.lt hN y hy).2⟩) hone (by omega) (ocells_set3' P k t _ v1 v2 v3 v' hk rfl)
  have hin : (v3, fun w => Ns w 0 v3 t.lens) ∈ things vd (.slice (some ⟨gl, 0, none⟩) n cap) D P := by unfold things; exact List.mem_cons_of_mem _ (List.mem_cons_of_mem _ (List.mem_append_right _ (List.mem_flatMap.2 ⟨_, List.mem_of_getElem? hk, by unfold three; simp⟩)))
  have hgv : g ∉ v3.ownBlock.toList := fun hm => (h.own.lt _ hin g (own_mem.1 hm)).2 rfl
  obtain ⟨gl', e, -, d1, d2, d3⟩ := h.at hk
  cases e
  have hglv : gl ∉ v3.ownBlock.toList := fun hm => by
    have hp := (List.pairwise_cons.1 (List.pairwise_cons.1 (show (things vd (.slice (some ⟨gl, 0, none⟩) n cap) D P).Pairwise (fun a b => Ap a.1 b.1) from h.own.ap)).2).1 (v3, fun w => Ns w 0 v3 t.lens) (List.mem_append_right _ (List.mem_flatMap.2 ⟨_, List.mem_of_getElem? hk, by unfold three; simp⟩))
    exact hp gl rfl (own_mem.1 hm)
  refine ⟨k08.cell (h.box.cell (j := 7) rfl) hgv, k08.cell d3 hglv, q2, q3, q4, q5, fun y hy => ?_⟩
  rcases List.mem_cons.1 hy with rfl | hy
  · exact vo_in rfl
  · exact mem_blks.2 ⟨_, hin, own_mem.1 hy⟩
theorem ocells_set2' : ∀ (l : List Pt) (k : Nat) (t t' : Tn) (v1 v2 v3 v' : Value), l[k]? = some (t, v1, v2, v3) → t'.id = t.id → ocells (l.set k (t', v1, v', v3)) = (ocells l).set (k * 4 + 2) v'
  | [], k, t, t', v1, v2, v3, v', h, _ => by simp at h
  | y :: r, 0, t, t', v1, v2, v3, v', h, e => by simp at h; subst h; simp [ocells, e]
  | y :: r, k + 1, t, t', v1, v2, v3, v', h, e => by
    have q := ocells_set2' r k t t' v1 v2 v3 v' (by simpa using h) e
    rw [show (k + 1) * 4 = k * 4 + 4 by omega]
    simp only [List.set_cons_succ, ocells, q]
theorem sr_chs {w w7 w8 : World} {g : Nat} {c : Cf} {vd : Value} {u : Int} {D : List (List Chg × Value)} {P : List Pt} {gl n cap k : Nat} {t : Tn} {v1 v2 v3 v' : Value} {x : Chg} (h : SrP w g c vd (.slice (some ⟨gl, 0, none⟩) n cap) u D P) (hk : P[k]? = some (t, v1, v2, v3)) (k7 : Kept [] w w7) (r8 : Row w8 0 3 v' (t.chs.length + 1) (ccells t.chs ++ [.int .i64 x.key, .int .u64 x.val, .bool x.gone])) (k8 : Kept v2.ownBlock.toList w7 w8) (o8 : v'.ownBlock = v2.ownBlock ∨ (v'.ownBlock = some w7.heap.size ∧ Kept [] w7 w8)) :
    w8.cell? ⟨g, 7, none⟩ = some (.slice (some ⟨gl, 0, none⟩) n cap) ∧ w8.cell? ⟨gl, k * 4 + 2, none⟩ = some v2 ∧ w8.frozen? ⟨gl, k * 4 + 2, none⟩ = false ∧ SrP (w8.setCell ⟨gl, k * 4 + 2, none⟩ v') g c vd (.slice (some ⟨gl, 0, none⟩) n cap) u D (P.set k (⟨t.id, t.pages, t.chs ++ [x], t.lens⟩, v1, v', v3)) ∧ Kept (gl :: v2.ownBlock.toList) w (w8.setCell ⟨gl, k * 4 + 2, none⟩ v') ∧ Fr w (blks (things vd (.slice (some ⟨gl, 0, none⟩) n cap) D P)) (blks (things vd (.slice (some ⟨gl, 0, none⟩) n cap) D (P.set k (⟨t.id, t.pages, t.chs ++ [x], t.lens⟩, v1, v', v3)))) ∧ (∀ y, y ∈ gl :: v2.ownBlock.toList → y ∈ blks (things vd (.slice (some ⟨gl, 0, none⟩) n cap) D P)) := by
  have hz := k7.size
  have k08 : Kept v2.ownBlock.toList w w8 := (k7.mono (T := v2.ownBlock.toList) (by simp)).trans k8 (fun x hx => .inl hx)
  have hN : Cs w8 0 v' (t.chs ++ [x]) := by unfold Cs; rw [List.length_append, ccells_snoc]; exact r8
  have hone : v'.oneCell' = true := by obtain ⟨p, c, e, -⟩ := hN.shape; rw [e]; rfl
  obtain ⟨-, q2, q3, q4, q5⟩ := sr_setRow (off := 2) (p' := (⟨t.id, t.pages, t.chs ++ [x], t.lens⟩, v1, v', v3)) (v := v2) (v' := v') (A := fun w => Cs w 0 v2 t.chs) (A' := fun w => Cs w 0 v' (t.chs ++ [x])) (R := [(v1, fun w => Ns w 0 v1 t.pages), (v3, fun w => Ns w 0 v3 t.lens)]) h hk (perm_21 _ _ _) (perm_12 _ _ _) k08 hN (Row.stays _ _ _ _ _) (fun y hy => by
    rcases o8 with q | ⟨q, -⟩
    · exact .inl (by rw [← q]; exact hy)
    · exact .inr ⟨by rw [q] at hy; cases hy; omega, (Row.lt hN y hy).2⟩) hone (by omega) (ocells_set2' P k t _ v1 v2 v3 v' hk rfl)
  have hin : (v2, fun w => Cs w 0 v2 t.chs) ∈ things vd (.slice (some ⟨gl, 0, none⟩) n cap) D P := by unfold things; exact List.mem_cons_of_mem _ (List.mem_cons_of_mem _ (List.mem_append_right _ (List.mem_flatMap.2 ⟨_, List.mem_of_getElem? hk, by unfold three; simp⟩)))
  have hgv : g ∉ v2.ownBlock.toList := fun hm => (h.own.lt _ hin g (own_mem.1 hm)).2 rfl
  obtain ⟨gl', e, -, d1, d2, d3⟩ := h.at hk
  cases e
  have hglv : gl ∉ v2.ownBlock.toList := fun hm => by
    have hp := (List.pairwise_cons.1 (List.pairwise_cons.1 (show (things vd (.slice (some ⟨gl, 0, none⟩) n cap) D P).Pairwise (fun a b => Ap a.1 b.1) from h.own.ap)).2).1 (v2, fun w => Cs w 0 v2 t.chs) (List.mem_append_right _ (List.mem_flatMap.2 ⟨_, List.mem_of_getElem? hk, by unfold three; simp⟩))
    exact hp gl rfl (own_mem.1 hm)
  refine ⟨k08.cell (h.box.cell (j := 7) rfl) hgv, k08.cell d2 hglv, q2, q3, q4, q5, fun y hy => ?_⟩
  rcases List.mem_cons.1 hy with rfl | hy
  · exact vo_in rfl
  · exact mem_blks.2 ⟨_, hin, own_mem.1 hy⟩
theorem src_chg {P : Program} (w : World) (t e : TypeId) (ht : P.underlying t = some (.slice e)) (x : Chg) : Src P 3 t (.slice (some ⟨w.heap.size, 0, none⟩) 1 1) 1 [.int .i64 x.key, .int .u64 x.val, .bool x.gone] (w.alloc (.cells #[.int .i64 x.key, .int .u64 x.val, .bool x.gone] e)) := by
  refine Src.ofSlice _ ht _ _ _ _ rfl (fun j u hj => ?_) (fun u hu => ?_)
  · rw [add_none rfl]
    have q := (Blk.new w e [.int .i64 x.key, .int .u64 x.val, .bool x.gone]).cell hj
    simpa using q
  · simp at hu
    rcases hu with rfl | rfl | rfl <;> rfl
end Go.Proofs.YtocpagpkpibmaaaGreatDoor

/-
  OWN WORK. The model (layer 18): rows of sixteen bytes; the bytes of numbers.
-/
namespace Go.Proofs.YtocpagpkpibmaaaGreatDoor
open Go.RowKit
set_option linter.unusedVariables false
set_option linter.unusedSimpArgs false

theorem blk_setCells_aux {g : Nat} {t : TypeId} : ∀ (vs pre post old : List Value) (w : World), old.length = vs.length → Blk w g t (pre ++ old ++ post) → Blk (w.setCells g pre.length vs) g t (pre ++ vs ++ post)
  | [], pre, post, old, w, hl, h => by
    obtain rfl : old = [] := List.eq_nil_of_length_eq_zero (by simpa using hl)
    exact h
  | v :: r, pre, post, o :: old, w, hl, h => by
    obtain ⟨q, -⟩ := h.set pre.length v
    have e : (pre ++ (o :: old) ++ post).set pre.length v = (pre ++ [v]) ++ old ++ post := by
      rw [List.append_assoc, List.set_append_right _ _ (Nat.le_refl _), Nat.sub_self]
      simp
    rw [e] at q
    have ih := blk_setCells_aux r (pre ++ [v]) post old _ (by simpa using hl) q
    rw [World.setCells]
    rw [show (pre ++ [v]).length = pre.length + 1 by simp] at ih
    simpa using ih
theorem blk_setCells {w : World} {g : Nat} {t : TypeId} {old : List Value} (h : Blk w g t old) (vs : List Value) (hl : vs.length = old.length) : Blk (w.setCells g 0 vs) g t vs := by
  have q := blk_setCells_aux vs [] [] old w hl.symm (by simpa using h)
  simpa using q
def b8 (l : List Int) : List Value := l.map (Value.int .u8)
theorem b8_at {l : List Int} {j : Nat} {x : Int} (h : l[j]? = some x) : (b8 l)[j]? = some (.int .u8 x) := by simp [b8, h]
theorem b8_set (l : List Int) (j : Nat) (x : Int) : (b8 l).set j (.int .u8 x) = b8 (l.set j x) := by simp [b8, List.map_set]
def shr : Nat → Int → Int
  | 0, v => v
  | i + 1, v => shr i v / 256
theorem shr_next (i : Nat) (v : Int) : shr i (v / 256) = shr (i + 1) v := by
  induction i with
  | zero => rfl
  | succ i ih => simp only [shr] at *; rw [ih]
theorem digits_snoc : ∀ (i : Nat) (v : Int), digits (i + 1) v = digits i v ++ [shr i v % 256]
  | 0, v => rfl
  | i + 1, v => by
    rw [show digits (i + 1 + 1) v = (v % 256) :: digits (i + 1) (v / 256) from rfl, digits_snoc i (v / 256), shr_next]
    rfl
theorem shr_pos {v : Int} (h : 0 ≤ v) : ∀ i : Nat, 0 ≤ shr i v ∧ shr i v ≤ v
  | 0 => ⟨h, Int.le_refl _⟩
  | i + 1 => by have := shr_pos h i; simp only [shr]; omega
def part (A : List Int) (m i : Nat) (v : Int) : List Int := A ++ digits i v ++ zeros (m - i)
theorem part_zero (A : List Int) (m : Nat) (v : Int) : part A m 0 v = A ++ zeros m := by simp [part, digits]
theorem part_all (A : List Int) (m : Nat) (v : Int) : part A m m v = A ++ digits m v := by simp [part, zeros]
theorem part_next (A : List Int) {m i : Nat} (h : i < m) (v : Int) : (part A m i v).set (A.length + i) (shr i v % 256) = part A m (i + 1) v := by
  have e : (A ++ digits i v).length = A.length + i := by simp [digits_length]
  unfold part
  rw [List.set_append_right _ _ (by omega), e, Nat.sub_self, show m - i = (m - (i + 1)) + 1 by omega, zeros, List.replicate_succ, List.set_cons_zero, digits_snoc]
  simp [zeros]
theorem part_old (A : List Int) {m i : Nat} (h : i < m) (v : Int) : (part A m i v)[A.length + i]? = some 0 := by
  have e : (A ++ digits i v).length = A.length + i := by simp [digits_length]
  unfold part
  rw [List.getElem?_append_right (by omega), e, Nat.sub_self, show m - i = (m - (i + 1)) + 1 by omega, zeros, List.replicate_succ]
  rfl
theorem len16 {hs : List Int} (h : hs.length = 16) : ∃ x0 x1 x2 x3 x4 x5 x6 x7 x8 x9 x10 x11 x12 x13 x14 x15, hs = [x0, x1, x2, x3, x4, x5, x6, x7, x8, x9, x10, x11, x12, x13, x14, x15] := by
  match hs, h with
  | [x0, x1, x2, x3, x4, x5, x6, x7, x8, x9, x10, x11, x12, x13, x14, x15], _ => exact ⟨x0, x1, x2, x3, x4, x5, x6, x7, x8, x9, x10, x11, x12, x13, x14, x15, rfl⟩
theorem b8_length (l : List Int) : (b8 l).length = l.length := by simp [b8]
theorem b8_all (l : List Int) : (b8 l).toArray.all (·.oneCell') = true := by
  simp [b8, Value.oneCell']
theorem run_range {P : Program} {w : World} {g : Nat} {t : TypeId} {L : List Int} {d : TypeDesc} (T : TypeId) (hi : (P.info? T).map (·.size) = some 16) (hu : P.underlying T = some d) (hd : d.isRow = true) (hl : L.length = 16) (h : Blk w g t (b8 L)) : w.rangeAt g 0 (b8 L) := fun j v hv => by
  have := h.cell hv
  simpa using this
theorem run_over16 {P : Program} {w : World} {g : Nat} {t : TypeId} {L Z : List Int} (T : TypeId) (hi : (P.info? T).map (·.size) = some 16) (h : Blk w g t (b8 Z)) (hl : L.length = 16) (hz : Z.length = 16 := by rfl) : w.there g 0 (b8 L).toArray.size ∧ True ∧ Blk (w.setCells g 0 (b8 L)) g t (b8 L) ∧ Kept [g] w (w.setCells g 0 (b8 L)) := by
  refine ⟨fun j hj => ?_, trivial, ?_, kept_setCells g _ 0 w⟩
  · rw [List.size_toArray, b8_length, hl] at hj
    obtain ⟨x, hx⟩ : ∃ x, (b8 Z)[j]? = some x := ⟨_, List.getElem?_eq_getElem (by rw [b8_length, hz]; exact hj)⟩
    have c := h.cell hx
    refine ⟨?_, h.free _⟩
    rw [Nat.zero_add, c]; rfl
  · have q := blk_setCells h (b8 L) (by rw [b8_length, b8_length, hl, hz])
    exact q
theorem run_whole {P : Program} {w : World} {g : Nat} {t : TypeId} {L : List Int} {d : TypeDesc} (T : TypeId) (hi : (P.info? T).map (·.size) = some 16) (hu : P.underlying T = some d) (hd : d.isRow = true) (hl : L.length = 16) (h : Blk w g t (b8 L)) : (loadVar T ⟨g, 0, none⟩).run P w = .ok (.agg (b8 L).toArray) w :=
  run_loadVar_mid w g 0 T (b8 L) d (run_range T hi hu hd hl h) hu hd (by rw [b8_length, hl]; exact hi)
def SlotIs (a b : List Int) : Prop := a = b
theorem SlotIs.eq {a b : List Int} (h : SlotIs a b) : a = b := h
theorem Blk.fill16 {w : World} {g : Nat} {t : TypeId} {z0 z1 z2 z3 z4 z5 z6 z7 z8 z9 z10 z11 z12 z13 z14 z15 : Value} (h : Blk w g t [z0, z1, z2, z3, z4, z5, z6, z7, z8, z9, z10, z11, z12, z13, z14, z15]) (v0 v1 v2 v3 v4 v5 v6 v7 v8 v9 v10 v11 v12 v13 v14 v15 : Value) : Blk ((((((((((((((((w.setCell ⟨g, 0, none⟩ v0).setCell ⟨g, 1, none⟩ v1).setCell ⟨g, 2, none⟩ v2).setCell ⟨g, 3, none⟩ v3).setCell ⟨g, 4, none⟩ v4).setCell ⟨g, 5, none⟩ v5).setCell ⟨g, 6, none⟩ v6).setCell ⟨g, 7, none⟩ v7).setCell ⟨g, 8, none⟩ v8).setCell ⟨g, 9, none⟩ v9).setCell ⟨g, 10, none⟩ v10).setCell ⟨g, 11, none⟩ v11).setCell ⟨g, 12, none⟩ v12).setCell ⟨g, 13, none⟩ v13).setCell ⟨g, 14, none⟩ v14).setCell ⟨g, 15, none⟩ v15) g t [v0, v1, v2, v3, v4, v5, v6, v7, v8, v9, v10, v11, v12, v13, v14, v15] ∧ Kept [g] w ((((((((((((((((w.setCell ⟨g, 0, none⟩ v0).setCell ⟨g, 1, none⟩ v1).setCell ⟨g, 2, none⟩ v2).setCell ⟨g, 3, none⟩ v3).setCell ⟨g, 4, none⟩ v4).setCell ⟨g, 5, none⟩ v5).setCell ⟨g, 6, none⟩ v6).setCell ⟨g, 7, none⟩ v7).setCell ⟨g, 8, none⟩ v8).setCell ⟨g, 9, none⟩ v9).setCell ⟨g, 10, none⟩ v10).setCell ⟨g, 11, none⟩ v11).setCell ⟨g, 12, none⟩ v12).setCell ⟨g, 13, none⟩ v13).setCell ⟨g, 14, none⟩ v14).setCell ⟨g, 15, none⟩ v15) := by
  have b0 := h.set 0 v0
  have b1 := b0.1.set 1 v1
  have b2 := b1.1.set 2 v2
  have b3 := b2.1.set 3 v3
  have b4 := b3.1.set 4 v4
  have b5 := b4.1.set 5 v5
  have b6 := b5.1.set 6 v6
  have b7 := b6.1.set 7 v7
  have b8 := b7.1.set 8 v8
  have b9 := b8.1.set 9 v9
  have b10 := b9.1.set 10 v10
  have b11 := b10.1.set 11 v11
  have b12 := b11.1.set 12 v12
  have b13 := b12.1.set 13 v13
  have b14 := b13.1.set 14 v14
  have b15 := b14.1.set 15 v15
  exact ⟨b15.1, (((((((((((((((b0.2.trans b1.2 (by simp)).trans b2.2 (by simp)).trans b3.2 (by simp)).trans b4.2 (by simp)).trans b5.2 (by simp)).trans b6.2 (by simp)).trans b7.2 (by simp)).trans b8.2 (by simp)).trans b9.2 (by simp)).trans b10.2 (by simp)).trans b11.2 (by simp)).trans b12.2 (by simp)).trans b13.2 (by simp)).trans b14.2 (by simp)).trans b15.2 (by simp))⟩
end Go.Proofs.YtocpagpkpibmaaaGreatDoor

/-
  OWN WORK (by mkpn4.py). The document's State (layer 18): a slot's bytes.
-/
namespace Go.Proofs.YtocpagpkpibmaaaGreatDoor
open Go.RowKit
set_option linter.unusedVariables false
set_option linter.unusedSimpArgs false

set_option maxRecDepth 20000 in
set_option maxHeartbeats 25600000 in
theorem rSlotF (key v : Int) (w : World) (hk : 0 ≤ key ∧ key < 4294967296) (hv : 0 ≤ v ∧ v < 18446744073709551616) : Calls Tryz.prog 103 #[.int .i64 key, .int .u64 v, .bool false] w fun e w' => e = .returned (.agg (b8 (slotL key v false)).toArray) ∧ Kept [] w w' := by
  obtain ⟨w1, hw1⟩ : ∃ wx, wx = w.alloc (.cells #[.int .u8 0, .int .u8 0, .int .u8 0, .int .u8 0, .int .u8 0, .int .u8 0, .int .u8 0, .int .u8 0, .int .u8 0, .int .u8 0, .int .u8 0, .int .u8 0, .int .u8 0, .int .u8 0, .int .u8 0, .int .u8 0] 136) := ⟨_, rfl⟩
  have k1 : Kept [] w w1 := by rw [hw1]; exact (Kept.refl [] w).alloc _
  have B1 : Blk w1 w.heap.size 136 (b8 (zeros 16)) := by rw [hw1]; exact Blk.new w _ _
  obtain ⟨w2, hw2⟩ : ∃ wx, wx = w1.alloc (.cells #[.int .u8 0, .int .u8 0, .int .u8 0, .int .u8 0, .int .u8 0, .int .u8 0, .int .u8 0, .int .u8 0, .int .u8 0, .int .u8 0, .int .u8 0, .int .u8 0, .int .u8 0, .int .u8 0, .int .u8 0, .int .u8 0] 136) := ⟨_, rfl⟩
  have k2 : Kept [] w1 w2 := by rw [hw2]; exact (Kept.refl [] w1).alloc _
  have B2 : Blk w2 w1.heap.size 136 (b8 (zeros 16)) := by rw [hw2]; exact Blk.new w1 _ _
  have e1 : w1.heap.size = w.heap.size + 1 := by rw [hw1, World.size_alloc]
  rw [e1] at B2
  have HB := @hideH _ (And.intro (B1.kept k2 (by simp)) (And.intro B2 (k1.then k2)))
  clear k1 k2 B1 B2
  clear hk hv
  have B1 := HB.out.1
  have B2 := HB.out.2.1
  go_enter Tryz.func103, Tryz.ntmps103
  go_upto_region 2 with fail
  rw [← hw1, ← hw2]
  clear hw1 hw2 e1
  go_upto_region 3 with fail
  obtain ⟨L, hL⟩ : ∃ L : List Int, L = zeros 16 := ⟨_, rfl⟩
  rw [← hL] at B2
  have HL := @hideH _ (And.intro hL (show L.length = 16 by rw [hL]; simp [digits_length, zeros]))
  clear hL
  have hld := run_range (P := Tryz.prog) 136 (by kernel_rfl) Tryz.underlying136 rfl HL.out.2 B2
  obtain ⟨ht, hst, B4, k4⟩ := run_over16 (P := Tryz.prog) 136 (by kernel_rfl) B1 HL.out.2
  obtain ⟨w4, hw4⟩ : ∃ wx, wx = w2.setCells w.heap.size 0 (b8 L) := ⟨_, rfl⟩
  rw [← hw4] at B4 k4
  have HB4 := @hideH _ B4
  have HK4 := @hideH _ k4
  clear B1 B2 B4 k4 hst
  refine wp_region_lit ?_
  refine wpList_load_mid rfl 136 (.tmp 7) rfl (w.heap.size + 1) 0 (by rfl) (b8 L) _ hld Tryz.underlying136 rfl (by rw [b8_length, HL.out.2]; kernel_rfl) ?_
  refine wpList_store_mid rfl 136 (.tmp 6) (.tmp 12) rfl w.heap.size 0 (b8 L).toArray (by rfl) (by rfl) ht (by rw [List.size_toArray, b8_length, HL.out.2]; kernel_rfl) (b8_all L) ?_
  rw [show ((b8 L).toArray.toList) = b8 L from rfl, ← hw4]
  clear hw4 ht hld
  go_wp2
  refine bodyPost_ret (v := .agg (b8 L).toArray) (results_cell_row Tryz.results103 _ w4 w.heap.size 136 (b8 L).toArray (0, 0) _ (by rfl) HB4.out Tryz.underlying136 rfl (by rw [List.size_toArray, b8_length, HL.out.2]; kernel_rfl)) rfl ?_
  exact ⟨by rw [HL.out.1]; rfl, HB.out.2.2.trans HK4.out (fun y hy => .inr (by simp at hy; omega))⟩
set_option maxRecDepth 20000 in
set_option maxHeartbeats 25600000 in
theorem rSlotT (key v : Int) (w : World) (hk : 0 ≤ key ∧ key < 4294967296) (hv : 0 ≤ v ∧ v < 18446744073709551616) : Calls Tryz.prog 103 #[.int .i64 key, .int .u64 v, .bool true] w fun e w' => e = .returned (.agg (b8 (slotL key v true)).toArray) ∧ Kept [] w w' := by
  obtain ⟨w1, hw1⟩ : ∃ wx, wx = w.alloc (.cells #[.int .u8 0, .int .u8 0, .int .u8 0, .int .u8 0, .int .u8 0, .int .u8 0, .int .u8 0, .int .u8 0, .int .u8 0, .int .u8 0, .int .u8 0, .int .u8 0, .int .u8 0, .int .u8 0, .int .u8 0, .int .u8 0] 136) := ⟨_, rfl⟩
  have k1 : Kept [] w w1 := by rw [hw1]; exact (Kept.refl [] w).alloc _
  have B1 : Blk w1 w.heap.size 136 (b8 (zeros 16)) := by rw [hw1]; exact Blk.new w _ _
  obtain ⟨w2, hw2⟩ : ∃ wx, wx = w1.alloc (.cells #[.int .u8 0, .int .u8 0, .int .u8 0, .int .u8 0, .int .u8 0, .int .u8 0, .int .u8 0, .int .u8 0, .int .u8 0, .int .u8 0, .int .u8 0, .int .u8 0, .int .u8 0, .int .u8 0, .int .u8 0, .int .u8 0] 136) := ⟨_, rfl⟩
  have k2 : Kept [] w1 w2 := by rw [hw2]; exact (Kept.refl [] w1).alloc _
  have B2 : Blk w2 w1.heap.size 136 (b8 (zeros 16)) := by rw [hw2]; exact Blk.new w1 _ _
  have e1 : w1.heap.size = w.heap.size + 1 := by rw [hw1, World.size_alloc]
  rw [e1] at B2
  have HB := @hideH _ (And.intro (B1.kept k2 (by simp)) (And.intro B2 (k1.then k2)))
  clear k1 k2 B1 B2
  have HKV := @hideH _ (And.intro hk hv)
  clear hk hv
  have B2 := HB.out.2.1
  have c0 := B2.cell (j := 0) (v := .int .u8 0) rfl
  have f0 := B2.free 0
  obtain ⟨w3, hw3⟩ : ∃ wx, wx = w2.setCell ⟨w.heap.size + 1, 0, none⟩ (.int .u8 1) := ⟨_, rfl⟩
  obtain ⟨BS, kS⟩ := B2.set 0 (.int .u8 1)
  rw [← hw3] at BS kS
  have HC := @hideH _ (show Blk w3 w.heap.size 136 (b8 (zeros 16)) ∧ Blk w3 (w.heap.size + 1) 136 (b8 (part [1, 0, 0, 0] 12 0 key)) ∧ Kept [] w w3 from ⟨HB.out.1.kept kS (by simp), BS, HB.out.2.2.trans kS (fun y hy => .inr (by simp at hy; omega))⟩)
  clear B2 BS kS HB
  go_enter Tryz.func103, Tryz.ntmps103
  go_upto_region 2 with fail
  rw [← hw1, ← hw2]
  clear hw1 hw2
  go_upto_region 5 with fail
  rw [← hw3]
  clear hw3 e1 c0 f0
  go_wp2
  go_loopw [0, 8] (fun vx vi wr => ∃ j : Nat, j ≤ 4 ∧ vi = .int .i64 j ∧ vx = .int .i64 (shr j key) ∧ Hid (Blk wr w.heap.size 136 (b8 (zeros 16)) ∧ Blk wr (w.heap.size + 1) 136 (b8 (part ([1, 0, 0, 0]) 12 j key)) ∧ Kept [] w wr)) (fun _ vi _ => 4 - (intOf vi).toNat)
  case atStart => exact ⟨0, by omega, rfl, rfl, HC.out⟩
  case round =>
    obtain ⟨j, hj, rfl, rfl, hh⟩ := hrel
    by_cases hjl : j < 4
    · have hjl' : (j : Int) < (4 : Int) := by omega
      have hj0 : (0 : Int) ≤ (j : Int) := by omega
      have wj : IntKind.i64.wrap ((j : Int) + 1) = (j : Int) + 1 := wrap_i64_of (by omega) (by omega)
      have wo : IntKind.i64.wrap (4 + (j : Int)) = ((4 + j : Nat) : Int) := by rw [wrap_i64_of (by omega) (by omega)]; omega
      have ho1 : ((4 + j : Nat) : Int) < 16 := by omega
      have ho0 : (0 : Int) ≤ ((4 + j : Nat) : Int) := by omega
      have hs := shr_pos (v := key) HKV.out.1.1 j
      have BA := hh.out.2.1
      have cA := BA.cell (b8_at (part_old ([1, 0, 0, 0]) (m := 12) (i := j) (by omega) key))
      rw [show ([1, 0, 0, 0] : List Int).length + j = 4 + j by simp [digits_length]] at cA
      have fA := BA.free (4 + j)
      obtain ⟨y, hy⟩ : ∃ y, y = shr j key % 256 := ⟨_, rfl⟩
      obtain ⟨BS, kS⟩ := BA.set (4 + j) (.int .u8 (shr j key % 256))
      have hpn := part_next ([1, 0, 0, 0]) (m := 12) (i := j) (by omega) key
      rw [show ([1, 0, 0, 0] : List Int).length + j = 4 + j by simp [digits_length]] at hpn
      rw [b8_set, hpn, ← hy] at BS
      rw [← hy] at kS
      obtain ⟨z, hz⟩ : ∃ z, z = shr j key := ⟨_, rfl⟩
      have HZ := @hideH _ (show shr (j + 1) key = z / 256 by rw [hz]; rfl)
      rw [← hz] at hy hs ⊢
      have hz0 : 0 ≤ z := hs.1
      have cv : IntKind.u8.wrap (z % 256) = y := by rw [hy, IntKind.wrap_u8]; omega
      have wq : IntKind.i64.wrap (z.tdiv 256) = z / 256 := by rw [Int.tdiv_eq_ediv_of_nonneg hz0]; have e9 := HKV.out; exact wrap_i64_of (by omega) (by omega)
      obtain ⟨wn, hwn⟩ : ∃ wx, wx = wr.setCell ⟨w.heap.size + 1, 4 + j, none⟩ (.int .u8 y) := ⟨_, rfl⟩
      rw [← hwn] at BS kS
      have HN := @hideH _ (show Blk wn w.heap.size 136 (b8 (zeros 16)) ∧ Blk wn (w.heap.size + 1) 136 (b8 (part ([1, 0, 0, 0]) 12 (j + 1) key)) ∧ Kept [] w wn from ⟨hh.out.1.kept kS (by simp), BS, hh.out.2.2.trans kS (fun y hy => .inr (by simp at hy; omega))⟩)
      clear hh BA BS kS hpn hz hs hy
      go_upto_region 9 with fail
      rw [← hwn]
      clear hwn cA fA cv
      go_wp2
      go_roundw
      case rel => exact ⟨j + 1, by omega, by go_num, by rw [HZ.out], HN.out⟩
      case measure => simp [intOf]; omega
    · obtain rfl : j = 4 := by omega
      have HD := @hideH _ (show Blk wr w.heap.size 136 (b8 (zeros 16)) ∧ Blk wr (w.heap.size + 1) 136 (b8 (part ([1, 0, 0, 0] ++ digits 4 key) 8 0 v)) ∧ Kept [] w wr from ⟨hh.out.1, by rw [part_zero]; exact hh.out.2.1, hh.out.2.2⟩)
      clear hh HC
      go_wp2
      go_loopw [1, 9] (fun vx vi wr => ∃ j : Nat, j ≤ 8 ∧ vi = .int .i64 j ∧ vx = .int .u64 (shr j v) ∧ Hid (Blk wr w.heap.size 136 (b8 (zeros 16)) ∧ Blk wr (w.heap.size + 1) 136 (b8 (part ([1, 0, 0, 0] ++ digits 4 key) 8 j v)) ∧ Kept [] w wr)) (fun _ vi _ => 8 - (intOf vi).toNat)
      case atStart => exact ⟨0, by omega, rfl, rfl, HD.out⟩
      case round =>
        obtain ⟨j, hj, rfl, rfl, hh⟩ := hrel
        by_cases hjl : j < 8
        · have hjl' : (j : Int) < (8 : Int) := by omega
          have hj0 : (0 : Int) ≤ (j : Int) := by omega
          have wj : IntKind.i64.wrap ((j : Int) + 1) = (j : Int) + 1 := wrap_i64_of (by omega) (by omega)
          have wo : IntKind.i64.wrap (8 + (j : Int)) = ((8 + j : Nat) : Int) := by rw [wrap_i64_of (by omega) (by omega)]; omega
          have ho1 : ((8 + j : Nat) : Int) < 16 := by omega
          have ho0 : (0 : Int) ≤ ((8 + j : Nat) : Int) := by omega
          have hs := shr_pos (v := v) HKV.out.2.1 j
          have BA := hh.out.2.1
          have cA := BA.cell (b8_at (part_old ([1, 0, 0, 0] ++ digits 4 key) (m := 8) (i := j) (by omega) v))
          rw [show ([1, 0, 0, 0] ++ digits 4 key : List Int).length + j = 8 + j by simp [digits_length]] at cA
          have fA := BA.free (8 + j)
          obtain ⟨y, hy⟩ : ∃ y, y = shr j v % 256 := ⟨_, rfl⟩
          obtain ⟨BS, kS⟩ := BA.set (8 + j) (.int .u8 (shr j v % 256))
          have hpn := part_next ([1, 0, 0, 0] ++ digits 4 key) (m := 8) (i := j) (by omega) v
          rw [show ([1, 0, 0, 0] ++ digits 4 key : List Int).length + j = 8 + j by simp [digits_length]] at hpn
          rw [b8_set, hpn, ← hy] at BS
          rw [← hy] at kS
          obtain ⟨z, hz⟩ : ∃ z, z = shr j v := ⟨_, rfl⟩
          have HZ := @hideH _ (show shr (j + 1) v = z / 256 by rw [hz]; rfl)
          rw [← hz] at hy hs ⊢
          have hz0 : 0 ≤ z := hs.1
          have cv : IntKind.u8.wrap (z % 256) = y := by rw [hy, IntKind.wrap_u8]; omega
          have wq : IntKind.u64.wrap (z.tdiv 256) = z / 256 := by rw [Int.tdiv_eq_ediv_of_nonneg hz0, IntKind.wrap_u64]; have e9 := HKV.out; omega
          obtain ⟨wn, hwn⟩ : ∃ wx, wx = wr.setCell ⟨w.heap.size + 1, 8 + j, none⟩ (.int .u8 y) := ⟨_, rfl⟩
          rw [← hwn] at BS kS
          have HN := @hideH _ (show Blk wn w.heap.size 136 (b8 (zeros 16)) ∧ Blk wn (w.heap.size + 1) 136 (b8 (part ([1, 0, 0, 0] ++ digits 4 key) 8 (j + 1) v)) ∧ Kept [] w wn from ⟨hh.out.1.kept kS (by simp), BS, hh.out.2.2.trans kS (fun y hy => .inr (by simp at hy; omega))⟩)
          clear hh BA BS kS hpn hz hs hy
          go_upto_region 14 with fail
          rw [← hwn]
          clear hwn cA fA cv
          go_wp2
          go_roundw
          case rel => exact ⟨j + 1, by omega, by go_num, by rw [HZ.out], HN.out⟩
          case measure => simp [intOf]; omega
        · obtain rfl : j = 8 := by omega
          have HW := @hideH _ hh.out.2.2
          have B1 := hh.out.1
          have B2 := hh.out.2.1
          rw [part_all] at B2
          clear hh HD
          go_upto_region 15 with fail
          obtain ⟨L, hL⟩ : ∃ L : List Int, L = [1, 0, 0, 0] ++ digits 4 key ++ digits 8 v := ⟨_, rfl⟩
          rw [← hL] at B2
          have HL := @hideH _ (And.intro hL (show L.length = 16 by rw [hL]; simp [digits_length, zeros]))
          clear hL
          have hld := run_range (P := Tryz.prog) 136 (by kernel_rfl) Tryz.underlying136 rfl HL.out.2 B2
          obtain ⟨ht, hst, B4, k4⟩ := run_over16 (P := Tryz.prog) 136 (by kernel_rfl) B1 HL.out.2
          obtain ⟨w4, hw4⟩ : ∃ wx, wx = wr.setCells w.heap.size 0 (b8 L) := ⟨_, rfl⟩
          rw [← hw4] at B4 k4
          have HB4 := @hideH _ B4
          have HK4 := @hideH _ k4
          clear B1 B2 B4 k4 hst
          refine wp_region_lit ?_
          refine wpList_load_mid rfl 136 (.tmp 7) rfl (w.heap.size + 1) 0 (by rfl) (b8 L) _ hld Tryz.underlying136 rfl (by rw [b8_length, HL.out.2]; kernel_rfl) ?_
          refine wpList_store_mid rfl 136 (.tmp 6) (.tmp 38) rfl w.heap.size 0 (b8 L).toArray (by rfl) (by rfl) ht (by rw [List.size_toArray, b8_length, HL.out.2]; kernel_rfl) (b8_all L) ?_
          rw [show ((b8 L).toArray.toList) = b8 L from rfl, ← hw4]
          clear hw4 ht hld
          go_wp2
          refine bodyPost_ret (v := .agg (b8 L).toArray) (results_cell_row Tryz.results103 _ w4 w.heap.size 136 (b8 L).toArray (0, 0) _ (by rfl) HB4.out Tryz.underlying136 rfl (by rw [List.size_toArray, b8_length, HL.out.2]; kernel_rfl)) rfl ?_
          exact ⟨by rw [HL.out.1]; rfl, HW.out.trans HK4.out (fun y hy => .inr (by simp at hy; omega))⟩
theorem rSlot (key v : Int) (th : Bool) (w : World) (hk : 0 ≤ key ∧ key < 4294967296) (hv : 0 ≤ v ∧ v < 18446744073709551616) : Calls Tryz.prog 103 #[.int .i64 key, .int .u64 v, .bool th] w fun e w' => e = .returned (.agg (b8 (slotL key v th)).toArray) ∧ Kept [] w w' := by
  cases th
  · exact rSlotF key v w hk hv
  · exact rSlotT key v w hk hv
end Go.Proofs.YtocpagpkpibmaaaGreatDoor

/-
  OWN WORK (by mkpnd.py). The document's State (layer 18): the length of a change.
-/
namespace Go.Proofs.YtocpagpkpibmaaaGreatDoor
open Go.RowKit
set_option linter.unusedVariables false
set_option linter.unusedSimpArgs false

set_option maxRecDepth 20000 in
set_option maxHeartbeats 3200000 in
theorem rLength (A B : List Int) (hA : A.length = 16) (hB : B.length = 16) (w : World) : Calls Tryz.prog 102 #[.agg (b8 A).toArray, .agg (b8 B).toArray] w fun e w' => e = .returned (.int .i64 (lengthL A B)) ∧ Kept [] w w' := by
  obtain ⟨w1, hw1⟩ : ∃ wx, wx = w.alloc (.cells (b8 A).toArray 136) := ⟨_, rfl⟩
  have k1 : Kept [] w w1 := by rw [hw1]; exact (Kept.refl [] w).alloc _
  have B1 : Blk w1 w.heap.size 136 (b8 A) := by rw [hw1]; exact Blk.new w _ _
  obtain ⟨w2, hw2⟩ : ∃ wx, wx = w1.alloc (.cells (b8 B).toArray 136) := ⟨_, rfl⟩
  have k2 : Kept [] w1 w2 := by rw [hw2]; exact (Kept.refl [] w1).alloc _
  have B2 : Blk w2 w1.heap.size 136 (b8 B) := by rw [hw2]; exact Blk.new w1 _ _
  have e1 : w1.heap.size = w.heap.size + 1 := by rw [hw1, World.size_alloc]
  rw [e1] at B2
  have HB := @hideH _ (And.intro (B1.kept k2 (by simp)) (And.intro B2 (k1.then k2)))
  have HL := @hideH _ (And.intro hA hB)
  clear k1 k2 B1 B2 hA hB
  go_enter Tryz.func102, Tryz.ntmps102
  go_upto_region 1 with fail
  rw [← hw1, ← hw2]
  clear hw1 hw2 e1
  go_wp2
  go_loopw [5] (fun vi wr => ∃ j : Nat, j ≤ 16 ∧ vi = .int .i64 j ∧ Hid ((∀ i, i < j → A[i]? = B[i]?) ∧ Kept [] w2 wr)) (fun vi _ => 16 - (intOf vi).toNat)
  case atStart => exact ⟨0, by omega, rfl, (fun i hi => absurd hi (Nat.not_lt_zero i)), Kept.refl _ _⟩
  case round =>
    obtain ⟨j, hj, rfl, hh⟩ := hrel
    by_cases hjl : j < 16
    · have hjl' : (j : Int) < 16 := by omega
      have hj0 : (0 : Int) ≤ (j : Int) := by omega
      have wj : IntKind.i64.wrap ((j : Int) + 1) = (j : Int) + 1 := wrap_i64_of (by omega) (by omega)
      obtain ⟨x, hx⟩ : ∃ x, A[j]? = some x := ⟨_, List.getElem?_eq_getElem (by have := HL.out.1; omega)⟩
      obtain ⟨y, hy⟩ : ∃ y, B[j]? = some y := ⟨_, List.getElem?_eq_getElem (by have := HL.out.2; omega)⟩
      have ca := hh.out.2.cell (HB.out.1.cell (b8_at hx)) (by simp)
      have cb := hh.out.2.cell (HB.out.2.1.cell (b8_at hy)) (by simp)
      by_cases e : x = y
      · have e' : (x == y) = true := by simpa using e
        have HN := @hideH _ (show ∀ i, i < j + 1 → A[i]? = B[i]? from fun i hi => by
          by_cases c : i = j
          · subst c; rw [hx, hy, e]
          · exact hh.out.1 i (by omega))
        have HK := @hideH _ hh.out.2
        clear e hx hy hh
        go_upto_region 2 with fail
        go_quiet (fail)
        go_wp2
        go_roundw
        case rel => exact ⟨j + 1, by omega, by go_num, HN.out, HK.out.drewN' _⟩
        case measure => simp [intOf]; omega
      · have e' : (x == y) = false := by simpa using e
        have HX := @hideH _ (And.intro hx (And.intro hy (And.intro e hh.out.1)))
        have HK := @hideH _ hh.out.2
        clear e hx hy hh
        go_upto_region 2 with fail
        go_quiet (fail)
        clear ca cb e'
        obtain ⟨w5, hw5⟩ : ∃ wx, wx = wr.drewN nq := ⟨_, rfl⟩
        have k5 : Kept [] w2 w5 := by rw [hw5]; exact HK.out.drewN' _
        rw [← hw5]
        have HK5 := @hideH _ k5
        clear hw5 k5 HK
        go_wp2
        go_loopw [6] (fun vi wr => ∃ t : Nat, t ≤ 16 ∧ j < t ∧ vi = .int .i64 t ∧ Hid ((∀ i, t ≤ i → i < 16 → A[i]? = B[i]?) ∧ Kept [] w2 wr)) (fun vi _ => (intOf vi).toNat)
        case atStart => exact ⟨16, by omega, by omega, rfl, (fun i h1 h2 => by omega), HK5.out⟩
        case round =>
          obtain ⟨t, ht, htj, rfl, hh⟩ := hrel
          have ht1 : (j : Int) < (t : Int) := by omega
          have wt : IntKind.i64.wrap ((t : Int) - 1) = ((t - 1 : Nat) : Int) := by rw [wrap_i64_of (by omega) (by omega)]; omega
          have ht2 : ((t - 1 : Nat) : Int) < 16 := by omega
          have ht3 : (0 : Int) ≤ ((t - 1 : Nat) : Int) := by omega
          obtain ⟨x', hx'⟩ : ∃ x, A[t - 1]? = some x := ⟨_, List.getElem?_eq_getElem (by have := HL.out.1; omega)⟩
          obtain ⟨y', hy'⟩ : ∃ y, B[t - 1]? = some y := ⟨_, List.getElem?_eq_getElem (by have := HL.out.2; omega)⟩
          have ca := hh.out.2.cell (HB.out.1.cell (b8_at hx')) (by simp)
          have cb := hh.out.2.cell (HB.out.2.1.cell (b8_at hy')) (by simp)
          by_cases e : x' = y'
          · have e' : (x' == y') = true := by simpa using e
            have hne : j < t - 1 := by
              by_cases c : j = t - 1
              · subst c; rw [HX.out.1] at hx'; rw [HX.out.2.1] at hy'; cases hx'; cases hy'; exact absurd e HX.out.2.2.1
              · omega
            have HN := @hideH _ (And.intro (show ∀ i, t - 1 ≤ i → i < 16 → A[i]? = B[i]? from fun i h1 h2 => by
              by_cases c : i = t - 1
              · subst c; rw [hx', hy', e]
              · exact hh.out.1 i (by omega) h2) hne)
            have HK := @hideH _ hh.out.2
            clear e hx' hy' hh hne
            go_upto_region 5 with fail
            go_quiet (fail)
            go_wp2
            go_roundw
            case rel => exact ⟨t - 1, by omega, HN.out.2, by go_num, HN.out.1, HK.out.drewN' _⟩
            case measure => simp [intOf]; omega
          · have e' : (x' == y') = false := by simpa using e
            have HE := @hideH _ (lengthL_part HL.out.1 HL.out.2 HX.out.2.2.2 HX.out.1 HX.out.2.1 HX.out.2.2.1 hh.out.1 (by omega) ht hx' hy' e)
            have HK := @hideH _ hh.out.2
            have wd : IntKind.i64.wrap ((t : Int) - (j : Int)) = (t : Int) - (j : Int) := wrap_i64_of (by omega) (by omega)
            clear e hx' hy' hh
            go_upto_region 5 with fail
            go_quiet (fail)
            go_wp2
            go_ret
            exact ⟨by rw [HE.out]; rfl, HB.out.2.2.then (HK.out.drewN' _)⟩
    · obtain rfl : j = 16 := by omega
      have HE := @hideH _ (lengthL_same (same16 HL.out.1 HL.out.2 hh.out.1))
      have HK := @hideH _ hh.out.2
      clear hh
      go_upto_region 2 with fail
      go_quiet (fail)
      clear hj hjl
      obtain ⟨w5, hw5⟩ : ∃ wx, wx = wr.drewN nq := ⟨_, rfl⟩
      have k5 : Kept [] w2 w5 := by rw [hw5]; exact HK.out.drewN' _
      rw [← hw5]
      have HK5 := @hideH _ k5
      clear hw5 k5 HK
      go_wp2
      go_loopw [6] (fun vi wr => vi = .int .i64 16 ∧ Hid (Kept [] w2 wr)) (fun vi _ => 0)
      case atStart => exact ⟨rfl, HK5.out⟩
      case round =>
        obtain ⟨rfl, hh⟩ := hrel
        go_upto_region 5 with fail
        go_quiet (fail)
        go_wp2
        go_ret
        exact ⟨by rw [HE.out]; rfl, HB.out.2.2.then (hh.out.drewN' _)⟩
end Go.Proofs.YtocpagpkpibmaaaGreatDoor

/-
  OWN WORK (by mkpn7.py). The document's State (layer 18): over.
-/
namespace Go.Proofs.YtocpagpkpibmaaaGreatDoor
open Go.RowKit
set_option linter.unusedVariables false
set_option linter.unusedSimpArgs false

theorem src_txn18 {P : Program} (w : World) (t e : TypeId) (ht : P.underlying t = some (.slice e)) (b : Int) (v1 v2 v3 : Value) (h1 : v1.oneCell' = true) (h2 : v2.oneCell' = true) (h3 : v3.oneCell' = true) : Src P 4 t (.slice (some ⟨w.heap.size, 0, none⟩) 1 1) 1 [.int .i64 b, v1, v2, v3] (w.alloc (.cells #[.int .i64 b, v1, v2, v3] e)) := by
  refine Src.ofSlice _ ht _ _ _ _ rfl (fun j u hj => ?_) (fun u hu => ?_)
  · rw [add_none rfl]
    have q := (Blk.new w e [.int .i64 b, v1, v2, v3]).cell hj
    simpa using q
  · simp at hu
    rcases hu with rfl | rfl | rfl | rfl
    · rfl
    · exact h1
    · exact h2
    · exact h3
def upK (P : List Pt) (k j : Nat) : List Pt := (P.take j).eraseIdx k
theorem upK_skip {P : List Pt} {k : Nat} : upK P k (k + 1) = upK P k k := by
  unfold upK
  rw [List.eraseIdx_eq_take_drop_succ, List.eraseIdx_of_length_le (by simp; omega), List.take_take, List.drop_take]
  simp
theorem upK_next {P : List Pt} {k j : Nat} {x : Pt} (hj : P[j]? = some x) (hne : j ≠ k) : upK P k (j + 1) = upK P k j ++ [x] := by
  unfold upK
  rw [List.take_add_one, hj]
  have hl : (P.take j).length = j := by rw [List.length_take]; have := (List.getElem?_eq_some_iff.1 hj).1; omega
  by_cases c : k < j
  · rw [List.eraseIdx_append_of_lt_length (by omega)]
    rfl
  · rw [List.eraseIdx_of_length_le (by simp; omega), List.eraseIdx_of_length_le (by omega)]
    rfl
theorem upK_all {P : List Pt} {k : Nat} : upK P k P.length = P.eraseIdx k := by unfold upK; rw [List.take_length]
theorem sub_flat {α β : Type} (f : α → List β) {l l' : List α} (h : l.Sublist l') : (l.flatMap f).Sublist (l'.flatMap f) := by
  induction h with
  | slnil => simp
  | cons a _ ih => rw [List.flatMap_cons]; exact ih.trans (List.sublist_append_right _ _)
  | cons_cons a _ ih => rw [List.flatMap_cons, List.flatMap_cons]; exact (List.Sublist.refl _).append ih
theorem sr_over {w w8 : World} {g : Nat} {c : Cf} {vd vo vl : Value} {u : Int} {D : List (List Chg × Value)} {P : List Pt} {k : Nat} {p : Pt} (h : SrP w g c vd vo u D P) (hk : P[k]? = some p) (k8 : Kept [] w w8) (r8 : Row w8 0 4 vl (P.eraseIdx k).length (ocells (P.eraseIdx k))) (hv : ∀ y, vl.ownBlock = some y → w.heap.size ≤ y) :
    Blk w8 g 100 (c.cs ++ [vd, vo, .int .i64 u]) ∧ SrP (w8.setCell ⟨g, 7, none⟩ vl) g c vd vl u D (P.eraseIdx k) ∧ Kept [g] w (w8.setCell ⟨g, 7, none⟩ vl) := by
  have hg := h.box.lt
  have B8 := h.box.kept k8 (by simp)
  obtain ⟨B9, k9⟩ := B8.set 7 vl
  have es : P.eraseIdx k = P.take k ++ P.drop (k + 1) := List.eraseIdx_eq_take_drop_succ ..
  have hsub : ((vd, fun w => Row w 0 1 vd D.length (D.map Prod.snd)) :: (dthings D ++ (P.eraseIdx k).flatMap three)).Sublist (things vd vo D P) := by
    unfold things
    refine List.Sublist.cons_cons _ (List.Sublist.cons _ ((List.Sublist.refl _).append ?_))
    exact sub_flat three (List.eraseIdx_sublist P k)
  have o1 := h.own.sub hsub
  have o2 := o1.new (v := vl) (p := fun w => Row w 0 4 vl (P.eraseIdx k).length (ocells (P.eraseIdx k))) k8 r8 (Row.stays _ _ _ _ _) (fun y hy => ⟨hv y hy, (r8.lt y hy).2, by have := hv y hy; omega⟩)
  have o3 := (o2.perm (List.Perm.swap _ _ _)).then k9 (fun x hx y hy hm => (o2.perm (List.Perm.swap _ _ _)).lt x hx y hy |>.2 (by simpa using hm))
  exact ⟨B8, ⟨B9, o3⟩, (k8.mono (by simp)).trans k9 (fun x hx => .inl hx)⟩
set_option maxRecDepth 20000 in
set_option maxHeartbeats 6400000 in
theorem rOver {g : Nat} {c : Cf} {vd vo : Value} {u : Int} {D : List (List Chg × Value)} {P : List Pt} (k : Nat) (w : World) (h : SrP w g c vd vo u D P) {p : Pt} (hk : P[k]? = some p) (hl : P.length ≤ 1000) : Calls Tryz.prog 87 #[.pointer (some ⟨g, 0, none⟩), .int .i64 (k : Int)] w fun e w' => e = .returned (.tuple #[]) ∧ ∃ vl, SrP w' g c vd vl u D (P.eraseIdx k) ∧ (∀ y, vl.ownBlock = some y → w.heap.size ≤ y) ∧ Kept [g] w w' := by
  obtain ⟨po, ko, hvo, hnco, hcmo⟩ := h.rowO.shape
  subst hvo
  obtain ⟨n, hn⟩ : ∃ n, n = P.length := ⟨_, rfl⟩
  have HN := @hideH _ (And.intro hn (show n ≤ 1000 by omega))
  have B := h.box
  rw [← hn] at B
  have c7 := B.cell (j := 7) rfl
  have HR := @hideH _ h
  have HP := @hideH _ hk
  clear B h hn hnco hcmo hk hl
  obtain ⟨infX, hin1, hin2, hin3, hin4⟩ := info_parts3 (show (Tryz.prog.info? 143).map (fun i => (i.zero, i.size, i.bytes)) = some (some (.agg #[.int .i64 0, .slice none 0 0, .slice none 0 0, .slice none 0 0]), 4, 80) by kernel_rfl)
  have HIX := @hideH _ (And.intro hin1 (And.intro hin2 (And.intro hin3 hin4)))
  clear hin1 hin2 hin3 hin4
  go_enter Tryz.func87, Tryz.ntmps87
  go_wp2
  go_loopw [4, 5] (fun vl vi wr => ∃ (j m : Nat) (pl : Option Addr) (cl : Nat), j ≤ n ∧ m ≤ j ∧ vi = .int .i64 j ∧ vl = .slice pl m cl ∧ Hid (m = (upK P k j).length ∧ Row wr w.heap.size 4 (.slice pl m cl) m (ocells (upK P k j)) ∧ Kept [] w wr)) (fun _ vi _ => n - (intOf vi).toNat)
  case atStart => exact ⟨0, 0, none, 0, by omega, by omega, rfl, rfl, by simp [upK], by simp [upK, ocells]; exact Row.nil _ _ _, Kept.refl _ _⟩
  case round =>
    obtain ⟨j, m, pl, cl, hj, hmj, rfl, rfl, hh⟩ := hrel
    have c7' := hh.out.2.2.cell c7 (by simp)
    by_cases hjl : j < n
    rotate_left
    · have hjl' : ¬ (j : Int) < (n : Int) := by omega
      have ej : j = P.length := by have := HN.out.1; omega
      have hh2 := hh.out
      rw [ej, upK_all] at hh2
      have FIN := sr_over HR.out HP.out hh2.2.2 (vl := .slice pl m cl) (by rw [← hh2.1]; exact hh2.2.1.mono (Nat.zero_le _)) (fun y hy => (hh2.2.1.lt y hy).1)
      have c8 := FIN.1.cell (j := 7) rfl
      have f8 := FIN.1.free 7
      have HFIN := @hideH _ (And.intro FIN.2 (fun y hy => (hh2.2.1.lt y hy).1))
      obtain ⟨w9, hw9⟩ : ∃ wx, wx = wr.setCell ⟨g, 7, none⟩ (.slice pl m cl) := ⟨_, rfl⟩
      rw [← hw9] at HFIN
      clear FIN hh2 hh ej c8
      go_wp2
      rw [← hw9]
      go_end0
      exact ⟨by first | rfl | simp, _, HFIN.out.1.1, HFIN.out.2, HFIN.out.1.2⟩
    have hjl' : (j : Int) < (n : Int) := by omega
    have hj0 : (0 : Int) ≤ (j : Int) := by omega
    have wj : IntKind.i64.wrap ((j : Int) + 1) = (j : Int) + 1 := wrap_i64_of (by omega) (by have e1 := HN.out.2; omega)
    by_cases hjk : j = k
    · have hjk' : ((j : Int) != (k : Int)) = false := by subst hjk; simp
      have HU := @hideH _ (show upK P k (j + 1) = upK P k j by rw [hjk]; exact upK_skip)
      clear hjk
      go_wp2
      go_roundw
      case rel => exact ⟨j + 1, m, pl, cl, by omega, by omega, by go_num, rfl, by rw [HU.out]; exact hh.out⟩
      case measure => simp [intOf]; omega
    have hjk' : ((j : Int) != (k : Int)) = true := by simp; omega
    obtain ⟨y, hy⟩ : ∃ y, P[j]? = some y := ⟨_, List.getElem?_eq_getElem (by have := HN.out.1; omega)⟩
    have HU := @hideH _ (upK_next hy hjk)
    obtain ⟨gl, hp, d0, d1, d2, d3⟩ := (HR.out.then hh.out.2.2).at hy
    subst hp
    have h3 := (HR.out.then hh.out.2.2).three (List.mem_of_getElem? hy)
    obtain ⟨t, v1, v2, v3⟩ := y
    dsimp only at d0 d1 d2 d3 h3
    obtain ⟨p1, k1, e1, -⟩ := h3.1.shape
    obtain ⟨p2, k2, e2, -⟩ := h3.2.1.shape
    obtain ⟨p3, k3, e3, -⟩ := h3.2.2.shape
    have hsrc := src_txn18 (P := Tryz.prog) wr 98 143 Tryz.underlying98 t.id v1 v2 v3 (by rw [e1]; rfl) (by rw [e2]; rfl) (by rw [e3]; rfl)
    have hrow := hh.out.2.1.kept ((Kept.refl [] wr).alloc (.cells #[.int .i64 t.id, v1, v2, v3] 143)) (by simp)
    have hba : w.heap.size ≤ (wr.alloc (.cells #[.int .i64 t.id, v1, v2, v3] 143)).heap.size := (hh.out.2.2.alloc _).size
    have HH := @hideH _ hh.out
    have HM := @hideH _ (show m ≤ 1000 by have := HN.out.2; omega)
    clear hy hjk h3 e1 e2 e3 hh
    go_wp2_with (at_builtin; refine wpList_append_row2 rfl (.tmp 18) (.tmp 26) 98 rfl w.heap.size 143 infX (.agg #[.int .i64 0, .slice none 0 0, .slice none 0 0, .slice none 0 0]) 4 80 Tryz.underlying98 HIX.out.1 HIX.out.2.1 HIX.out.2.2.1 HIX.out.2.2.2 rfl _ _ _ (by rfl) hrow _ 1 _ (by rfl) hsrc (by have e1 := HM.out; omega) (by have e1 := HM.out; unfold maxLen; omega) (by have e1 := HM.out; omega) hba ?_; intro v' w8 r8 k8 o8; obtain ⟨p8, c8, hv', -⟩ := Row.shape r8; subst hv'; have HX8 := @hideH _ (And.intro r8 k8); clear r8 k8 o8 hrow hsrc hba)
    go_roundw
    case rel => exact ⟨j + 1, m + 1, p8, c8, by omega, by omega, by go_num, rfl, by rw [HU.out, List.length_append, ← HH.out.1]; rfl, by rw [HU.out, ocells_append]; exact HX8.out.1, (HH.out.2.2.alloc _).trans HX8.out.2 (fun y hy => .inr (HH.out.2.1.lt y (own_mem.1 hy)).1)⟩
    case measure => simp [intOf]; omega
end Go.Proofs.YtocpagpkpibmaaaGreatDoor

/-
  OWN WORK (by mkpn8.py). The document's State (layer 18): undo.
-/
namespace Go.Proofs.YtocpagpkpibmaaaGreatDoor
open Go.RowKit
set_option linter.unusedVariables false
set_option linter.unusedSimpArgs false

theorem sr_used {w : World} {g : Nat} {c : Cf} {vd vo : Value} {u : Int} {D : List (List Chg × Value)} {P : List Pt} (h : SrP w g c vd vo u D P) (u' : Int) : SrP (w.setCell ⟨g, 8, none⟩ (.int .i64 u')) g c vd vo u' D P ∧ Kept [g] w (w.setCell ⟨g, 8, none⟩ (.int .i64 u')) := by
  obtain ⟨B9, k9⟩ := h.box.set 8 (.int .i64 u')
  exact ⟨⟨B9, h.own.then k9 (fun x hx y hy hm => (h.own.lt x hx y hy).2 (by simpa using hm))⟩, k9⟩
theorem sumL_part {l : List Int} (h : ∀ n ∈ l, 1 ≤ n ∧ n ≤ 16) (j : Nat) : 0 ≤ sumL (l.take j) ∧ sumL (l.take j) ≤ sumL l := by
  have e : sumL l = sumL (l.take j) + sumL (l.drop j) := by rw [← sumL_append, List.take_append_drop]
  have e1 := sumL_pos (l := l.take j) (fun n hn => h n (List.mem_of_mem_take hn))
  have e2 := sumL_pos (l := l.drop j) (fun n hn => h n (List.mem_of_mem_drop hn))
  omega
set_option maxRecDepth 20000 in
set_option maxHeartbeats 6400000 in
theorem rUndo {g : Nat} {c : Cf} {vd vo : Value} {u : Int} {D : List (List Chg × Value)} {P : List Pt} (k : Nat) (w : World) (h : SrP w g c vd vo u D P) {p : Pt} (hk : P[k]? = some p) (hl : P.length ≤ 1000) (hn : ∀ n ∈ p.1.lens, 1 ≤ n ∧ n ≤ 16) (hs : sumL p.1.lens ≤ 65536) (hu : 0 ≤ u ∧ u ≤ 65536) : Calls Tryz.prog 88 #[.pointer (some ⟨g, 0, none⟩), .int .i64 (k : Int)] w fun e w' => e = .returned (.tuple #[]) ∧ ∃ vl, SrP w' g c vd vl (u + 66 + sumL p.1.lens) D (P.eraseIdx k) ∧ (∀ y, vl.ownBlock = some y → w.heap.size ≤ y) ∧ Kept [g] w w' := by
  obtain ⟨po, ko, hvo, hnco, hcmo⟩ := h.rowO.shape
  subst hvo
  obtain ⟨n, hnn⟩ : ∃ n, n = P.length := ⟨_, rfl⟩
  have hkn : (k : Int) < (n : Int) := by have := (List.getElem?_eq_some_iff.1 hk).1; omega
  have hk0 : (0 : Int) ≤ (k : Int) := by omega
  obtain ⟨gl, hp, -, -, -, -⟩ := h.at hk
  subst hp
  obtain ⟨t, v1, v2, v3⟩ := p
  dsimp only at hn hs ⊢
  obtain ⟨pu, cu, hu3, hmc, hcm⟩ := (h.three (List.mem_of_getElem? hk)).2.2.shape
  dsimp only at hu3 hmc
  subst hu3
  obtain ⟨m, hm⟩ : ∃ m, m = t.lens.length := ⟨_, rfl⟩
  have HM := @hideH _ (And.intro hm (Nat.le_trans hmc hcm))
  have HN := @hideH _ hnn
  have HL := @hideH _ (And.intro hn (And.intro hs (And.intro hu hl)))
  have HP := @hideH _ hk
  have c8 := h.box.cell (j := 8) rfl
  have f8 := h.box.free 8
  have v66 : IntKind.i64.wrap (u + 66) = u + 66 := wrap_i64_of (by omega) (by omega)
  obtain ⟨w1, hw1⟩ : ∃ wx, wx = w.setCell ⟨g, 8, none⟩ (.int .i64 (u + 66)) := ⟨_, rfl⟩
  have S1 := sr_used h (u + 66)
  rw [← hw1] at S1
  have HS1 := @hideH _ S1
  clear h hk hl hn hs hu hnn hnco hcmo hmc hcm hm S1
  go_enter Tryz.func88, Tryz.ntmps88
  go_upto_region 1 with fail
  rw [← hw1]
  clear hw1 c8 f8 v66
  go_wp2
  go_loopw [4] (fun vi wr => ∃ j : Nat, j ≤ m ∧ vi = .int .i64 j ∧ Hid (SrP wr g c vd (.slice (some ⟨gl, 0, none⟩) P.length ko) (u + 66 + sumL (t.lens.take j)) D P ∧ Kept [g] w wr)) (fun vi _ => m - (intOf vi).toNat)
  case atStart => exact ⟨0, Nat.zero_le _, rfl, by simp [sumL]; exact HS1.out.1, HS1.out.2⟩
  case round =>
    clear HS1
    obtain ⟨j, hj, rfl, hh⟩ := hrel
    have B := hh.out.1.box
    rw [← HN.out] at B
    have c7 := B.cell (j := 7) rfl
    have c8 := B.cell (j := 8) rfl
    obtain ⟨gl', e', -, -, -, d3⟩ := hh.out.1.at HP.out
    cases e'
    dsimp only at d3
    rw [← HM.out.1] at d3
    clear B
    by_cases hjl : j < m
    rotate_left
    · have hjl' : ¬ (j : Int) < (m : Int) := by omega
      have ej : t.lens.take j = t.lens := List.take_of_length_le (by have := HM.out.1; omega)
      have hh2 := hh.out
      rw [ej] at hh2
      have HQ := @hideH _ (rOver k wr hh2.1 HP.out HL.out.2.2.2)
      have HK := @hideH _ hh2.2
      clear hh hh2 ej
      go_wp2_with fail
      refine HQ.out.mono ?_
      clear HQ
      rintro e w9 ⟨rfl, vl, q1, q2, q3⟩
      have HF := @hideH _ (show ∃ vl, SrP w9 g c vd vl (u + 66 + sumL t.lens) D (P.eraseIdx k) ∧ (∀ y, vl.ownBlock = some y → w.heap.size ≤ y) ∧ Kept [g] w w9 from ⟨vl, q1, fun y hy => Nat.le_trans HK.out.size (q2 y hy), HK.out.trans q3 (fun x hx => .inl hx)⟩)
      clear q1 q2 q3
      go_wp2
      go_end0
      exact ⟨by first | rfl | simp, HF.out⟩
    have hjl' : (j : Int) < (m : Int) := by omega
    have hj0 : (0 : Int) ≤ (j : Int) := by omega
    have wj : IntKind.i64.wrap ((j : Int) + 1) = (j : Int) + 1 := wrap_i64_of (by omega) (by have e1 := HM.out.1; have e2 := HM.out.2; unfold maxLen at e2; omega)
    obtain ⟨z, hz⟩ : ∃ z, t.lens[j]? = some z := ⟨_, List.getElem?_eq_getElem (by have := HM.out.1; omega)⟩
    obtain ⟨gu, hpu, -, -, e0, -⟩ := ((hh.out.1.three (List.mem_of_getElem? HP.out)).2.2).at hz
    subst hpu
    have htk := sumL_take hz
    have hzr := HL.out.1 z (List.mem_of_getElem? hz)
    have hp0 := sumL_part HL.out.1 j
    obtain ⟨s1, hs1⟩ : ∃ s, s = u + 66 + sumL (t.lens.take j) := ⟨_, rfl⟩
    have HTK := @hideH _ (show u + 66 + sumL (t.lens.take (j + 1)) = s1 + 46 + z by rw [htk, hs1]; omega)
    have v1 : IntKind.i64.wrap (s1 + 46) = s1 + 46 := by have e1 := HL.out; rw [hs1]; exact wrap_i64_of (by omega) (by omega)
    have v2 : IntKind.i64.wrap (s1 + 46 + z) = s1 + 46 + z := by have e1 := HL.out; rw [hs1]; exact wrap_i64_of (by omega) (by omega)
    rw [← hs1] at c8 hh
    have HH := @hideH _ hh.out
    clear hz htk hzr hp0 hs1 hh
    go_upto_region 4 with fail
    obtain ⟨w6, hw6⟩ : ∃ wx, wx = wr.drew := ⟨_, rfl⟩
    have k6 : Kept [] wr w6 := by rw [hw6]; exact (Kept.refl [] wr).drew
    have hS : (fun w' => w'.cell? ⟨g, 8, none⟩ = some (.int .i64 s1) ∧ w'.cell? ⟨g, 7, none⟩ = some (.slice (some ⟨gl, 0, none⟩) n ko) ∧ w'.cell? ⟨gl, k * 4 + 3, none⟩ = some (.slice (some ⟨gu, 0, none⟩) m cu) ∧ w'.cell? ⟨gu, j, none⟩ = some (.int .i64 z)) w6 := ⟨k6.cell c8 (by simp), k6.cell c7 (by simp), k6.cell d3 (by simp), k6.cell e0 (by simp)⟩
    try dsimp only at hS
    have S6 := HH.out.1.then k6
    have c8' := S6.box.cell (j := 8) rfl
    have f8' := S6.box.free 8
    obtain ⟨w9, hw9⟩ : ∃ wx, wx = w6.setCell ⟨g, 8, none⟩ (.int .i64 (s1 + 46 + z)) := ⟨_, rfl⟩
    have S9 := sr_used S6 (s1 + 46 + z)
    rw [← hw9] at S9
    have HS9 := @hideH _ (And.intro S9.1 ((HH.out.2.then k6).trans S9.2 (fun x hx => .inl hx)))
    clear S6 S9 c8'
    refine wp_region_late (fun w' => w'.cell? ⟨g, 8, none⟩ = some (.int .i64 s1) ∧ w'.cell? ⟨g, 7, none⟩ = some (.slice (some ⟨gl, 0, none⟩) n ko) ∧ w'.cell? ⟨gl, k * 4 + 3, none⟩ = some (.slice (some ⟨gu, 0, none⟩) m cu) ∧ w'.cell? ⟨gu, j, none⟩ = some (.int .i64 z)) 20 (by kernel_rfl) ?_
    rw [← hw6]
    clear hw6 c7 c8 d3 e0 k6
    refine wpAnyZ_take 0 (v := ?va0_1) rfl (by kernel_rfl) (by kernel_rfl) (by kernel_rfl) (by kernel_rfl) (fun _ _ _ h => h) (by rfl) ?hya0_1 hS ?resta0_1
    case hya0_1 => (intro wx hSx; obtain ⟨s1, s2, s3, s4⟩ := hSx; go_simp; (try with_reducible rfl))
    (try simp only [Act.put, List.getElem_toArray, List.getElem_cons_zero, List.getElem_cons_succ, List.setIfInBounds_toArray, List.set_cons_zero, List.set_cons_succ])
    refine wpAnyZ_take 1 (v := ?va1_2) rfl (by kernel_rfl) (by kernel_rfl) (by kernel_rfl) (by kernel_rfl) (fun _ _ _ h => h) (by rfl) ?hya1_2 hS ?resta1_2
    case hya1_2 => (intro wx hSx; obtain ⟨s1, s2, s3, s4⟩ := hSx; go_simp; (try with_reducible rfl))
    (try simp only [Act.put, List.getElem_toArray, List.getElem_cons_zero, List.getElem_cons_succ, List.setIfInBounds_toArray, List.set_cons_zero, List.set_cons_succ])
    refine wpAnyZ_take 2 (v := ?va2_3) rfl (by kernel_rfl) (by kernel_rfl) (by kernel_rfl) (by kernel_rfl) (fun _ _ _ h => h) (by rfl) ?hya2_3 hS ?resta2_3
    case hya2_3 => (intro wx hSx; obtain ⟨s1, s2, s3, s4⟩ := hSx; go_simp; (try with_reducible rfl))
    (try simp only [Act.put, List.getElem_toArray, List.getElem_cons_zero, List.getElem_cons_succ, List.setIfInBounds_toArray, List.set_cons_zero, List.set_cons_succ])
    refine wpAnyZ_take 3 (v := ?va3_4) rfl (by kernel_rfl) (by kernel_rfl) (by kernel_rfl) (by kernel_rfl) (fun _ _ _ h => h) (by rfl) ?hya3_4 hS ?resta3_4
    case hya3_4 => (intro wx hSx; obtain ⟨s1, s2, s3, s4⟩ := hSx; go_simp; (try with_reducible rfl))
    (try simp only [Act.put, List.getElem_toArray, List.getElem_cons_zero, List.getElem_cons_succ, List.setIfInBounds_toArray, List.set_cons_zero, List.set_cons_succ])
    refine wpAnyZ_take 4 (v := ?va4_5) rfl (by kernel_rfl) (by kernel_rfl) (by kernel_rfl) (by kernel_rfl) (fun _ _ _ h => h) (by rfl) ?hya4_5 hS ?resta4_5
    case hya4_5 => (intro wx hSx; obtain ⟨s1, s2, s3, s4⟩ := hSx; go_simp; (try with_reducible rfl))
    (try simp only [Act.put, List.getElem_toArray, List.getElem_cons_zero, List.getElem_cons_succ, List.setIfInBounds_toArray, List.set_cons_zero, List.set_cons_succ])
    refine wpAnyZ_take 5 (v := ?va5_6) rfl (by kernel_rfl) (by kernel_rfl) (by kernel_rfl) (by kernel_rfl) (fun _ _ _ h => h) (by rfl) ?hya5_6 hS ?resta5_6
    case hya5_6 => (intro wx hSx; obtain ⟨s1, s2, s3, s4⟩ := hSx; go_simp; (try with_reducible rfl))
    (try simp only [Act.put, List.getElem_toArray, List.getElem_cons_zero, List.getElem_cons_succ, List.setIfInBounds_toArray, List.set_cons_zero, List.set_cons_succ])
    refine wpAnyZ_take 6 (v := ?va6_7) rfl (by kernel_rfl) (by kernel_rfl) (by kernel_rfl) (by kernel_rfl) (fun _ _ _ h => h) (by rfl) ?hya6_7 hS ?resta6_7
    case hya6_7 => (intro wx hSx; obtain ⟨s1, s2, s3, s4⟩ := hSx; go_simp; (try with_reducible rfl))
    (try simp only [Act.put, List.getElem_toArray, List.getElem_cons_zero, List.getElem_cons_succ, List.setIfInBounds_toArray, List.set_cons_zero, List.set_cons_succ])
    refine wpAnyZ_take 7 (v := ?va7_8) rfl (by kernel_rfl) (by kernel_rfl) (by kernel_rfl) (by kernel_rfl) (fun _ _ _ h => h) (by rfl) ?hya7_8 hS ?resta7_8
    case hya7_8 => (intro wx hSx; obtain ⟨s1, s2, s3, s4⟩ := hSx; go_simp; (try with_reducible rfl))
    (try simp only [Act.put, List.getElem_toArray, List.getElem_cons_zero, List.getElem_cons_succ, List.setIfInBounds_toArray, List.set_cons_zero, List.set_cons_succ])
    refine wpAnyZ_take 8 (v := ?va8_9) rfl (by kernel_rfl) (by kernel_rfl) (by kernel_rfl) (by kernel_rfl) (fun _ _ _ h => h) (by rfl) ?hya8_9 hS ?resta8_9
    case hya8_9 => (intro wx hSx; obtain ⟨s1, s2, s3, s4⟩ := hSx; go_simp; (try with_reducible rfl))
    (try simp only [Act.put, List.getElem_toArray, List.getElem_cons_zero, List.getElem_cons_succ, List.setIfInBounds_toArray, List.set_cons_zero, List.set_cons_succ])
    refine wpAnyZ_take 9 (v := ?va9_10) rfl (by kernel_rfl) (by kernel_rfl) (by kernel_rfl) (by kernel_rfl) (fun _ _ _ h => h) (by rfl) ?hya9_10 hS ?resta9_10
    case hya9_10 => (intro wx hSx; obtain ⟨s1, s2, s3, s4⟩ := hSx; go_simp; (try with_reducible rfl))
    (try simp only [Act.put, List.getElem_toArray, List.getElem_cons_zero, List.getElem_cons_succ, List.setIfInBounds_toArray, List.set_cons_zero, List.set_cons_succ])
    refine wpAnyZ_take 10 (v := ?va10_11) rfl (by kernel_rfl) (by kernel_rfl) (by kernel_rfl) (by kernel_rfl) (fun _ _ _ h => h) (by rfl) ?hya10_11 hS ?resta10_11
    case hya10_11 => (intro wx hSx; obtain ⟨s1, s2, s3, s4⟩ := hSx; go_simp; (try with_reducible rfl))
    (try simp only [Act.put, List.getElem_toArray, List.getElem_cons_zero, List.getElem_cons_succ, List.setIfInBounds_toArray, List.set_cons_zero, List.set_cons_succ])
    refine wpAnyZ_take 11 (v := ?va11_12) rfl (by kernel_rfl) (by kernel_rfl) (by kernel_rfl) (by kernel_rfl) (fun _ _ _ h => h) (by rfl) ?hya11_12 hS ?resta11_12
    case hya11_12 => (intro wx hSx; obtain ⟨s1, s2, s3, s4⟩ := hSx; go_simp; (try with_reducible rfl))
    (try simp only [Act.put, List.getElem_toArray, List.getElem_cons_zero, List.getElem_cons_succ, List.setIfInBounds_toArray, List.set_cons_zero, List.set_cons_succ])
    refine wpAnyZ_take 12 (v := ?va12_13) rfl (by kernel_rfl) (by kernel_rfl) (by kernel_rfl) (by kernel_rfl) (fun _ _ _ h => h) (by rfl) ?hya12_13 hS ?resta12_13
    case hya12_13 => (intro wx hSx; obtain ⟨s1, s2, s3, s4⟩ := hSx; go_simp; (try with_reducible rfl))
    (try simp only [Act.put, List.getElem_toArray, List.getElem_cons_zero, List.getElem_cons_succ, List.setIfInBounds_toArray, List.set_cons_zero, List.set_cons_succ])
    refine wpAnyZ_take 13 (v := ?va13_14) rfl (by kernel_rfl) (by kernel_rfl) (by kernel_rfl) (by kernel_rfl) (fun _ _ _ h => h) (by rfl) ?hya13_14 hS ?resta13_14
    case hya13_14 => (intro wx hSx; obtain ⟨s1, s2, s3, s4⟩ := hSx; go_simp; (try with_reducible rfl))
    (try simp only [Act.put, List.getElem_toArray, List.getElem_cons_zero, List.getElem_cons_succ, List.setIfInBounds_toArray, List.set_cons_zero, List.set_cons_succ])
    refine wpAnyZ_take 14 (v := ?va14_15) rfl (by kernel_rfl) (by kernel_rfl) (by kernel_rfl) (by kernel_rfl) (fun _ _ _ h => h) (by rfl) ?hya14_15 hS ?resta14_15
    case hya14_15 => (intro wx hSx; obtain ⟨s1, s2, s3, s4⟩ := hSx; go_simp; (try with_reducible rfl))
    (try simp only [Act.put, List.getElem_toArray, List.getElem_cons_zero, List.getElem_cons_succ, List.setIfInBounds_toArray, List.set_cons_zero, List.set_cons_succ])
    refine wpAnyZ_take 15 (v := ?va15_16) rfl (by kernel_rfl) (by kernel_rfl) (by kernel_rfl) (by kernel_rfl) (fun _ _ _ h => h) (by rfl) ?hya15_16 hS ?resta15_16
    case hya15_16 => (intro wx hSx; obtain ⟨s1, s2, s3, s4⟩ := hSx; go_simp; (try with_reducible rfl))
    (try simp only [Act.put, List.getElem_toArray, List.getElem_cons_zero, List.getElem_cons_succ, List.setIfInBounds_toArray, List.set_cons_zero, List.set_cons_succ])
    refine wpAnyZ_take 16 (v := ?va16_17) rfl (by kernel_rfl) (by kernel_rfl) (by kernel_rfl) (by kernel_rfl) (fun _ _ _ h => h) (by rfl) ?hya16_17 hS ?resta16_17
    case hya16_17 => (intro wx hSx; obtain ⟨s1, s2, s3, s4⟩ := hSx; go_simp; (try with_reducible rfl))
    (try simp only [Act.put, List.getElem_toArray, List.getElem_cons_zero, List.getElem_cons_succ, List.setIfInBounds_toArray, List.set_cons_zero, List.set_cons_succ])
    refine wpAnyZ_take 17 (v := ?va17_18) rfl (by kernel_rfl) (by kernel_rfl) (by kernel_rfl) (by kernel_rfl) (fun _ _ _ h => h) (by rfl) ?hya17_18 hS ?resta17_18
    case hya17_18 => (intro wx hSx; obtain ⟨s1, s2, s3, s4⟩ := hSx; go_simp; (try with_reducible rfl))
    (try simp only [Act.put, List.getElem_toArray, List.getElem_cons_zero, List.getElem_cons_succ, List.setIfInBounds_toArray, List.set_cons_zero, List.set_cons_succ])
    refine wpAnyZ_one 18 rfl (by kernel_rfl) (fun K hK => ?_)
    go_simp
    refine hK _ _ (fun _ => hS) ?_
    clear hK K
    (try simp only [Act.put, List.getElem_toArray, List.getElem_cons_zero, List.getElem_cons_succ, List.setIfInBounds_toArray, List.set_cons_zero, List.set_cons_succ])
    refine wpAnyZ_one 19 rfl (by kernel_rfl) (fun K hK => ?_)
    go_simp
    refine hK _ _ (fun _ => hS) ?_
    clear hK K
    (try simp only [Act.put, List.getElem_toArray, List.getElem_cons_zero, List.getElem_cons_succ, List.setIfInBounds_toArray, List.set_cons_zero, List.set_cons_succ])
    refine wpAnyZ_one 20 rfl (by kernel_rfl) (fun K hK => ?_)
    go_simp
    refine hK _ _ (fun h => absurd rfl h) ?_
    clear hK K
    (try simp only [Act.put, List.getElem_toArray, List.getElem_cons_zero, List.getElem_cons_succ, List.setIfInBounds_toArray, List.set_cons_zero, List.set_cons_succ])
    refine wpAnyZ_done (by kernel_rfl) ?_ _
    rw [← hw9]
    clear hw9 hS f8'
    go_wp2
    go_roundw
    case rel => exact ⟨j + 1, by omega, by go_num, by rw [HTK.out]; exact HS9.out⟩
    case measure => simp [intOf]; omega
end Go.Proofs.YtocpagpkpibmaaaGreatDoor

