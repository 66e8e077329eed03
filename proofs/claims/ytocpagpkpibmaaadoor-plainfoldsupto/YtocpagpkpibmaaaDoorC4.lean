import Derived.Test.YtocpagpkpibmaaaDoorC3
/-
  OWN WORK (by mkpnn.py). The document's New with its blocks; the law's alive (layer 18), for any State.
-/
namespace Go.Proofs.YtocpagpkpibmaaaDoor
open Go.RowKit
set_option linter.unusedVariables false
set_option linter.unusedSimpArgs false

theorem fresh_go {w a b : World} {F F' : List Nat} (hF : ∀ x ∈ F, w.heap.size ≤ x) (k : Kept [] w a) (f : Fr a F F') (k' : Kept F a b) : (∀ x ∈ F', w.heap.size ≤ x) ∧ Kept [] w b :=
  ⟨fun x hx => by
    rcases f x hx with q | q
    · exact hF x q
    · have := k.size; omega, k.trans k' (fun y hy => .inr (hF y hy))⟩
/-- the law's own Config -/
def c18 : Cf := ⟨2, 2, 1024, 2, 2, 100⟩
def a0 : St := ⟨[], [], 0⟩
def a1 : St := begS c18 a0 3
def a2 : St := putS c18 a1 3 8 5
def a3 : St := begS c18 a2 3
def a4 : St := getS c18 a3 3 8
theorem c18_may : mayC c18 := by unfold mayC c18; decide
theorem a_ans : begE c18 a0 3 = 0 ∧ putE c18 a1 3 8 5 = 0 ∧ begE c18 a2 3 = 160 ∧ a3.used = 90 ∧ keptO a3.opn = 154 ∧ getA c18 a3 3 8 = (5, true, 0) ∧ endE a4 3 = 0 := by decide +kernel
theorem a_small : small a0 ∧ small a1 ∧ small a2 ∧ small a3 ∧ small a4 := by unfold small; decide +kernel
theorem small_any (w : World) : Calls Tryd.prog 19 #[] w fun e w' => e = .returned (.agg #[.int .i64 c18.pages, .int .i64 c18.slots, .int .i64 c18.log, .int .i64 c18.frames, .int .i64 c18.table, .int .i64 c18.keys]) ∧ Kept [] w w' := by
  go_enter Tryd.func19, Tryd.ntmps19
  go_wp2
  obtain ⟨w1, hw1⟩ : ∃ wx, wx = w.alloc (.cells #[.int .i64 2, .int .i64 2, .int .i64 1024, .int .i64 2, .int .i64 2, .int .i64 100] 39) := ⟨_, rfl⟩
  have B : Blk w1 w.heap.size 39 [.int .i64 2, .int .i64 2, .int .i64 1024, .int .i64 2, .int .i64 2, .int .i64 100] := by rw [hw1]; exact Blk.new w _ _
  have k1 : Kept [] w w1 := by rw [hw1]; exact (Kept.refl [] w).alloc _
  rw [← hw1]
  refine bodyPost_ret (v := .agg #[.int .i64 2, .int .i64 2, .int .i64 1024, .int .i64 2, .int .i64 2, .int .i64 100]) (results_cell_row Tryd.results19 _ w1 w.heap.size 39 _ (0, 0) _ (by rfl) B Tryd.underlying39 rfl (by kernel_rfl)) rfl ?_
  exact ⟨rfl, k1⟩
variable {Ks : List Nat} {Vr : World → Prop} {Pn : World → Nat → List Nat → Cf → St → Prop} (O : PnOps Ks Vr Pn)
include O
set_option maxRecDepth 20000 in
set_option maxHeartbeats 6400000 in
theorem alive_any (w : World) (hv : Vr w) : Calls Tryd.prog 7 #[] w fun e w' => e = .returned (.bool true) ∧ Kept [] w w' := by
  have HA := @hideH _ a_ans
  have HV := @hideH _ hv
  clear hv
  have HSM := @hideH _ a_small
  go_enter Tryd.func7, Tryd.ntmps7
  go_wp2_with fail
  refine (small_any _).mono ?_
  rintro e w1 ⟨rfl, k1⟩
  go_wp2_with fail
  refine (O.new c18 _ (O.vkept HV.out k1 (by simp))).mono ?_
  rintro e w2 (⟨-, g, F, rfl, p, hF, k2⟩ | ⟨hm, -⟩)
  rotate_left
  · exact absurd c18_may hm
  have HF := @hideH _ (show (∀ x ∈ F, w.heap.size ≤ x) ∧ Kept [] w w2 from ⟨fun x hx => Nat.le_trans k1.size (hF x hx), k1.then k2⟩)
  have HP := @hideH _ (show Pn w2 g F c18 a0 from p)
  clear p hF k1 k2
  go_wp2_with fail
  refine (num_any _ _).mono ?_
  rintro e wb ⟨rfl, hwb⟩
  rw [hwb]
  clear hwb

  go_wp2_with fail
  refine (O.begin_ 3 _ (O.vkept HV.out HF.out.2 (by simp)) HP.out HSM.out.1 (by unfold I64; omega)).mono ?_
  rintro e w3 ⟨F', rfl, p', f', k'⟩
  replace HF := @hideH _ (fresh_go HF.out.1 HF.out.2 f' k')
  replace HP := @hideH _ (show Pn w3 g F' c18 a1 from p')
  clear p' f' k' F w2
  obtain ⟨F, rfl⟩ : ∃ F, F = F' := ⟨_, rfl⟩
  rw [HA.out.1]
  go_wp2_with fail
  refine (num_any _ _).mono ?_
  rintro e wb ⟨rfl, hwb⟩
  rw [hwb]
  clear hwb
  go_wp2_with fail
  refine (O.put 3 8 5 _ (O.vkept HV.out HF.out.2 (by simp)) HP.out HSM.out.2.1 (by unfold I64; omega) (by unfold I64; omega) (by unfold u64; omega)).mono ?_
  rintro e w4 ⟨F', rfl, p', f', k'⟩
  replace HF := @hideH _ (fresh_go HF.out.1 HF.out.2 f' k')
  replace HP := @hideH _ (show Pn w4 g F' c18 a2 from p')
  clear p' f' k' F w3
  obtain ⟨F, rfl⟩ : ∃ F, F = F' := ⟨_, rfl⟩
  rw [HA.out.2.1]
  go_wp2_with fail
  refine (num_any _ _).mono ?_
  rintro e wb ⟨rfl, hwb⟩
  rw [hwb]
  clear hwb
  go_wp2_with fail
  refine (O.begin_ 3 _ (O.vkept HV.out HF.out.2 (by simp)) HP.out HSM.out.2.2.1 (by unfold I64; omega)).mono ?_
  rintro e w5 ⟨F', rfl, p', f', k'⟩
  replace HF := @hideH _ (fresh_go HF.out.1 HF.out.2 f' k')
  replace HP := @hideH _ (show Pn w5 g F' c18 a3 from p')
  clear p' f' k' F w4
  obtain ⟨F, rfl⟩ : ∃ F, F = F' := ⟨_, rfl⟩
  rw [HA.out.2.2.1]
  go_wp2_with fail
  refine (num_any _ _).mono ?_
  rintro e wb ⟨rfl, hwb⟩
  rw [hwb]
  clear hwb
  go_wp2_with fail
  refine (O.used _ (O.vkept HV.out HF.out.2 (by simp)) HP.out).mono ?_
  rintro e w6 ⟨rfl, k6⟩
  replace HF := @hideH _ (And.intro HF.out.1 (HF.out.2.then k6))
  replace HP := @hideH _ (O.kept HP.out k6 (by simp))
  clear k6 w5
  rw [HA.out.2.2.2.1, HA.out.2.2.2.2.1]
  go_wp2_with fail
  refine (O.get 3 8 _ (O.vkept HV.out HF.out.2 (by simp)) HP.out HSM.out.2.2.2.1 (by unfold I64; omega) (by unfold I64; omega)).mono ?_
  rintro e w7 ⟨F', rfl, p', f', k'⟩
  replace HF := @hideH _ (fresh_go HF.out.1 HF.out.2 f' k')
  replace HP := @hideH _ (show Pn w7 g F' c18 a4 from p')
  clear p' f' k' F w6
  obtain ⟨F, rfl⟩ : ∃ F, F = F' := ⟨_, rfl⟩
  rw [HA.out.2.2.2.2.2.1]
  go_wp2_with fail
  refine (num_any _ _).mono ?_
  rintro e wb ⟨rfl, hwb⟩
  rw [hwb]
  clear hwb
  go_wp2_with fail
  refine (O.commit 3 _ (O.vkept HV.out HF.out.2 (by simp)) HP.out HSM.out.2.2.2.2 (by unfold I64; omega)).mono ?_
  rintro e w8 ⟨F', rfl, p', f', k'⟩
  replace HF := @hideH _ (fresh_go HF.out.1 HF.out.2 f' k')
  replace HP := @hideH _ (show Pn w8 g F' c18 (comS a4 3) from p')
  clear p' f' k' F w7
  obtain ⟨F, rfl⟩ : ∃ F, F = F' := ⟨_, rfl⟩
  rw [HA.out.2.2.2.2.2.2]
  go_wp2_with fail
  refine (num_any _ _).mono ?_
  rintro e wb ⟨rfl, hwb⟩
  rw [hwb]
  clear hwb
  go_wp2
  go_ret
  exact ⟨rfl, HF.out.2⟩
end Go.Proofs.YtocpagpkpibmaaaDoor

/-
  OWN WORK (by mkpni.py). The document's Fold (layer 18).
-/
namespace Go.Proofs.YtocpagpkpibmaaaDoor
open Go.RowKit
set_option linter.unusedVariables false
set_option linter.unusedSimpArgs false

set_option maxRecDepth 20000 in
set_option maxHeartbeats 6400000 in
theorem rFold (v : Value) (D : List (List Chg × Value)) (w : World) (h : Ll w v D) (hlen : (D.map Prod.fst).flatten.length ≤ 4000000000000) : Calls Tryd.prog 9 #[v] w fun e w' => ∃ vo, e = .returned vo ∧ Es w' w.heap.size vo (foldL (D.map Prod.fst)) ∧ Kept [] w w' := by
  obtain ⟨pd, kd, hvd, hnc, hcm⟩ := h.1.shape
  subst hvd
  obtain ⟨nd, hnd⟩ : ∃ nd, nd = D.length := ⟨_, rfl⟩
  rw [← hnd]
  have HND := @hideH _ (And.intro hnd (show nd ≤ maxLen by rw [hnd]; exact Nat.le_trans hnc hcm))
  have HL := @hideH _ h
  rw [← hnd] at HL
  have HLEN := @hideH _ hlen
  clear h hlen hnd hnc hcm
  obtain ⟨infE, hin1, hin2, hin3, hin4⟩ := info_parts3 (show (Tryd.prog.info? 72).map (fun i => (i.zero, i.size, i.bytes)) = some (some (.agg #[.int .i64 0, .int .u64 0]), 2, 16) by kernel_rfl)
  have HIE := @hideH _ (And.intro hin1 (And.intro hin2 (And.intro hin3 hin4)))
  clear hin1 hin2 hin3 hin4
  go_enter Tryd.func9, Tryd.ntmps9
  go_wp2
  go_loopw [3, 4] (fun vo vi wr => ∃ (i m : Nat) (po : Option Addr) (co : Nat), i ≤ nd ∧ vi = .int .i64 i ∧ vo = .slice po m co ∧ Hid (m = (foldL ((D.map Prod.fst).take i)).length ∧ Es wr w.heap.size (.slice po m co) (foldL ((D.map Prod.fst).take i)) ∧ Kept [] w wr)) (fun _ vi _ => nd - (intOf vi).toNat)
  case atStart => exact ⟨0, 0, none, 0, Nat.zero_le _, rfl, rfl, by simp [foldL], by simp [foldL]; exact Es.nil _ _, Kept.refl _ _⟩
  case round =>
    obtain ⟨i, m, po, co, hi, rfl, rfl, hh⟩ := hrel
    obtain ⟨wa, hwa⟩ : ∃ wa, wa = wr := ⟨_, rfl⟩
    rw [← hwa] at hh ⊢
    clear hwa
    by_cases hil : i < nd
    rotate_left
    · have hil' : ¬ (i : Int) < (nd : Int) := by omega
      have HE := @hideH _ (show (D.map Prod.fst).take i = D.map Prod.fst from List.take_of_length_le (by rw [List.length_map]; have := HND.out; omega))
      go_wp2
      go_ret
      exact ⟨_, rfl, by rw [← HE.out]; exact hh.out.2.1, hh.out.2.2⟩
    have hil' : (i : Int) < (nd : Int) := by omega
    have hi0 : (0 : Int) ≤ (i : Int) := by omega
    have wi : IntKind.i64.wrap ((i : Int) + 1) = (i : Int) + 1 := wrap_i64_of (by omega) (by have e := HND.out.2; unfold maxLen at e; omega)
    obtain ⟨d, hd⟩ : ∃ d, D[i]? = some d := ⟨_, List.getElem?_eq_getElem (by have := HND.out.1; omega)⟩
    obtain ⟨gd, hpd, -⟩ := HL.out.at hd
    subst hpd
    obtain ⟨l, vl⟩ := d
    have hcl := HL.out.2 _ (List.mem_of_getElem? hd)
    dsimp only at hcl
    obtain ⟨pl, cl, hvl, hlc, hlm⟩ := hcl.shape
    subst hvl
    obtain ⟨nl, hnl⟩ : ∃ nl, nl = l.length := ⟨_, rfl⟩
    have HD := @hideH _ (And.intro hd (And.intro hnl (Nat.le_trans hlc hlm)))
    have HCL := @hideH _ hcl
    have hls : (D.map Prod.fst)[i]? = some l := by rw [List.getElem?_map, hd]; rfl
    have HLS := @hideH _ hls
    have HH := @hideH _ hh.out
    clear hd hcl hlc hlm hnl hls hh
    go_wp2
    go_loopw [3, 5] (fun vo vj wr => ∃ (j m : Nat) (po : Option Addr) (co : Nat), j ≤ nl ∧ vj = .int .i64 j ∧ vo = .slice po m co ∧ Hid (m = (foldE (foldL ((D.map Prod.fst).take i)) (l.take j)).length ∧ Es wr w.heap.size (.slice po m co) (foldE (foldL ((D.map Prod.fst).take i)) (l.take j)) ∧ Kept [] w wr)) (fun _ vj _ => nl - (intOf vj).toNat)
    case atStart => exact ⟨0, m, po, co, Nat.zero_le _, rfl, rfl, by simp [foldE]; exact HH.out.1, by simp [foldE]; exact HH.out.2.1, HH.out.2.2⟩
    case round =>
      obtain ⟨j, mj, pj, cj, hj, rfl, rfl, hh⟩ := hrel
      obtain ⟨wb, hwb⟩ : ∃ wb, wb = wr := ⟨_, rfl⟩
      rw [← hwb] at hh ⊢
      clear hwb
      obtain ⟨gd', hpd', dd⟩ := (HL.out.then hh.out.2.2).at HD.out.1
      cases hpd'
      dsimp only at dd
      rw [← HD.out.2.1] at dd
      by_cases hjl : j < nl
      rotate_left
      · have hjl' : ¬ (j : Int) < (nl : Int) := by omega
        have HE := @hideH _ (show foldE (foldL ((D.map Prod.fst).take i)) (l.take j) = foldL ((D.map Prod.fst).take (i + 1)) by rw [show l.take j = l from List.take_of_length_le (by have := HD.out.2.1; omega), foldL_take HLS.out])
        have HX := @hideH _ hh.out
        clear hh
        go_wp2
        go_roundw
        case rel => exact ⟨i + 1, mj, pj, cj, by omega, by go_num, rfl, by rw [← HE.out]; exact HX.out.1, by rw [← HE.out]; exact HX.out.2.1, HX.out.2.2⟩
        case measure => simp [intOf]; omega
      have hjl' : (j : Int) < (nl : Int) := by omega
      have hj0 : (0 : Int) ≤ (j : Int) := by omega
      have wj : IntKind.i64.wrap ((j : Int) + 1) = (j : Int) + 1 := wrap_i64_of (by omega) (by have e := HD.out.2; unfold maxLen at e; omega)
      obtain ⟨x, hx⟩ : ∃ x, l[j]? = some x := ⟨_, List.getElem?_eq_getElem (by have := HD.out.2.1; omega)⟩
      have hcl := HCL.out.kept hh.out.2.2 (by simp)
      rw [← HD.out.2.1] at hcl
      obtain ⟨gx, hpx, -, -, x0, x1, x2⟩ := hcl.at hx
      subst hpx
      obtain ⟨O, hO⟩ : ∃ O, O = foldE (foldL ((D.map Prod.fst).take i)) (l.take j) := ⟨_, rfl⟩
      rw [← hO] at hh
      have HO := @hideH _ (And.intro hO (show O.length ≤ 4000000000000 by rw [hO]; exact Nat.le_trans (fold_bound HLS.out) HLEN.out))
      have HFT := @hideH _ (show foldE (foldL ((D.map Prod.fst).take i)) (l.take (j + 1)) = layE x x.gone O by rw [foldE_take hx, hO])
      obtain ⟨w6, hw6⟩ : ∃ wx, wx = wb.alloc (.cells #[.int .i64 x.key, .int .u64 x.val, .bool x.gone] 57) := ⟨_, rfl⟩
      have k6 : Kept [] wb w6 := by rw [hw6]; exact (Kept.refl [] wb).alloc _
      have X6 : Blk w6 wb.heap.size 57 [.int .i64 x.key, .int .u64 x.val, .bool x.gone] := by rw [hw6]; exact Blk.new wb _ _
      have HX6 := @hideH _ X6
      have HO6 := @hideH _ (And.intro hh.out.1 (hh.out.2.1.kept k6 (by simp)))
      have HK6 := @hideH _ (hh.out.2.2.then k6)
      have y0 := X6.cell (j := 0) rfl
      have y1 := X6.cell (j := 1) rfl
      have y2 := X6.cell (j := 2) rfl
      clear hx hcl hO hh k6 X6
      go_upto_region 9 with fail
      rw [← hw6]
      clear hw6 dd x0 x1 x2
      go_wp2
      go_loopw [7, 8, 9] (fun vn vb vk wr => ∃ (k q : Nat) (pn : Option Addr) (cn : Nat) (b : Bool) (N : List (Int × Int)), k ≤ mj ∧ q ≤ k + 1 ∧ vk = .int .i64 k ∧ vb = .bool b ∧ vn = .slice pn q cn ∧ Hid (q = N.length ∧ Mid x O k N b ∧ Es wr w6.heap.size (.slice pn q cn) N ∧ Kept [] w6 wr)) (fun _ _ vk _ => mj - (intOf vk).toNat)
      case atStart => exact ⟨0, 0, none, 0, x.gone, [], Nat.zero_le _, by omega, rfl, rfl, rfl, rfl, Mid.start x O, Es.nil _ _, Kept.refl _ _⟩
      case round =>
        obtain ⟨k, q, pn, cn, b, N, hk, hq, rfl, rfl, rfl, hh⟩ := hrel
        replace y0 := hh.out.2.2.2.cell y0 (by simp)
        replace y1 := hh.out.2.2.2.cell y1 (by simp)
        have HQ := @hideH _ (show q ≤ 4000000000001 by have := HO.out.2; have := HO6.out.1; omega)
        by_cases hkl : k < mj
        rotate_left
        · have hkl' : ¬ (k : Int) < (mj : Int) := by omega
          have HF := @hideH _ (hh.out.2.1.fin (show k = O.length by have := HO6.out.1; omega))
          cases b
          rotate_left
          · have HX := @hideH _ hh.out
            clear hh
            go_wp2
            go_roundw
            case rel => exact ⟨j + 1, q, pn, cn, by omega, by go_num, rfl, by rw [HFT.out, HF.out]; simpa using HX.out.1, by rw [HFT.out, HF.out]; simpa using HX.out.2.2.1.mono HK6.out.size, HK6.out.then HX.out.2.2.2⟩
            case measure => simp [intOf]; omega
          obtain ⟨w7, hw7⟩ : ∃ wx, wx = wr.alloc (.cells #[.int .i64 x.key, .int .u64 x.val] 72) := ⟨_, rfl⟩
          have k7 : Kept [] wr w7 := by rw [hw7]; exact (Kept.refl [] wr).alloc _
          have hsrc := src_ent (P := Tryd.prog) wr 27 72 Tryd.underlying27 x.key x.val
          rw [← hw7] at hsrc
          have R7 := hh.out.2.2.1.kept k7 (by simp)
          unfold Es at R7
          rw [← hh.out.1] at R7
          have hba := (hh.out.2.2.2.then k7).size
          have HX := @hideH _ hh.out
          have HK7 := @hideH _ k7
          clear hh k7
          go_wp2_with (at_builtin; rw [← hw7]; refine wpList_append_row2 rfl (.tmp 77) (.tmp 83) 27 rfl w6.heap.size 72 infE (.agg #[.int .i64 0, .int .u64 0]) 2 16 Tryd.underlying27 HIE.out.1 HIE.out.2.1 HIE.out.2.2.1 HIE.out.2.2.2 rfl _ _ _ (by rfl) R7 _ 1 _ (by rfl) hsrc (by have e1 := HQ.out; omega) (by have e1 := HQ.out; unfold maxLen; omega) (by have e1 := HQ.out; omega) hba ?_; intro v' w8 r8 k8 o8; obtain ⟨p8, c8, hv', -⟩ := Row.shape r8; subst hv'; have HX8 := @hideH _ (And.intro r8 k8); clear r8 k8 o8 R7 hsrc hba hw7)
          go_roundw
          case rel => exact ⟨j + 1, q + 1, p8, c8, by omega, by go_num, rfl, by rw [HFT.out, HF.out, HX.out.1]; simp, by rw [HFT.out, HF.out]; exact (Es.snoc (w := w8) (x := (x.key, x.val)) (by rw [← HX.out.1]; exact HX8.out.1)).mono HK6.out.size, (HK6.out.then (HX.out.2.2.2.then HK7.out)).trans HX8.out.2 (fun y hy => .inr (by have := (Row.lt HX.out.2.2.1 y (own_mem.1 hy)).1; have := HK6.out.size; omega))⟩
          case measure => simp [intOf]; omega
        have hkl' : (k : Int) < (mj : Int) := by omega
        have hk0 : (0 : Int) ≤ (k : Int) := by omega
        have wk : IntKind.i64.wrap ((k : Int) + 1) = (k : Int) + 1 := wrap_i64_of (by omega) (by have := HO.out.2; have := HO6.out.1; omega)
        obtain ⟨e, he⟩ : ∃ e, O[k]? = some e := ⟨_, List.getElem?_eq_getElem (by have := HO6.out.1; omega)⟩
        obtain ⟨ge, hpe, -, hge, f0, f1⟩ := HO6.out.2.at he
        subst hpe
        have g0 := HX6.out.cell (j := 0) rfl
        have g1 := HX6.out.cell (j := 1) rfl
        have HM := @hideH _ (hh.out.2.1.step he)
        have HC := @hideH _ (And.intro f0 (And.intro f1 (And.intro g0 g1)))
        have HS0 := @hideH _ (And.intro hh.out.1 (And.intro hh.out.2.2.1 hh.out.2.2.2))
        have HQK := @hideH _ hq
        clear y0 y1 y2 he hh f0 f1 g0 g1 hge
        cases b
        rotate_left
        · skip
          have z0 := (HS0.out.2.2).cell HC.out.1 (by simp)
          have z1 := (HS0.out.2.2).cell HC.out.2.1 (by simp)
          have y0 := (HS0.out.2.2).cell HC.out.2.2.1 (by simp)
          have y1 := (HS0.out.2.2).cell HC.out.2.2.2 (by simp)
          go_upto_region 14 with fail
          go_quiet (fail)
          clear z0 z1 y0 y1
          obtain ⟨wx1, hwx1⟩ : ∃ wx, wx = wr.drewN nq := ⟨_, rfl⟩
          have kwx1 : Kept [] wr wx1 := by rw [hwx1]; exact (Kept.refl [] wr).drewN' _
          rw [← hwx1]
          clear hwx1
          have HS1 := @hideH _ (And.intro HS0.out.1 (And.intro (HS0.out.2.1.kept kwx1 (by simp)) (HS0.out.2.2.then kwx1)))
          clear kwx1 HQ
          have HQ := @hideH _ (show q ≤ 4000000000002 by have := HO.out.2; have := HO6.out.1; have := HQK.out; omega)
          have z0 := (HS1.out.2.2).cell HC.out.1 (by simp)
          have z1 := (HS1.out.2.2).cell HC.out.2.1 (by simp)
          have y0 := (HS1.out.2.2).cell HC.out.2.2.1 (by simp)
          have y1 := (HS1.out.2.2).cell HC.out.2.2.2 (by simp)
          by_cases ek : e.1 = x.key
          · have ek' : (e.1 != x.key) = false := by simpa using ek
            have HMM := @hideH _ (show Mid x O (k + 1) (N) true from by have m := HM.out; rw [if_neg (by simp)] at m; rw [if_pos ek] at m; simpa using m)
            clear ek
            go_upto_region 17 with fail
            go_quiet (fail)
            clear z0 z1 y0 y1
            obtain ⟨wz, hwz⟩ : ∃ wx, wx = wx1.drewN nq := ⟨_, rfl⟩
            have kwz : Kept [] wx1 wz := by rw [hwz]; exact (Kept.refl [] wx1).drewN' _
            rw [← hwz]
            clear hwz
            go_wp2
            go_roundw
            case rel => exact ⟨k + 1, q, pn, cn, true, N, by omega, by have := HQK.out; have := HMM.out.len; have := HS1.out.1; omega, by go_num, rfl, rfl, HS1.out.1, HMM.out, HS1.out.2.1.kept kwz (by simp), HS1.out.2.2.then kwz⟩
            case measure => simp [intOf]; omega
          · have ek' : (e.1 != x.key) = true := by simpa using ek
            have HMM := @hideH _ (show Mid x O (k + 1) (N ++ [e]) true from by have m := HM.out; rw [if_neg (by simp)] at m; rw [if_neg ek] at m; simpa using m)
            clear ek
            go_upto_region 17 with fail
            go_quiet (fail)
            clear z0 z1 y0 y1
            obtain ⟨wz, hwz⟩ : ∃ wx, wx = wx1.drewN nq := ⟨_, rfl⟩
            have kwz : Kept [] wx1 wz := by rw [hwz]; exact (Kept.refl [] wx1).drewN' _
            rw [← hwz]
            clear hwz
            have HSZ := @hideH _ (And.intro HS1.out.1 (And.intro (HS1.out.2.1.kept kwz (by simp)) (HS1.out.2.2.then kwz)))
            clear kwz
            have z0 := (HSZ.out.2.2).cell HC.out.1 (by simp)
            have z1 := (HSZ.out.2.2).cell HC.out.2.1 (by simp)
            have y0 := (HSZ.out.2.2).cell HC.out.2.2.1 (by simp)
            have y1 := (HSZ.out.2.2).cell HC.out.2.2.2 (by simp)
            clear y0 y1
            obtain ⟨wl, hwl⟩ : ∃ wx, wx = wz.alloc (.cells #[.int .i64 e.1, .int .u64 e.2] 72) := ⟨_, rfl⟩
            have kl : Kept [] wz wl := by rw [hwl]; exact (Kept.refl [] wz).alloc _
            have hsrc := src_ent (P := Tryd.prog) wz 27 72 Tryd.underlying27 e.1 e.2
            skip
            rw [← hwl] at hsrc
            have R7 := HSZ.out.2.1.kept kl (by simp)
            unfold Es at R7
            rw [← HSZ.out.1] at R7
            have hba := (HSZ.out.2.2.then kl).size
            have HKL := @hideH _ kl
            clear kl
            go_upto_region 13 with (at_builtin; rw [← hwl]; refine wpList_append_row2 rfl (.tmp 68) (.tmp 73) 27 rfl w6.heap.size 72 infE (.agg #[.int .i64 0, .int .u64 0]) 2 16 Tryd.underlying27 HIE.out.1 HIE.out.2.1 HIE.out.2.2.1 HIE.out.2.2.2 rfl _ _ _ (by rfl) R7 _ 1 _ (by rfl) hsrc (by have e1 := HQ.out; omega) (by have e1 := HQ.out; unfold maxLen; omega) (by have e1 := HQ.out; omega) hba ?_; intro v' wy r8 k8 o8; obtain ⟨pwy, cwy, hv', -⟩ := Row.shape r8; subst hv'; have HX8 := @hideH _ (And.intro r8 k8); clear r8 k8 o8 R7 hsrc hba hwl)
            have HSY := @hideH _ (show q + 1 = (N ++ [e]).length ∧ Es wy w6.heap.size (.slice pwy (q + 1) cwy) (N ++ [e]) ∧ Kept [] w6 wy from ⟨by rw [List.length_append, ← HSZ.out.1]; rfl, Es.snoc (w := wy) (x := e) (by rw [← HSZ.out.1]; exact HX8.out.1), (HSZ.out.2.2.then HKL.out).trans HX8.out.2 (fun y hy => .inr (Row.lt HSZ.out.2.1 y (own_mem.1 hy)).1)⟩)
            clear HX8 HKL
            clear z0 z1
            go_wp2
            go_roundw
            case rel => exact ⟨k + 1, q + 1, pwy, cwy, true, N ++ [e], by omega, by have := HMM.out.len; have := HSY.out.1; omega, by go_num, rfl, rfl, HSY.out.1, HMM.out, HSY.out.2.1, HSY.out.2.2⟩
            case measure => simp [intOf]; omega
        by_cases hle : x.key ≤ e.1
        rotate_left
        · skip
          have z0 := (HS0.out.2.2).cell HC.out.1 (by simp)
          have z1 := (HS0.out.2.2).cell HC.out.2.1 (by simp)
          have y0 := (HS0.out.2.2).cell HC.out.2.2.1 (by simp)
          have y1 := (HS0.out.2.2).cell HC.out.2.2.2 (by simp)
          go_upto_region 14 with fail
          go_quiet (fail)
          clear z0 z1 y0 y1
          obtain ⟨wx1, hwx1⟩ : ∃ wx, wx = wr.drewN nq := ⟨_, rfl⟩
          have kwx1 : Kept [] wr wx1 := by rw [hwx1]; exact (Kept.refl [] wr).drewN' _
          rw [← hwx1]
          clear hwx1
          have HS1 := @hideH _ (And.intro HS0.out.1 (And.intro (HS0.out.2.1.kept kwx1 (by simp)) (HS0.out.2.2.then kwx1)))
          have HLE := @hideH _ hle
          clear kwx1 HQ hle
          have HQ := @hideH _ (show q ≤ 4000000000002 by have := HO.out.2; have := HO6.out.1; have := HQK.out; omega)
          have z0 := (HS1.out.2.2).cell HC.out.1 (by simp)
          have z1 := (HS1.out.2.2).cell HC.out.2.1 (by simp)
          have y0 := (HS1.out.2.2).cell HC.out.2.2.1 (by simp)
          have y1 := (HS1.out.2.2).cell HC.out.2.2.2 (by simp)
          by_cases ek : e.1 = x.key
          · have ek' : (e.1 != x.key) = false := by simpa using ek
            have HMM := @hideH _ (show Mid x O (k + 1) (N) false from by have m := HM.out; rw [if_neg (fun t => HLE.out t.2), decide_eq_false HLE.out] at m; rw [if_pos ek] at m; simpa using m)
            clear ek
            go_upto_region 17 with fail
            go_quiet (fail)
            clear z0 z1 y0 y1
            obtain ⟨wz, hwz⟩ : ∃ wx, wx = wx1.drewN nq := ⟨_, rfl⟩
            have kwz : Kept [] wx1 wz := by rw [hwz]; exact (Kept.refl [] wx1).drewN' _
            rw [← hwz]
            clear hwz
            go_wp2
            go_roundw
            case rel => exact ⟨k + 1, q, pn, cn, false, N, by omega, by have := HQK.out; have := HMM.out.len; have := HS1.out.1; omega, by go_num, rfl, rfl, HS1.out.1, HMM.out, HS1.out.2.1.kept kwz (by simp), HS1.out.2.2.then kwz⟩
            case measure => simp [intOf]; omega
          · have ek' : (e.1 != x.key) = true := by simpa using ek
            have HMM := @hideH _ (show Mid x O (k + 1) (N ++ [e]) false from by have m := HM.out; rw [if_neg (fun t => HLE.out t.2), decide_eq_false HLE.out] at m; rw [if_neg ek] at m; simpa using m)
            clear ek
            go_upto_region 17 with fail
            go_quiet (fail)
            clear z0 z1 y0 y1
            obtain ⟨wz, hwz⟩ : ∃ wx, wx = wx1.drewN nq := ⟨_, rfl⟩
            have kwz : Kept [] wx1 wz := by rw [hwz]; exact (Kept.refl [] wx1).drewN' _
            rw [← hwz]
            clear hwz
            have HSZ := @hideH _ (And.intro HS1.out.1 (And.intro (HS1.out.2.1.kept kwz (by simp)) (HS1.out.2.2.then kwz)))
            clear kwz
            have z0 := (HSZ.out.2.2).cell HC.out.1 (by simp)
            have z1 := (HSZ.out.2.2).cell HC.out.2.1 (by simp)
            have y0 := (HSZ.out.2.2).cell HC.out.2.2.1 (by simp)
            have y1 := (HSZ.out.2.2).cell HC.out.2.2.2 (by simp)
            clear y0 y1
            obtain ⟨wl, hwl⟩ : ∃ wx, wx = wz.alloc (.cells #[.int .i64 e.1, .int .u64 e.2] 72) := ⟨_, rfl⟩
            have kl : Kept [] wz wl := by rw [hwl]; exact (Kept.refl [] wz).alloc _
            have hsrc := src_ent (P := Tryd.prog) wz 27 72 Tryd.underlying27 e.1 e.2
            skip
            rw [← hwl] at hsrc
            have R7 := HSZ.out.2.1.kept kl (by simp)
            unfold Es at R7
            rw [← HSZ.out.1] at R7
            have hba := (HSZ.out.2.2.then kl).size
            have HKL := @hideH _ kl
            clear kl
            go_upto_region 13 with (at_builtin; rw [← hwl]; refine wpList_append_row2 rfl (.tmp 68) (.tmp 73) 27 rfl w6.heap.size 72 infE (.agg #[.int .i64 0, .int .u64 0]) 2 16 Tryd.underlying27 HIE.out.1 HIE.out.2.1 HIE.out.2.2.1 HIE.out.2.2.2 rfl _ _ _ (by rfl) R7 _ 1 _ (by rfl) hsrc (by have e1 := HQ.out; omega) (by have e1 := HQ.out; unfold maxLen; omega) (by have e1 := HQ.out; omega) hba ?_; intro v' wy r8 k8 o8; obtain ⟨pwy, cwy, hv', -⟩ := Row.shape r8; subst hv'; have HX8 := @hideH _ (And.intro r8 k8); clear r8 k8 o8 R7 hsrc hba hwl)
            have HSY := @hideH _ (show q + 1 = (N ++ [e]).length ∧ Es wy w6.heap.size (.slice pwy (q + 1) cwy) (N ++ [e]) ∧ Kept [] w6 wy from ⟨by rw [List.length_append, ← HSZ.out.1]; rfl, Es.snoc (w := wy) (x := e) (by rw [← HSZ.out.1]; exact HX8.out.1), (HSZ.out.2.2.then HKL.out).trans HX8.out.2 (fun y hy => .inr (Row.lt HSZ.out.2.1 y (own_mem.1 hy)).1)⟩)
            clear HX8 HKL
            clear z0 z1
            go_wp2
            go_roundw
            case rel => exact ⟨k + 1, q + 1, pwy, cwy, false, N ++ [e], by omega, by have := HMM.out.len; have := HSY.out.1; omega, by go_num, rfl, rfl, HSY.out.1, HMM.out, HSY.out.2.1, HSY.out.2.2⟩
            case measure => simp [intOf]; omega
        have z0 := (HS0.out.2.2).cell HC.out.1 (by simp)
        have z1 := (HS0.out.2.2).cell HC.out.2.1 (by simp)
        have y0 := (HS0.out.2.2).cell HC.out.2.2.1 (by simp)
        have y1 := (HS0.out.2.2).cell HC.out.2.2.2 (by simp)
        go_upto_region 14 with fail
        go_quiet (fail)
        clear z0 z1 y0 y1
        obtain ⟨wx1, hwx1⟩ : ∃ wx, wx = wr.drewN nq := ⟨_, rfl⟩
        have kwx1 : Kept [] wr wx1 := by rw [hwx1]; exact (Kept.refl [] wr).drewN' _
        rw [← hwx1]
        clear hwx1
        have HS1 := @hideH _ (And.intro HS0.out.1 (And.intro (HS0.out.2.1.kept kwx1 (by simp)) (HS0.out.2.2.then kwx1)))
        have HLE := @hideH _ hle
        clear kwx1 hle
        have z0 := (HS1.out.2.2).cell HC.out.1 (by simp)
        have z1 := (HS1.out.2.2).cell HC.out.2.1 (by simp)
        have y0 := (HS1.out.2.2).cell HC.out.2.2.1 (by simp)
        have y1 := (HS1.out.2.2).cell HC.out.2.2.2 (by simp)
        clear z0 z1
        obtain ⟨wl, hwl⟩ : ∃ wx, wx = wx1.alloc (.cells #[.int .i64 x.key, .int .u64 x.val] 72) := ⟨_, rfl⟩
        have kl : Kept [] wx1 wl := by rw [hwl]; exact (Kept.refl [] wx1).alloc _
        have hsrc := src_ent (P := Tryd.prog) wx1 27 72 Tryd.underlying27 (x.key, x.val).1 (x.key, x.val).2
        dsimp only at hsrc
        rw [← hwl] at hsrc
        have R7 := HS1.out.2.1.kept kl (by simp)
        unfold Es at R7
        rw [← HS1.out.1] at R7
        have hba := (HS1.out.2.2.then kl).size
        have HKL := @hideH _ kl
        clear kl
        go_upto_region 16 with (at_builtin; rw [← hwl]; refine wpList_append_row2 rfl (.tmp 52) (.tmp 58) 27 rfl w6.heap.size 72 infE (.agg #[.int .i64 0, .int .u64 0]) 2 16 Tryd.underlying27 HIE.out.1 HIE.out.2.1 HIE.out.2.2.1 HIE.out.2.2.2 rfl _ _ _ (by rfl) R7 _ 1 _ (by rfl) hsrc (by have e1 := HQ.out; omega) (by have e1 := HQ.out; unfold maxLen; omega) (by have e1 := HQ.out; omega) hba ?_; intro v' wx2 r8 k8 o8; obtain ⟨pwx2, cwx2, hv', -⟩ := Row.shape r8; subst hv'; have HX8 := @hideH _ (And.intro r8 k8); clear r8 k8 o8 R7 hsrc hba hwl)
        have HS2 := @hideH _ (show q + 1 = (N ++ [(x.key, x.val)]).length ∧ Es wx2 w6.heap.size (.slice pwx2 (q + 1) cwx2) (N ++ [(x.key, x.val)]) ∧ Kept [] w6 wx2 from ⟨by rw [List.length_append, ← HS1.out.1]; rfl, Es.snoc (w := wx2) (x := (x.key, x.val)) (by rw [← HS1.out.1]; exact HX8.out.1), (HS1.out.2.2.then HKL.out).trans HX8.out.2 (fun y hy => .inr (Row.lt HS1.out.2.1 y (own_mem.1 hy)).1)⟩)
        clear HX8 HKL
        clear y0 y1 HQ
        have HQ := @hideH _ (show (q + 1) ≤ 4000000000002 by have := HO.out.2; have := HO6.out.1; have := HQK.out; omega)
        have z0 := (HS2.out.2.2).cell HC.out.1 (by simp)
        have z1 := (HS2.out.2.2).cell HC.out.2.1 (by simp)
        have y0 := (HS2.out.2.2).cell HC.out.2.2.1 (by simp)
        have y1 := (HS2.out.2.2).cell HC.out.2.2.2 (by simp)
        by_cases ek : e.1 = x.key
        · have ek' : (e.1 != x.key) = false := by simpa using ek
          have HMM := @hideH _ (show Mid x O (k + 1) ((N ++ [(x.key, x.val)])) true from by have m := HM.out; rw [if_pos ⟨rfl, HLE.out⟩, decide_eq_true HLE.out] at m; rw [if_pos ek] at m; simpa using m)
          clear ek
          go_upto_region 17 with fail
          go_quiet (fail)
          clear z0 z1 y0 y1
          obtain ⟨wz, hwz⟩ : ∃ wx, wx = wx2.drewN nq := ⟨_, rfl⟩
          have kwz : Kept [] wx2 wz := by rw [hwz]; exact (Kept.refl [] wx2).drewN' _
          rw [← hwz]
          clear hwz
          go_wp2
          go_roundw
          case rel => exact ⟨k + 1, (q + 1), pwx2, cwx2, true, (N ++ [(x.key, x.val)]), by omega, by have := HQK.out; have := HMM.out.len; have := HS2.out.1; omega, by go_num, rfl, rfl, HS2.out.1, HMM.out, HS2.out.2.1.kept kwz (by simp), HS2.out.2.2.then kwz⟩
          case measure => simp [intOf]; omega
        · have ek' : (e.1 != x.key) = true := by simpa using ek
          have HMM := @hideH _ (show Mid x O (k + 1) ((N ++ [(x.key, x.val)]) ++ [e]) true from by have m := HM.out; rw [if_pos ⟨rfl, HLE.out⟩, decide_eq_true HLE.out] at m; rw [if_neg ek] at m; simpa using m)
          clear ek
          go_upto_region 17 with fail
          go_quiet (fail)
          clear z0 z1 y0 y1
          obtain ⟨wz, hwz⟩ : ∃ wx, wx = wx2.drewN nq := ⟨_, rfl⟩
          have kwz : Kept [] wx2 wz := by rw [hwz]; exact (Kept.refl [] wx2).drewN' _
          rw [← hwz]
          clear hwz
          have HSZ := @hideH _ (And.intro HS2.out.1 (And.intro (HS2.out.2.1.kept kwz (by simp)) (HS2.out.2.2.then kwz)))
          clear kwz
          have z0 := (HSZ.out.2.2).cell HC.out.1 (by simp)
          have z1 := (HSZ.out.2.2).cell HC.out.2.1 (by simp)
          have y0 := (HSZ.out.2.2).cell HC.out.2.2.1 (by simp)
          have y1 := (HSZ.out.2.2).cell HC.out.2.2.2 (by simp)
          clear y0 y1
          obtain ⟨wl, hwl⟩ : ∃ wx, wx = wz.alloc (.cells #[.int .i64 e.1, .int .u64 e.2] 72) := ⟨_, rfl⟩
          have kl : Kept [] wz wl := by rw [hwl]; exact (Kept.refl [] wz).alloc _
          have hsrc := src_ent (P := Tryd.prog) wz 27 72 Tryd.underlying27 e.1 e.2
          skip
          rw [← hwl] at hsrc
          have R7 := HSZ.out.2.1.kept kl (by simp)
          unfold Es at R7
          rw [← HSZ.out.1] at R7
          have hba := (HSZ.out.2.2.then kl).size
          have HKL := @hideH _ kl
          clear kl
          go_upto_region 13 with (at_builtin; rw [← hwl]; refine wpList_append_row2 rfl (.tmp 68) (.tmp 73) 27 rfl w6.heap.size 72 infE (.agg #[.int .i64 0, .int .u64 0]) 2 16 Tryd.underlying27 HIE.out.1 HIE.out.2.1 HIE.out.2.2.1 HIE.out.2.2.2 rfl _ _ _ (by rfl) R7 _ 1 _ (by rfl) hsrc (by have e1 := HQ.out; omega) (by have e1 := HQ.out; unfold maxLen; omega) (by have e1 := HQ.out; omega) hba ?_; intro v' wy r8 k8 o8; obtain ⟨pwy, cwy, hv', -⟩ := Row.shape r8; subst hv'; have HX8 := @hideH _ (And.intro r8 k8); clear r8 k8 o8 R7 hsrc hba hwl)
          have HSY := @hideH _ (show (q + 1) + 1 = ((N ++ [(x.key, x.val)]) ++ [e]).length ∧ Es wy w6.heap.size (.slice pwy ((q + 1) + 1) cwy) ((N ++ [(x.key, x.val)]) ++ [e]) ∧ Kept [] w6 wy from ⟨by rw [List.length_append, ← HSZ.out.1]; rfl, Es.snoc (w := wy) (x := e) (by rw [← HSZ.out.1]; exact HX8.out.1), (HSZ.out.2.2.then HKL.out).trans HX8.out.2 (fun y hy => .inr (Row.lt HSZ.out.2.1 y (own_mem.1 hy)).1)⟩)
          clear HX8 HKL
          clear z0 z1
          go_wp2
          go_roundw
          case rel => exact ⟨k + 1, (q + 1) + 1, pwy, cwy, true, (N ++ [(x.key, x.val)]) ++ [e], by omega, by have := HMM.out.len; have := HSY.out.1; omega, by go_num, rfl, rfl, HSY.out.1, HMM.out, HSY.out.2.1, HSY.out.2.2⟩
          case measure => simp [intOf]; omega
end Go.Proofs.YtocpagpkpibmaaaDoor

