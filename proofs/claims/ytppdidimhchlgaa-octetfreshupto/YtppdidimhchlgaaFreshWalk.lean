/-
  OWN WORK. The walk of OctetFresh.
-/
import Derived.Test.YtppdidimhchlgaaRows
import Derived.Test.YtppdidimhchlgaaFreshLib
import Derived.Deep.RegionHeld3
import Derived.Deep.QuietTactic
import Derived.BigQuiet
namespace Go.Proofs.Ytppdidimhchlgaa
open Go.RowKit
set_option linter.unusedVariables false

theorem was_cell {w : World} {base e g n c : Nat} {xs : List Value} {t : Value} (h : w.ownsRow base e 1 (.slice (some ⟨g, 0, none⟩) (n + 1) c) (n + 1) (xs ++ [t])) (hx : xs.length = n) : w.cell? ⟨g, n, none⟩ = some t := by
  rw [h.cellAt n (by omega), List.getElem?_append_right (by omega), hx, Nat.sub_self]
  rfl

theorem own_news {w : World} {base e g n c : Nat} {xs : List Value} (h : w.ownsRow base e 1 (.slice (some ⟨g, 0, none⟩) n c) n xs) (j : Nat) (u : Value) (hj : xs[j]? = some u) : w.cell? ((⟨g, 0, none⟩ : Addr).add j) = some u := by
  have hl := h.1
  have hlt := (List.getElem?_eq_some_iff.1 hj).1
  rw [add_none rfl, Nat.zero_add, h.cellAt j (by omega)]
  exact hj
theorem Fam.one {w : World} {base : Nat} {vs : List Value} {ls : List (List UInt8)} (h : Fam w base vs ls) (u : Value) (hu : u ∈ vs) : u.oneCell' = true := by
  obtain ⟨i, hi, rfl⟩ := List.getElem_of_mem hu
  obtain ⟨p, c, e, -⟩ := h.bs i vs[i] (ls[i]'(by rw [← h.len]; exact hi)) (List.getElem?_eq_getElem hi) (List.getElem?_eq_getElem _)
  rw [e]
  rfl

theorem spare_cell {w : World} {base e b n c m : Nat} {l : List UInt8} {y : UInt8} {z : Int} (h : w.ownsRow base e 1 (.slice (some ⟨b, 0, none⟩) n c) n (u8s (l ++ List.replicate m y))) (k : Nat) (hk : k < m) (hz : z = (y.toNat : Int)) : w.cell? ⟨b, l.length + k, none⟩ = some (.int .u8 z) := by
  have hl := h.1
  rw [u8s_length, List.length_append, List.length_replicate] at hl
  rw [h.cellAt (l.length + k) (by omega)]
  unfold u8s
  rw [List.getElem?_map, List.getElem?_append_right (by omega), Nat.add_sub_cancel_left, List.getElem?_replicate, if_pos hk, hz]
  rfl

theorem same_true (u v : Value) (a : List UInt8) (w : World) (ha : Bs w u a) (hb : Bs w v a) : Calls Try.prog 10 #[u, v] w fun e w' => e = .returned (.bool true) ∧ w' = w := by
  have h := same_any u v a a w ha hb
  rw [beq_self_eq_true] at h
  exact h

set_option maxRecDepth 100000 in
set_option maxHeartbeats 16000000 in
theorem octetFresh_walk (u v : Value) (lb lc : List UInt8) (x : Nat) (w : World) (hu : Bs w u lb) (hv : Bs w v lc) (hlb : lb.length ≤ 1048576) (hlc : lc.length ≤ 1048576) (hx : x < 18446744073709551616) :
    Calls Try.prog 7 #[u, v, .int .u64 (x : Int)] w fun e w' => e = .returned (.bool true) ∧ Kept [] w w' := by
  have HX : Hid (x < 18446744073709551616) := hx
  clear hx
  obtain ⟨pu, cu, rfl, -⟩ := id hu
  obtain ⟨pv, cv, rfl, -⟩ := id hv
  go_enter Try.func7, Try.ntmps7
  go_wp2_with (first | (at_builtin; refine wpList_append_bs rfl (.tmp 22) (.tmp 23) 25 rfl w.heap.size 5 Try.underlying25 (by kernel_rfl) _ _ _ (by rfl) (World.ownsRow_nil w _ _ _) _ lb (by rfl) hu (by omega) (Nat.le_refl _) ?_; intro v1 w1 o1 hg1 hat1; have k1 : Kept [] w w1 := (Kept.refl [] w).grown hg1 (fun k hk => by simp [Value.ownBlock] at hk); have hv1 := hv.kept k1) | (at_builtin; refine wpList_append_bs rfl (.tmp 25) (.tmp 26) 25 rfl w1.heap.size 5 Try.underlying25 (by kernel_rfl) _ _ _ (by rfl) (World.ownsRow_nil w1 _ _ _) _ lc (by rfl) hv1 (by omega) (Nat.le_refl _) ?_; intro v2 w2 o2 hg2 hat2))
  have k2 : Kept [] w1 w2 := (Kept.refl [] w1).grown hg2 (fun k hk => by simp [Value.ownBlock] at hk)
  simp only [Nat.zero_add, List.nil_append] at o1 o2
  have hap : ∀ x, v1.ownBlock = some x → v2.ownBlock ≠ some x := fun x hx hy => by
    have := own_lt o1 x hx
    have := own_ge o2 x hy
    omega
  have o1 := own_of_kept o1 k2 (by simp)
  have o2 := own_mono o2 k1.size
  have kk := k1.then k2
  clear hg1 hat1 hg2 hat2 k1 k2 hv1
  go_loopw [7, 8, 9] (fun a b i wr => ∃ k : Nat, k ≤ 200 ∧ i = .int .i64 k ∧ wr.ownsRow w.heap.size 5 1 a (lb.length + k) (u8s (lb ++ List.replicate k 165)) ∧ wr.ownsRow w.heap.size 5 1 b (lc.length + k) (u8s (lc ++ List.replicate k 90)) ∧ (∀ x, a.ownBlock = some x → b.ownBlock ≠ some x) ∧ Kept [] w wr) (fun _ _ i _ => 200 - (intOf i).toNat)
  case atStart => exact ⟨0, by decide, rfl, by simpa using o1, by simpa using o2, hap, kk⟩
  case round =>
    clear o1 o2 hap kk
    obtain ⟨k, hk, rfl, oa, ob, hap, kk⟩ := hrel
    have HAP : Hid (∀ x, u7.ownBlock = some x → u8.ownBlock ≠ some x) := hap
    have hsz := kk.size
    clear hap
    by_cases hk2 : k < 200
    · go_wp2_with (first | (at_builtin; refine wpList_append_byte rfl (.tmp 32) (.tmp 33) 25 rfl w.heap.size 5 Try.underlying25 (by kernel_rfl) _ _ _ (by rfl) (oa.alloc _) ⟨wr.heap.size, 0, none⟩ 1 165 (by rfl) (byte_cell wr 5 165 165 rfl) (by omega) (by simp; omega) ?_; intro a' wa oa' ga ata; obtain ⟨ob1, hap1⟩ := pair_grow ((Kept.refl [] wr).alloc _) ob HAP.out ga ata; have ka : Kept [] w wa := (kk.alloc _).grown ga (fun z hz => .inr (own_ge oa z hz)); have hsa := ka.size) | (at_builtin; refine wpList_append_byte rfl (.tmp 35) (.tmp 36) 25 rfl w.heap.size 5 Try.underlying25 (by kernel_rfl) _ _ _ (by rfl) (ob1.alloc _) ⟨wa.heap.size, 0, none⟩ 1 90 (by rfl) (byte_cell wa 5 90 90 rfl) (by omega) (by simp; omega) ?_; intro b' wb ob' gb atb))
      obtain ⟨oa2, hap2⟩ := pair_grow ((Kept.refl [] wa).alloc _) oa' (fun z h1 h2 => hap1 z h2 h1) gb atb
      have kb : Kept [] w wb := (ka.alloc _).grown gb (fun z hz => .inr (own_ge ob1 z hz))
      rw [snoc_rep] at oa2 ob'
      clear ga ata gb atb oa' ob1 hap1 ka oa ob kk
      go_roundw
      case rel => exact ⟨k + 1, by omega, by go_num, oa2, ob', fun z h1 h2 => hap2 z h2 h1, kb⟩
      case measure => simp [intOf]; omega
    · have ek : k = 200 := by omega
      subst ek
      rcases id oa.2 with ⟨_, h0⟩ | ⟨bw, cw, cur, rfl, -, -, hcw, hcm, -⟩
      · omega
      · rcases id ob.2 with ⟨_, h0⟩ | ⟨bb, cb, cur', rfl, -, -, hcb, hcmb, -⟩
        · omega
        · have hcutw := fun (z : World) => run_cut_to (P := Try.prog) z 25 5 Try.underlying25 sz8 (some ⟨bw, 0, none⟩) (lb.length + 200) cw lb.length (by omega)
          have hcutb := fun (z : World) => run_cut_to (P := Try.prog) z 25 5 Try.underlying25 sz8 (some ⟨bb, 0, none⟩) (lc.length + 200) cb lc.length (by omega)
          have hcw' : (lb.length : Int) ≤ (cw : Int) := by omega
          have hcb' : (lc.length : Int) ≤ (cb : Int) := by omega
          have h0b : (0 : Int) ≤ (lb.length : Int) := by omega
          have h0c : (0 : Int) ≤ (lc.length : Int) := by omega
          go_wp2
          generalize wr = w3 at *
          go_region_held3 (fun _ => True) (trivial)
            ((go_at_call 27; refine (answers_any _ _ lb lc x _ (by exact (cut_bs oa).heap rfl) (by exact (cut_bs ob).heap rfl) (by omega) (by omega) HX.out).mono ?_; rintro e w4 ⟨V1, vs1, rfl, O1, F1, k4⟩))
          have k4 : Kept [] w3 w4 := (Kept.refl [] w3).drew.then k4
          have O1 : w4.ownsRow w3.heap.size 25 1 V1 8 vs1 := O1
          have F1 : Fam w4 w3.heap.size vs1 (ans lb lc x) := F1
          obtain ⟨r1, hr1⟩ : ∃ r, r = List.replicate 200 (165 : UInt8) := ⟨_, rfl⟩
          obtain ⟨r2, hr2⟩ : ∃ r, r = List.replicate 200 (90 : UInt8) := ⟨_, rfl⟩
          rw [← hr1] at oa
          rw [← hr2] at ob
          have HR1 : Hid (r1 = List.replicate 200 (165 : UInt8)) := hr1
          have HR2 : Hid (r2 = List.replicate 200 (90 : UInt8)) := hr2
          have hbw : bw < w3.heap.size := own_lt oa bw rfl
          have hbb : bb < w3.heap.size := own_lt ob bb rfl
          have oa4 := own_of_kept oa k4 (by simp)
          have ob4 := own_of_kept ob k4 (by simp)
          have kk4 := kk.then k4
          clear hr1 hr2 oa ob
          rcases id O1.2 with ⟨_, h0⟩ | ⟨G1, C1, cur1, rfl, -⟩
          · omega
          · go_wp2
            go_region_held3 (fun _ => True) (trivial)
              ((go_at_call 27; refine (answers_any _ _ lb lc x _ (by exact (cut_bs oa4).heap rfl) (by exact (cut_bs ob4).heap rfl) (by omega) (by omega) HX.out).mono ?_; rintro e w5 ⟨V2, vs2, rfl, O2, F2, k5⟩))
            have k5 : Kept [] w4 w5 := (Kept.refl [] w4).drew.then k5
            have O2 : w5.ownsRow w4.heap.size 25 1 V2 8 vs2 := O2
            have F2 : Fam w5 w4.heap.size vs2 (ans lb lc x) := F2
            have FF := (F1.kept k5 (by simp)).append F2 k4.size (fun i v z hv hz => (F1.lt i v z hv hz).2)
            have O1 := own_of_kept O1 k5 (by simp)
            have oa5 := own_of_kept oa4 k5 (by simp)
            have ob5 := own_of_kept ob4 k5 (by simp)
            have kk5 := kk4.then k5
            have k35 := k4.then k5
            have hF1 := F1.kept k5 (by simp)
            clear oa4 ob4 kk4 F1 kk
            rcases id O2.2 with ⟨_, h0⟩ | ⟨G2, C2, cur2, rfl, -⟩
            · omega
            · go_wp2_with fail
              refine (known_any _).mono ?_
              rintro e w6 ⟨rfl, k6⟩
              have FF := FF.kept k6 (by simp)
              have F1 := hF1.kept k6 (by simp)
              have F2 := F2.kept k6 (by simp)
              have O1 := own_of_kept O1 k6 (by simp)
              have O2 := own_of_kept O2 k6 (by simp)
              have oa := own_of_kept oa5 k6 (by simp)
              have ob := own_of_kept ob5 k6 (by simp)
              have kk := kk5.then k6
              have k36 := k35.then k6
              clear oa5 ob5 kk5 k35 k6 hF1 k4 k5
              obtain ⟨A, hA⟩ : ∃ A, A = ans lb lc x := ⟨_, rfl⟩
              rw [← hA] at FF F1 F2
              have HA : Hid (A = ans lb lc x) := hA
              have hAl : A.length = 8 := by rw [hA]; rfl
              clear hA
              go_wp2
              go_loopw [12, 13] (fun s i wr => ∃ k : Nat, k ≤ 8 ∧ i = .int .i64 k ∧ wr.ownsRow w6.heap.size 9 1 s k ((A.take k).map tx) ∧ Kept [] w6 wr) (fun _ i _ => 8 - (intOf i).toNat)
              case atStart => exact ⟨0, by decide, rfl, World.ownsRow_nil _ _ _ _, Kept.refl _ _⟩
              case round =>
                obtain ⟨k, hk, rfl, ow, kw⟩ := hrel
                by_cases hk8 : k < 8
                · obtain ⟨l, hl⟩ : ∃ l, A[k]? = some l := ⟨_, List.getElem?_eq_getElem (by rw [hAl]; exact hk8)⟩
                  obtain ⟨a1, ha1⟩ : ∃ a, vs1[k]? = some a := ⟨_, List.getElem?_eq_getElem (by rw [F1.len, hAl]; exact hk8)⟩
                  obtain ⟨a2, ha2⟩ : ∃ a, vs2[k]? = some a := ⟨_, List.getElem?_eq_getElem (by rw [F2.len, hAl]; exact hk8)⟩
                  have b1 := (F1.bs k a1 l ha1 hl)
                  have b2 := (F2.bs k a2 l ha2 hl)
                  have c1 := O1.cellAt k (by omega)
                  have c2 := O2.cellAt k (by omega)
                  rw [ha1] at c1
                  rw [ha2] at c2
                  have c1' := kw.cell c1 (by simp)
                  have cv1 := (b1.kept kw).convert (P := Try.prog) (src := 25) (dst := 9) (e := 5) Try.underlying25 Try.underlying5 Try.underlying9
                  obtain ⟨q1, e1, rfl, -⟩ := id b1
                  obtain ⟨q2, e2, rfl, -⟩ := id b2
                  have hnw := World.news_of_block (heap_alloc_new wr (.cells #[.string ⟨l.toArray⟩] 9))
                  have hsw := kw.size
                  have htk : (A.take (k + 1)).map tx = (A.take k).map tx ++ [tx l] := by
                    obtain ⟨h1, rfl⟩ := List.getElem?_eq_some_iff.1 hl
                    rw [List.take_succ_eq_append_getElem h1, List.map_append]
                    rfl
                  have HTK : Hid ((A.take (k + 1)).map tx = (A.take k).map tx ++ [tx l]) := htk
                  have HTL : Hid (((A.take k).map tx).length = k) := by
                    show ((A.take k).map tx).length = k
                    simp; omega
                  clear htk ha1 ha2 c1 hl
                  go_wp2_with (at_builtin; refine wpList_append_own2 rfl (.tmp 74) (.tmp 80) 57 rfl w6.heap.size 9 Try.underlying57 (.string .empty) 16 (by kernel_rfl) rfl _ _ _ (by rfl) (ow.alloc _) ⟨wr.heap.size, 0, none⟩ 1 1 [.string ⟨l.toArray⟩] (by rfl) rfl hnw (by simp [Value.oneCell']) (by unfold maxLen; omega) (by omega) (by simp; omega) ?_; intro W1 w7 o7 g7 at7; obtain ⟨gw, dw, rfl, -⟩ := o7.form (by omega); have kw7 : Kept [] w6 w7 := (kw.alloc _).grown g7 (fun z hz => .inr (own_ge ow z hz)); have c2' := kw7.cell c2 (by simp); have cv2 := fun q => (b2.kept (kw7.drewN' q)).convert (P := Try.prog) (src := 25) (dst := 9) (e := 5) Try.underlying25 Try.underlying5 Try.underlying9; have cw7 := was_cell o7 HTL.out)
                  clear at7 g7 hnw cv1
                  go_quiet (fail)
                  go_wp2
                  go_roundw
                  case rel => exact ⟨k + 1, by omega, by go_num, by rw [HTK.out]; exact own_of_kept o7 ((Kept.refl [] w7).drewN' _) (by simp), kw7.drewN' _⟩
                  case measure => simp [intOf]; omega
                · have ek : k = 8 := by omega
                  subst ek
                  rw [List.take_of_length_le (by omega)] at ow
                  have O1' := own_of_kept O1 kw (by simp)
                  have O2' := own_of_kept O2 kw (by simp)
                  have FF' := FF.kept kw (by simp)
                  have hoa := own_of_kept oa kw (by simp)
                  have hob := own_of_kept ob kw (by simp)
                  have hv2l : vs2.length = 8 := by rw [F2.len, hAl]
                  have hnews : Hid (∀ j u, vs2[j]? = some u → wr.cell? ((⟨G2, 0, none⟩ : Addr).add j) = some u) := own_news O2'
                  have hone : Hid (∀ u ∈ vs2, u.oneCell' = true) := F2.one
                  have hsz3 : w3.heap.size ≤ wr.heap.size := by have h1 := k36.size; have h2 := kw.size; omega
                  have hnn : Hid (∀ j, nn (A ++ A) j ≤ 6000000) := by
                    show ∀ j, nn (A ++ A) j ≤ 6000000
                    rw [HA.out]
                    exact ans_nn lb lc x (by omega) (by omega)
                  go_wp2_with (at_builtin; refine wpList_append_own2 rfl (.tmp 92) (.tmp 93) 22 rfl w3.heap.size 25 Try.underlying22 (.slice none 0 0) 24 (by kernel_rfl) rfl _ _ _ (by rfl) O1' ⟨G2, 0, none⟩ 8 C2 vs2 (by rfl) hv2l hnews.out hone.out (by unfold maxLen; omega) (by omega) hsz3 ?_; intro V8 w8 o8 g8 at8; obtain ⟨G8, C8, rfl, -⟩ := o8.form (by omega))
                  have n1 : Not8 wr G1 := own_not8 O1' (by decide) G1 rfl
                  have hG1 : G1 < w6.heap.size := own_lt O1 G1 rfl
                  have k8 : Kept [G1] wr w8 := Kept.ofGrown g8 (fun z hz _ => by simp [Value.ownBlock] at hz; simp [hz])
                  have F8 := FF'.kept k8 (by intro z hz; simp at hz; subst hz; exact .inl n1)
                  have oa8 := own_of_kept hoa k8 (by intro z hz hm; simp at hm; subst hm; exact own_is8 hoa _ hz n1)
                  have ob8 := own_of_kept hob k8 (by intro z hz hm; simp at hm; subst hm; exact own_is8 hob _ hz n1)
                  have ow8 := own_of_kept ow k8 (by intro z hz hm; simp at hm; subst hm; have := own_ge ow _ hz; omega)
                  have kk8 : Kept [] w w8 := (kk.then kw).trans k8 (by intro z hz; simp at hz; subst hz; right; have := own_ge O1 z rfl; omega)
                  have s8 := kk8.size
                  have hs8 : w3.heap.size ≤ w8.heap.size := by have := k8.size; omega
                  clear at8 g8 hnews hone hoa hob O1' O2' FF'
                  refine (marked_any G8 16 C8 (vs1 ++ vs2) (A ++ A) w3.heap.size w8 o8 F8 (by simp [hAl]) (by omega) hs8 hnn.out).mono ?_
                  rintro e w9 ⟨rfl, k9⟩
                  have nb : ∀ z, z ∈ blocks (vs1 ++ vs2) → w3.heap.size ≤ z := fun z hz => (F8.not8 hz).2.1
                  have oa9 := own_of_kept oa8 k9 (by intro z hz hm; have h1 := nb _ hm; simp [Value.ownBlock] at hz; omega)
                  have ob9 := own_of_kept ob8 k9 (by intro z hz hm; have h1 := nb _ hm; simp [Value.ownBlock] at hz; omega)
                  have ow9 := own_of_kept ow8 k9 (by intro z hz hm; exact (F8.not8 hm).1 (own_not8 ow8 (by decide) z hz))
                  have kk9 : Kept [] w w9 := kk8.trans k9 (by intro z hz; right; have := nb z hz; omega)
                  obtain ⟨gw, dw, rfl, -⟩ := ow9.form (by omega)
                  have hu9 := hu.kept kk9
                  have hv9 := hv.kept kk9
                  have cs1 := cut_bs oa9
                  have cs2 := cut_bs ob9
                  clear F8 nb k9 k8 kk8 s8 hs8 ow8 oa8 ob8 n1 o8 hnn FF F1 F2 O1 O2 ow hG1 kw kk k36 oa ob
                  go_wp2_with fail
                  refine (same_any _ _ lb lb w9 cs1 hu9).mono ?_
                  rintro e w' ⟨he, rfl⟩
                  rw [beq_self_eq_true] at he
                  subst he
                  go_wp2_with fail
                  refine (same_any _ _ lc lc _ cs2 hv9).mono ?_
                  rintro e w' ⟨he, rfl⟩
                  rw [beq_self_eq_true] at he
                  subst he
                  have HKK : Hid (Kept [] w w') := kk9
                  have hsz9 : w.heap.size ≤ w'.heap.size := kk9.size
                  clear hu9 hv9 cs1 cs2 kk9
                  go_wp2
                  go_loopw [14] (fun i wr => ∃ k : Nat, k ≤ 200 ∧ i = .int .i64 k ∧ Kept [] w' wr) (fun i _ => 200 - (intOf i).toNat)
                  case atStart => exact ⟨0, by decide, rfl, Kept.refl _ _⟩
                  case round =>
                    obtain ⟨k, hk, rfl, kz⟩ := hrel
                    by_cases hkz : k < 200
                    · have ca := kz.cell (spare_cell (z := 165) (by rw [HR1.out] at oa9; exact oa9) k hkz rfl) (by simp)
                      have cb := kz.cell (spare_cell (z := 90) (by rw [HR2.out] at ob9; exact ob9) k hkz rfl) (by simp)
                      go_wp2
                      go_roundw
                      case rel => exact ⟨k + 1, by omega, by go_num, kz⟩
                      case measure => simp [intOf]; omega
                    · have ek : k = 200 := by omega
                      subst ek
                      have oa := own_of_kept oa9 kz (by simp)
                      have ob := own_of_kept ob9 kz (by simp)
                      have ow := own_of_kept ow9 kz (by simp)
                      have kk := HKK.out.then kz
                      clear oa9 ob9 ow9 HKK kz hsz9 o1 o2 F1 k4 O1 F2 k5 FF O2
                      go_wp2
                      generalize wr = wa at *
                      go_region_held3 (fun _ => True) (trivial)
                        ((go_at_call 27; refine (answers_any _ _ lb lc x _ (by exact (cut_bs oa).heap rfl) (by exact (cut_bs ob).heap rfl) (by omega) (by omega) HX.out).mono ?_; rintro e wb ⟨V3, vs3, rfl, O3, F3, k3⟩))
                      have k3 : Kept [] wa wb := (Kept.refl [] wa).drew.then k3
                      have F3 : Fam wb wa.heap.size vs3 (ans lb lc x) := F3
                      have O3 : wb.ownsRow wa.heap.size 25 1 V3 8 vs3 := O3
                      have oa := own_of_kept oa k3 (by simp)
                      have ob := own_of_kept ob k3 (by simp)
                      have ow := own_of_kept ow k3 (by simp)
                      have kk := kk.then k3
                      rw [← HA.out] at F3
                      clear k3
                      obtain ⟨G3, C3, rfl, -⟩ := O3.form (by omega)
                      go_wp2
                      go_loopw [16] (fun i wr => ∃ k : Nat, k ≤ 8 ∧ i = .int .i64 k ∧ Kept [] wb wr) (fun i _ => 8 - (intOf i).toNat)
                      case atStart => exact ⟨0, by decide, rfl, Kept.refl _ _⟩
                      case round =>
                        obtain ⟨k, hk, rfl, kz⟩ := hrel
                        by_cases hkz : k < 8
                        · obtain ⟨l, hl⟩ : ∃ l, A[k]? = some l := ⟨_, List.getElem?_eq_getElem (by rw [hAl]; exact hkz)⟩
                          obtain ⟨a1, ha1⟩ : ∃ a, vs3[k]? = some a := ⟨_, List.getElem?_eq_getElem (by rw [F3.len, hAl]; exact hkz)⟩
                          have b1 := (F3.bs k a1 l ha1 hl).kept kz
                          have c1 := O3.cellAt k (by omega)
                          rw [ha1] at c1
                          have c1 := kz.cell c1 (by simp)
                          have c2 := ow.cellAt k (by omega)
                          rw [List.getElem?_map, hl] at c2
                          have c2 : wb.cell? ⟨gw, k, none⟩ = some (.string ⟨l.toArray⟩) := c2
                          have c2 := kz.cell c2 (by simp)
                          have cv1 := fun q => (b1.kept ((Kept.refl [] wr).drewN' q)).convert (P := Try.prog) (src := 25) (dst := 9) (e := 5) Try.underlying25 Try.underlying5 Try.underlying9
                          obtain ⟨q1, e1, rfl, -⟩ := id b1
                          clear ha1 hl
                          go_wp2
                          go_quiet (fail)
                          go_wp2
                          go_roundw
                          case rel => exact ⟨k + 1, by omega, by go_num, kz.drewN' _⟩
                          case measure => simp [intOf]; omega
                        · have ek : k = 8 := by omega
                          subst ek
                          have oa := own_of_kept oa kz (by simp)
                          have ob := own_of_kept ob kz (by simp)
                          have kk := kk.then kz
                          clear ow kz F3 O3 HA hAl
                          generalize wr = wz at *
                          go_wp2
                          go_loopw [17] (fun i wr => ∃ k : Nat, k ≤ lb.length ∧ i = .int .i64 k ∧ Kept [bw] wz wr ∧ ∃ l' : List UInt8, l'.length = lb.length ∧ wr.ownsRow w.heap.size 5 1 (.slice (some ⟨bw, 0, none⟩) (lb.length + 200) cw) (lb.length + 200) (u8s (l' ++ r1))) (fun i _ => lb.length - (intOf i).toNat)
                          case atStart => exact ⟨0, by omega, rfl, Kept.refl _ _, lb, rfl, oa⟩
                          case round =>
                            obtain ⟨k, hk, rfl, kz, ld, hld, od⟩ := hrel
                            by_cases hkz : k < lb.length
                            · have hpl : k < ld.length := by omega
                              have hcc := od.cellAt k (by omega)
                              rw [show (u8s (ld ++ r1))[k]? = some (.int .u8 ((ld[k]).toNat : Int)) from by unfold u8s; rw [List.getElem?_map, List.getElem?_append_left hpl, List.getElem?_eq_getElem hpl]; rfl] at hcc
                              have hf := od.frozenAt k
                              go_wp2
                              obtain ⟨ow2, kw2⟩ := set_own od k (ld[k] + 1) _ (byte_up ld[k])
                              rw [List.set_append_left _ _ hpl] at ow2
                              go_roundw
                              case rel => exact ⟨k + 1, by omega, by go_num, kz.trans kw2 (by simp), _, by rw [List.length_set]; exact hld, ow2⟩
                              case measure => simp [intOf]; omega
                            · have ek : k = lb.length := by omega
                              subst ek
                              have hbw0 : w.heap.size ≤ bw := own_ge od bw rfl
                              have ob := own_of_kept ob kz (by intro z hz hm; simp at hm; subst hm; exact HAP.out _ rfl hz)
                              have kk : Kept [] w wr := kk.trans kz (by intro z hz; simp at hz; subst hz; exact .inr hbw0)
                              have cs := cut_bs od
                              rw [hld] at cs
                              clear kz oa
                              go_wp2_with (at_builtin; refine wpList_append_bs rfl (.tmp 178) (.tmp 182) 25 rfl wr.heap.size 5 Try.underlying25 (by kernel_rfl) _ _ _ (by rfl) (World.ownsRow_nil wr _ _ _) _ ld (by rfl) cs (by omega) (Nat.le_refl _) ?_; intro vt wt ot gt att)
                              have kt : Kept [] wr wt := Kept.ofGrown gt (fun z hz _ => by simp [Value.ownBlock] at hz)
                              rw [List.nil_append] at ot
                              have bt : Bs wt vt ld := Bs.ofOwn ot
                              have ct := cs.kept kt
                              have cv := (cut_bs ob).kept kt
                              have kk := kk.then kt
                              clear att gt ot cs ob od kt
                              go_region_held3 (fun _ => True) (trivial)
                                ((go_at_call 27; refine (answers_any _ _ ld lc x _ (by exact ct.heap rfl) (by exact cv.heap rfl) (by omega) (by omega) HX.out).mono ?_; rintro e wp ⟨V4, vs4, rfl, O4, F4, k4⟩))
                              have k4 : Kept [] wt wp := (Kept.refl [] wt).drew.then k4
                              have F4 : Fam wp wt.heap.size vs4 (ans ld lc x) := F4
                              have O4 : wp.ownsRow wt.heap.size 25 1 V4 8 vs4 := O4
                              have kk := kk.then k4
                              have bt := bt.kept k4
                              have hv' := hv.kept kk
                              obtain ⟨G4, C4, rfl, -⟩ := O4.form (by omega)
                              clear k4 ct cv
                              go_wp2_with fail
                              refine (answers_any _ _ ld lc x _ bt hv' (by omega) (by omega) HX.out).mono ?_
                              rintro e wq ⟨V5, vs5, rfl, O5, F5, k5⟩
                              have F4 := F4.kept k5 (by simp)
                              have O4 := own_of_kept O4 k5 (by simp)
                              have kk := kk.then k5
                              obtain ⟨G5, C5, rfl, -⟩ := O5.form (by omega)
                              obtain ⟨B, hB⟩ : ∃ B, B = ans ld lc x := ⟨_, rfl⟩
                              have hBl : B.length = 8 := by rw [hB]; rfl
                              rw [← hB] at F4 F5
                              clear hB k5 bt hv'
                              go_wp2
                              go_loopw [21] (fun i wr => ∃ k : Nat, k ≤ 8 ∧ i = .int .i64 k ∧ Kept [] wq wr) (fun i _ => 8 - (intOf i).toNat)
                              case atStart => exact ⟨0, by decide, rfl, Kept.refl _ _⟩
                              case round =>
                                obtain ⟨k, hk, rfl, kz⟩ := hrel
                                by_cases hkz : k < 8
                                · obtain ⟨l, hl⟩ : ∃ l, B[k]? = some l := ⟨_, List.getElem?_eq_getElem (by rw [hBl]; exact hkz)⟩
                                  obtain ⟨a1, ha1⟩ : ∃ a, vs4[k]? = some a := ⟨_, List.getElem?_eq_getElem (by rw [F4.len, hBl]; exact hkz)⟩
                                  obtain ⟨a2, ha2⟩ : ∃ a, vs5[k]? = some a := ⟨_, List.getElem?_eq_getElem (by rw [F5.len, hBl]; exact hkz)⟩
                                  have b1 := (F4.bs k a1 l ha1 hl).kept kz
                                  have b2 := (F5.bs k a2 l ha2 hl).kept kz
                                  have c1 := O4.cellAt k (by omega)
                                  rw [ha1] at c1
                                  have c1 := kz.cell c1 (by simp)
                                  have c2 := O5.cellAt k (by omega)
                                  rw [ha2] at c2
                                  have c2 := kz.cell c2 (by simp)
                                  have e1 : (l == l) = true := beq_self_eq_true l
                                  have hsame := fun q => same_true a1 a2 l (wr.drewN q) (b1.kept ((Kept.refl [] wr).drewN' q)) (b2.kept ((Kept.refl [] wr).drewN' q))
                                  clear ha1 ha2 hl
                                  go_wp2
                                  go_quiet ((go_at_call 10; exact Calls.quiet_of_same (hsame _)))
                                  go_wp2
                                  go_roundw
                                  case rel => exact ⟨k + 1, by omega, by go_num, kz.drewN' _⟩
                                  case measure => simp [intOf]; omega
                                · have ek : k = 8 := by omega
                                  subst ek
                                  go_wp2
                                  go_ret
                                  exact ⟨rfl, kk.then kz⟩
end Go.Proofs.Ytppdidimhchlgaa
