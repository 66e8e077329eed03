import Derived.Deep.Slices
import Derived.Test.YtinlhojojeabcaaRows
import Derived.Recover
import Derived.Shelf.Abstract
import Derived.Test.YtinlhojojeabcaaC1
/-
  OWN WORK (by mkch6.py). Layer 12: the law's book, known.
-/
namespace Go.Proofs.Ytinlhojojeabcaa
open Go.RowKit
set_option linter.unusedVariables false
set_option linter.unusedSimpArgs false

def flatL : List Ln → List Value
  | [] => []
  | l :: ls => l.cells ++ flatL ls
theorem Ln.cells_length (l : Ln) : l.cells.length = 12 := rfl
theorem flatL_length : ∀ ls : List Ln, (flatL ls).length = ls.length * 12
  | [] => rfl
  | l :: ls => by rw [flatL, List.length_append, l.cells_length, flatL_length ls, List.length_cons]; omega
theorem flatL_at : ∀ (ls : List Ln) (i : Nat) (l : Ln) (j : Nat) (u : Value), ls[i]? = some l → l.cells[j]? = some u → (flatL ls)[i * 12 + j]? = some u
  | [], i, l, j, u, h, _ => by simp at h
  | m :: ls, 0, l, j, u, h, hj => by
    simp at h
    subst h
    rw [flatL, List.getElem?_append_left (by have := (List.getElem?_eq_some_iff.1 hj).1; omega)]
    rw [Nat.zero_mul, Nat.zero_add]
    exact hj
  | m :: ls, i + 1, l, j, u, h, hj => by
    rw [flatL, List.getElem?_append_right (by rw [m.cells_length]; omega), m.cells_length, show (i + 1) * 12 + j - 12 = i * 12 + j by omega]
    exact flatL_at ls i l j u (by simpa using h) hj
theorem flatL_append (a b : List Ln) : flatL (a ++ b) = flatL a ++ flatL b := by
  induction a with
  | nil => rfl
  | cons l a ih => rw [List.cons_append, flatL, ih, flatL, List.append_assoc]
theorem Lines.new (w : World) (t : TypeId) (ls : List Ln) (cs : Array Value) (hcs : cs = (flatL ls).toArray) (hl : ls.length ≤ maxLen) (hf : ∀ l ∈ ls, l.fits) : Lines (w.alloc (.cells cs t)) (.slice (some ⟨w.heap.size, 0, none⟩) ls.length ls.length) ls := by
  subst hcs
  refine ⟨hf, _, _, rfl, Nat.le_refl _, hl, fun _ => ⟨_, _, rfl, by rw [World.size_alloc]; omega, fun i l hi j u hj => ?_⟩⟩
  have q := (Blk.new w t (flatL ls)).cell (flatL_at ls i l j u hi hj)
  rw [Nat.zero_add]
  exact q
def recOf (kind birth prev id next : Int) : Lv := ⟨kind, birth, prev, id, 0, 0, .nil, .nil, next, .nil, .nil⟩
def bookL : List Ln := [⟨1, recOf 1 0 0 1 0⟩, ⟨35, recOf 2 1 1 0 0⟩, ⟨75, recOf 1 0 0 2 0⟩, ⟨109, recOf 2 1 35 0 0⟩, ⟨149, recOf 3 1 109 0 35⟩]
theorem bookL_fits : ∀ l ∈ bookL, l.fits := by
  intro l hl
  simp only [bookL, List.mem_cons, List.not_mem_nil, or_false] at hl
  rcases hl with rfl | rfl | rfl | rfl | rfl <;> simp [Ln.fits, Lv.fits, I64, recOf]
theorem book_any (w : World) : Calls Try.prog 16 #[] w fun e w' => ∃ v, e = .returned v ∧ Lines w' v bookL ∧ Kept [] w w' := by
  go_enter Try.func16, Try.ntmps16
  go_wp2
  go_ret
  exact ⟨_, rfl, Lines.new w _ bookL _ rfl (by simp [bookL, maxLen]) bookL_fits, (Kept.refl [] w).alloc _⟩
theorem book_back : backL (rdr bookL false) 149 = ([149, 109, 35, 1], 0, [149, 109, 35, 1]) := by decide +kernel
theorem book_undo : undoL (rdr bookL false) 109 = ([109, 35], 0, [109, 35, 1]) := by decide +kernel
theorem book_no : (undoL (rdr bookL false) 149).2.1 = 120 := by decide +kernel
set_option maxRecDepth 20000 in
set_option maxHeartbeats 3200000 in
theorem known_any (O : ChOps) (w : World) : Calls Try.prog 8 #[] w fun e w' => e = .returned (.bool true) ∧ Kept [] w w' := by
  go_enter Try.func8, Try.ntmps8
  go_wp2_with fail
  refine (book_any w).mono ?_
  rintro e w1 ⟨vb1, rfl, lb1, kb1⟩
  obtain ⟨pb1, cb1, hvb1, -⟩ := lb1.shape
  subst hvb1
  go_wp2_with fail
  refine (asking_any O _ bookL false false 149 w1 lb1 ⟨by omega, by omega⟩).mono ?_
  rintro e w2 ⟨a1, p1, rfl, na1, np1, -, ka1⟩
  rw [show askL false (rdr bookL false) 149 = backL (rdr bookL false) 149 from rfl] at na1 np1 ⊢
  obtain ⟨pa1, ca1, hva1⟩ := na1.shape
  subst hva1
  obtain ⟨pp1, cp1, hvp1⟩ := np1.shape
  subst hvp1
  have K1 := kb1.then ka1
  clear kb1 ka1 lb1
  rw [book_back] at na1 np1 ⊢
  clear np1
  go_wp2_with fail
  refine (book_any w2).mono ?_
  rintro e w3 ⟨vb2, rfl, lb2, kb2⟩
  obtain ⟨pb2, cb2, hvb2, -⟩ := lb2.shape
  subst hvb2
  go_wp2_with fail
  refine (asking_any O _ bookL false true 109 w3 lb2 ⟨by omega, by omega⟩).mono ?_
  rintro e w4 ⟨a2, p2, rfl, na2, np2, -, ka2⟩
  rw [show askL true (rdr bookL false) 109 = undoL (rdr bookL false) 109 from rfl] at na2 np2 ⊢
  obtain ⟨pa2, ca2, hva2⟩ := na2.shape
  subst hva2
  obtain ⟨pp2, cp2, hvp2⟩ := np2.shape
  subst hvp2
  have K2 := kb2.then ka2
  clear kb2 ka2 lb2
  rw [book_undo] at na2 np2 ⊢
  clear np2
  replace na1 := na1.kept K2 (by simp)
  replace K2 := K1.then K2
  go_wp2_with fail
  refine (book_any w4).mono ?_
  rintro e w5 ⟨vb3, rfl, lb3, kb3⟩
  obtain ⟨pb3, cb3, hvb3, -⟩ := lb3.shape
  subst hvb3
  go_wp2_with fail
  refine (asking_any O _ bookL false true 149 w5 lb3 ⟨by omega, by omega⟩).mono ?_
  rintro e w6 ⟨a3, p3, rfl, na3, np3, -, ka3⟩
  rw [show askL true (rdr bookL false) 149 = undoL (rdr bookL false) 149 from rfl] at na3 np3 ⊢
  obtain ⟨pa3, ca3, hva3⟩ := na3.shape
  subst hva3
  obtain ⟨pp3, cp3, hvp3⟩ := np3.shape
  subst hvp3
  have K3 := kb3.then ka3
  clear kb3 ka3 lb3
  rw [book_no]
  replace na1 := na1.kept K3 (by simp)
  replace na2 := na2.kept K3 (by simp)
  replace K3 := K2.then K3
  clear np3 na3 K1 K2
  obtain ⟨w7, hw7⟩ : ∃ wx, wx = w6.alloc (.cells #[.int .i64 149, .int .i64 109, .int .i64 35, .int .i64 1] 3) := ⟨_, rfl⟩
  have kx : Kept [] w6 w7 := by rw [hw7]; exact (Kept.refl [] w6).alloc _
  have nx : Ns w7 w6.heap.size (.slice (some ⟨w6.heap.size, 0, none⟩) 4 4) [149, 109, 35, 1] := by rw [hw7]; exact Ns.lit w6 _ [149, 109, 35, 1] _ rfl (by simp [maxLen])
  go_wp2_with fail
  rw [← hw7]
  clear hw7
  refine (same_eq _ _ _ _ _ w7 (na1.kept kx (by simp)) nx).mono ?_
  rintro e w8 ⟨rfl, k8⟩
  obtain ⟨w9, hw9⟩ : ∃ wx, wx = w8.alloc (.cells #[.int .i64 109, .int .i64 35] 3) := ⟨_, rfl⟩
  have ky : Kept [] w8 w9 := by rw [hw9]; exact (Kept.refl [] w8).alloc _
  have ny : Ns w9 w8.heap.size (.slice (some ⟨w8.heap.size, 0, none⟩) 2 2) [109, 35] := by rw [hw9]; exact Ns.lit w8 _ [109, 35] _ rfl (by simp [maxLen])
  go_wp2_with fail
  rw [← hw9]
  clear hw9
  refine (same_eq _ _ _ _ _ w9 (na2.kept ((kx.then k8).then ky) (by simp)) ny).mono ?_
  rintro e w10 ⟨rfl, k10⟩
  have KE := @hideH _ ((((K3.then kx).then k8).then ky).then k10)
  clear K3 kx k8 ky k10 nx ny na1 na2
  go_wp2
  go_ret
  exact ⟨rfl, KE.out⟩
end Go.Proofs.Ytinlhojojeabcaa

/-
  OWN WORK (by mkch8.py). Layer 12: the law's falls.
-/
namespace Go.Proofs.Ytinlhojojeabcaa
open Go.RowKit
set_option linter.unusedVariables false
set_option linter.unusedSimpArgs false

set_option maxRecDepth 20000 in
set_option maxHeartbeats 3200000 in
theorem falls_any (a : Value) (la : List Int) (b1 : Nat) (w : World) (ha : Ns w b1 a la) (hf : Falls la) : Calls Try.prog 10 #[a] w fun e w' => e = .returned (.bool true) ∧ Kept [] w w' := by
  obtain ⟨p, c, hpa⟩ := ha.shape
  subst hpa
  obtain ⟨n, hn⟩ : ∃ n, n = la.length := ⟨_, rfl⟩
  have HA := @hideH _ ha
  have HN := @hideH _ (And.intro hn ha.len)
  have HF := @hideH _ hf
  rw [← hn]
  clear ha hn hf
  go_enter Try.func10, Try.ntmps10
  go_wp2
  go_loopw [3] (fun i wr => ∃ k : Nat, k ≤ n ∧ i = .int .i64 k ∧ Hid (Kept [] w wr)) (fun i _ => n - (intOf i).toNat)
  case atStart => exact ⟨0, Nat.zero_le _, rfl, Kept.refl _ _⟩
  case round =>
    obtain ⟨k, hk, rfl, hh⟩ := hrel
    by_cases hkl : k < n
    · have hkl' : (k : Int) < (n : Int) := by omega
      have h0 : (0 : Int) ≤ (k : Int) := by omega
      have wk : IntKind.i64.wrap ((k : Int) + 1) = (k : Int) + 1 := wrap_i64_of (by omega) (by have e1 := HN.out.1; have e2 := HN.out.2; unfold maxLen at e2; omega)
      obtain ⟨g, ep, -, ca, -⟩ := HA.out.at (j := k) (by have := HN.out.1; omega)
      subst ep
      have ca' := hh.out.cell ca (by simp)
      clear ca
      obtain ⟨x, hx⟩ : ∃ x, x = la.getD k 0 := ⟨_, rfl⟩
      rw [← hx] at ca'
      have d1 : decide (x < 1) = false := decide_eq_false (by have := HF.out.pos (i := k) (by have := HN.out.1; omega); omega)
      have d1' : ¬ x < 1 := by simpa using d1
      by_cases hk0 : 0 < k
      · obtain ⟨g2, ep2, -, cb, -⟩ := HA.out.at (j := k - 1) (by have := HN.out.1; omega)
        cases ep2
        have cb' := hh.out.cell cb (by simp)
        clear cb
        obtain ⟨y, hy⟩ : ∃ y, y = la.getD (k - 1) 0 := ⟨_, rfl⟩
        rw [← hy] at cb'
        have d2 : ¬ y ≤ x := by have := HF.out.lt (i := k - 1) (j := k) (by omega) (by have := HN.out.1; omega); rw [← hx, ← hy] at this; omega
        have d3 : decide ((0 : Int) < (k : Int)) = true := decide_eq_true (by omega)
        have d4 : decide (y ≤ x) = false := decide_eq_false d2
        obtain ⟨m, hm⟩ : ∃ m, m = k - 1 := ⟨_, rfl⟩
        rw [← hm] at cb'
        have w1 : IntKind.i64.wrap ((k : Int) - 1) = (m : Int) := by rw [wrap_i64_of (by omega) (by have e1 := HN.out.1; have e2 := HN.out.2; unfold maxLen at e2; omega)]; omega
        have m0 : (0 : Int) ≤ (m : Int) := by omega
        have m1 : (m : Int) < (n : Int) := by omega
        have HK := @hideH _ hh.out
        clear hx hy hh hm
        go_wp2
        go_quiet (fail)
        go_wp2
        go_roundw
        case rel => exact ⟨k + 1, by omega, by go_num, HK.out.drewN' _⟩
        case measure => simp [intOf]; omega
      · have d3 : decide ((0 : Int) < (k : Int)) = false := decide_eq_false (by omega)
        have HK := @hideH _ hh.out
        clear hx hh
        go_wp2
        go_quiet (fail)
        go_wp2
        go_roundw
        case rel => exact ⟨k + 1, by omega, by go_num, HK.out.drewN' _⟩
        case measure => simp [intOf]; omega
    · go_wp2
      go_ret
      exact ⟨rfl, hh.out⟩
end Go.Proofs.Ytinlhojojeabcaa

/-
  OWN WORK (by mkch8.py). Layer 12: the law ChainEnds.
-/
namespace Go.Proofs.Ytinlhojojeabcaa
open Go.RowKit
set_option linter.unusedVariables false
set_option linter.unusedSimpArgs false

set_option maxRecDepth 20000 in
set_option maxHeartbeats 6400000 in
theorem chainEnds_walk (O : ChOps) (v : Value) (ls : List Ln) (all : Bool) (from_ : Int) (w : World) (h : Lines w v ls) (hf : I64 from_) : Calls Try.prog 3 #[v, .bool all, .int .i64 from_] w fun e w' => e = .returned (.bool true) ∧ Kept [] w w' := by
  obtain ⟨pv, cv, hv, -⟩ := h.shape
  subst hv
  obtain ⟨nv, hnv⟩ : ∃ n, n = ls.length := ⟨_, rfl⟩
  rw [← hnv] at h ⊢
  have HS := @hideH _ h
  have HF := @hideH _ hf
  clear hnv h hf
  go_enter Try.func3, Try.ntmps3
  go_wp2_with fail
  refine (known_any O w).mono ?_
  rintro e w1 ⟨rfl, k1⟩
  have HK1 := @hideH _ k1
  clear k1
  go_wp2
  go_loopw [7] (fun i wr => ∃ k : Nat, k ≤ 2 ∧ i = .int .i64 k ∧ Hid (Kept [] w wr)) (fun i _ => 2 - (intOf i).toNat)
  case atStart => exact ⟨0, by omega, rfl, HK1.out⟩
  case round =>
    clear HK1
    obtain ⟨k, hk, rfl, hh⟩ := hrel
    by_cases hkl : k < 2
    · have hkl' : (k : Int) < (2 : Int) := by omega
      have wk : IntKind.i64.wrap ((k : Int) + 1) = (k : Int) + 1 := wrap_i64_of (by omega) (by omega)
      go_wp2_with fail
      refine (asking_any O _ ls all _ from_ wr (HS.out.kept hh.out (by simp)) HF.out).mono ?_
      rintro e w2 ⟨a, p, rfl, na, np, -, k2⟩
      obtain ⟨u, hu⟩ : ∃ u, u = ((k : Int) == 1) := ⟨_, rfl⟩
      rw [← hu] at na np ⊢
      clear hu
      have hE := askL_ends u (rdr ls all) from_
      obtain ⟨A, hA⟩ : ∃ A, A = askL u (rdr ls all) from_ := ⟨_, rfl⟩
      rw [← hA] at na np hE ⊢
      clear hA
      obtain ⟨la, E, lp⟩ := A
      simp only at na np ⊢
      obtain ⟨pa, ca, hva⟩ := na.shape
      subst hva
      obtain ⟨pp, cp, hvp⟩ := np.shape
      subst hvp
      obtain ⟨n, hn⟩ : ∃ n, n = la.length := ⟨_, rfl⟩
      obtain ⟨q, hq⟩ : ∃ q, q = lp.length := ⟨_, rfl⟩
      rw [← hn] at na ⊢
      rw [← hq] at np ⊢
      have HE := @hideH _ hE
      have HN := @hideH _ (And.intro hn hq)
      have HA := @hideH _ na
      have HP := @hideH _ np
      have HK2 := @hideH _ (hh.out.then k2)
      clear hE hn hq na np k2 hh
      obtain ⟨Q, hQ⟩ : ∃ Q : Int, (q : Int) = Q := ⟨_, rfl⟩
      have HQ := @hideH _ hQ
      have t1 : ¬ (4096 : Int) < Q := by have := HE.out.few; have e := HN.out.2; simp only at this; omega
      have FA := falls_any _ la _ w2 HA.out HE.out.out
      go_upto_region 7 with fail
      go_cut [70] (fun s wx => s = .bool false ∧ Hid (Kept [] w2 wx))
      case first =>
        as_aux_lemma =>
          by_cases hs : from_ < 0
          · skip
            have g1 : from_ ≤ (0 : Int) := by omega
            have g2 : ¬ (0 : Int) < from_ := by omega
            have g3 : (from_ == 0) = false := by simp; omega
            have eq0 : q = 0 := by rw [HN.out.2]; have := (HE.out.none g1).1; simp only at this; rw [this]; rfl
            have en0 : n = 0 := by rw [HN.out.1]; have := (HE.out.none g1).2; simp only at this; rw [this]; rfl
            have eE : E = 120 := HE.out.neg hs
            have g4 := hs
            subst eq0 en0 eE
            clear hQ t1
            go_wp2_with fail
            refine FA.mono ?_
            clear FA
            rintro e w3 ⟨rfl, k3⟩
            have HK3 := @hideH _ k3
            clear k3
            go_wp2
            go_meet
            case rel => exact ⟨rfl, HK3.out⟩
          · by_cases hz : from_ = 0
            · skip
              have g1 : from_ ≤ (0 : Int) := by omega
              have g2 : ¬ (0 : Int) < from_ := by omega
              have eq0 : q = 0 := by rw [HN.out.2]; have := (HE.out.none g1).1; simp only at this; rw [this]; rfl
              have en0 : n = 0 := by rw [HN.out.1]; have := (HE.out.none g1).2; simp only at this; rw [this]; rfl
              have eE : E = 0 := HE.out.zero hz
              subst hz
              subst eq0 en0 eE
              clear hQ t1
              go_wp2_with fail
              refine FA.mono ?_
              clear FA
              rintro e w3 ⟨rfl, k3⟩
              have HK3 := @hideH _ k3
              clear k3
              go_wp2
              go_meet
              case rel => exact ⟨rfl, HK3.out⟩
            · skip
              have g1 : ¬ from_ ≤ (0 : Int) := by omega
              have g2 : (0 : Int) < from_ := by omega
              have g3 : (from_ == 0) = false := by simp; omega
              obtain ⟨tl, htl⟩ := HE.out.front g2
              simp only at htl
              have q1 : 0 < q := by rw [HN.out.2, htl]; simp
              obtain ⟨gp, epp, -, c0, -⟩ := HP.out.at (j := 0) (by have := HN.out.2; omega)
              subst epp
              rw [show lp.getD 0 0 = from_ by rw [htl]; rfl] at c0
              have q2 : (Q == 0) = false := by simp; omega
              have q3 : (0 : Int) < Q := by omega
              by_cases hE0 : E = 0
              · subst hE0
                clear htl
                go_wp2_with fail
                refine FA.mono ?_
                clear FA
                rintro e w3 ⟨rfl, k3⟩
                replace c0 := k3.cell c0 (by simp)
                have HK3 := @hideH _ k3
                clear k3
                go_wp2
                go_meet
                case rel => exact ⟨rfl, HK3.out⟩
              · have en0 : n = 0 := by rw [HN.out.1]; have := HE.out.err hE0; simp only at this; rw [this]; rfl
                have hE0' : (E != 0) = true := by simpa using hE0
                subst en0
                clear htl hE0
                go_wp2_with fail
                refine FA.mono ?_
                clear FA
                rintro e w3 ⟨rfl, k3⟩
                replace c0 := k3.cell c0 (by simp)
                have HK3 := @hideH _ k3
                clear k3
                go_wp2
                go_meet
                case rel => exact ⟨rfl, HK3.out⟩
      case rest =>
        obtain ⟨hs70, hK⟩ := hcut
        subst hs70
        clear FA t1 hQ
        have FA := falls_any _ lp _ wc (HP.out.kept hK.out (by simp)) HE.out.asked
        go_upto_region 9 with fail
        obtain ⟨wd, hwd⟩ : ∃ wd, wd = wc := ⟨_, rfl⟩
        have HKD := @hideH _ (show Kept [] w2 wd by rw [hwd]; exact hK.out)
        rw [← hwd] at FA ⊢
        clear hwd hK
        go_cut [94] (fun s wx => s = .bool false ∧ Hid (Kept [] w2 wx))
        case first =>
          as_aux_lemma =>
            by_cases hs : from_ < 0
            · skip
              have g3 : (from_ == 0) = false := by simp; omega
              have eE : E = 120 := HE.out.neg hs
              subst eE
              go_wp2_with fail
              refine FA.mono ?_
              clear FA
              rintro e w3 ⟨rfl, k3⟩
              have HK3 := @hideH _ (HKD.out.then k3)
              clear k3
              go_wp2
              go_meet
              case rel => exact ⟨rfl, HK3.out⟩
            · by_cases hz : from_ = 0
              · skip
                have g1 : from_ ≤ (0 : Int) := by omega
                have en0 : n = 0 := by rw [HN.out.1]; have := (HE.out.none g1).2; simp only at this; rw [this]; rfl
                have eE : E = 0 := HE.out.zero hz
                subst en0 eE hz
                go_wp2_with fail
                refine FA.mono ?_
                clear FA
                rintro e w3 ⟨rfl, k3⟩
                have HK3 := @hideH _ (HKD.out.then k3)
                clear k3
                go_wp2
                go_meet
                case rel => exact ⟨rfl, HK3.out⟩
              · skip
                have g3 : (from_ == 0) = false := by simpa using hz
                go_wp2_with fail
                refine FA.mono ?_
                clear FA
                rintro e w3 ⟨rfl, k3⟩
                have HK3 := @hideH _ (HKD.out.then k3)
                clear k3
                go_wp2
                go_meet
                case rel => exact ⟨rfl, HK3.out⟩
        case rest =>
          obtain ⟨hs94, hK⟩ := hcut
          subst hs94
          clear FA HKD
          have HKC := @hideH _ hK.out
          clear hK
          obtain ⟨wo, hwo⟩ : ∃ wo, wo = wr := ⟨_, rfl⟩
          clear hwo
          go_wp2
          go_loopw [11, 12] (fun va vi wq => ∃ t i : Nat, t ≤ q ∧ i ≤ n ∧ va = .int .i64 t ∧ vi = .int .i64 i ∧ Hid ((∀ x, x < q → i < n → lp.getD x 0 = la.getD i 0 → t ≤ x) ∧ Kept [] w2 wq)) (fun _ vi _ => n - (intOf vi).toNat)
          case atStart => exact ⟨0, 0, Nat.zero_le _, Nat.zero_le _, rfl, rfl, (fun x _ _ _ => Nat.zero_le x), HKC.out⟩
          case round =>
            obtain ⟨t, i, ht, hi, rfl, rfl, hh⟩ := hrel
            clear HKC
            by_cases hin : i < n
            · have hin' : (i : Int) < (n : Int) := by omega
              have hi0 : (0 : Int) ≤ (i : Int) := by omega
              have wi : IntKind.i64.wrap ((i : Int) + 1) = (i : Int) + 1 := wrap_i64_of (by omega) (by have e1 := HN.out.1; have e2 := HA.out.len; unfold maxLen at e2; omega)
              obtain ⟨x, hx, ex⟩ := stands HE.out.sub (i := i) (by have := HN.out.1; simp only; omega)
              simp only at hx ex
              rw [← HN.out.2] at hx
              have htx := hh.out.1 x hx hin ex
              skip
              have HKI := @hideH _ hh.out.2
              have HXX := @hideH _ (And.intro hx ex)
              clear hx ex
              obtain ⟨ga, epa, -, ca1, -⟩ := HA.out.at (j := i) (by have := HN.out.1; omega)
              subst epa
              obtain ⟨gp, epp, -, cpx, -⟩ := HP.out.at (j := x) (by have := HN.out.2; have := HXX.out.1; omega)
              subst epp
              clear cpx
              obtain ⟨y, hy⟩ : ∃ y, y = la.getD i 0 := ⟨_, rfl⟩
              rw [← hy] at ca1
              have HY := @hideH _ hy
              clear hy hh
              go_wp2
              go_loopw [11] (fun va wq => ∃ t : Nat, t ≤ x ∧ va = .int .i64 t ∧ Hid (Kept [] w2 wq)) (fun va _ => x - (intOf va).toNat)
              case atStart => exact ⟨t, htx, rfl, HKI.out⟩
              case round =>
                clear htx ht HKI
                obtain ⟨z, hz, rfl, hh⟩ := hrel
                have hzq : (z : Int) < (q : Int) := by have := HXX.out.1; omega
                have hz0 : (0 : Int) ≤ (z : Int) := by omega
                have wz : IntKind.i64.wrap ((z : Int) + 1) = (z : Int) + 1 := wrap_i64_of (by omega) (by have e1 := HN.out.2; have e2 := HP.out.len; have e3 := HXX.out.1; unfold maxLen at e2; omega)
                obtain ⟨g3, ep3, -, cz, -⟩ := HP.out.at (j := z) (by have := HN.out.2; have := HXX.out.1; omega)
                cases ep3
                have cz' := hh.out.cell cz (by simp)
                have ca2 := hh.out.cell ca1 (by simp)
                obtain ⟨b, hb⟩ : ∃ b, b = lp.getD z 0 := ⟨_, rfl⟩
                rw [← hb] at cz'
                clear cz
                have hd : decide ((z : Int) < (q : Int)) = true := decide_eq_true hzq
                have HK := @hideH _ hh.out
                clear hh
                by_cases hzx : z = x
                · have hby : (b != y) = false := by rw [hb, hzx, HXX.out.2, ← HY.out]; simp
                  have HNX := @hideH _ (show ∀ x', x' < q → i + 1 < n → lp.getD x' 0 = la.getD (i + 1) 0 → z ≤ x' from fun x' h1 h2 h3 => by
                      by_cases c : z ≤ x'
                      · exact c
                      · exfalso
                        have e1 := HE.out.asked.lt (i := x') (j := x) (by omega) (by have := HN.out.2; have := HXX.out.1; simp only; omega)
                        have e2 := HE.out.out.lt (i := i) (j := i + 1) (by omega) (by have := HN.out.1; simp only; omega)
                        simp only at e1 e2
                        rw [h3, HXX.out.2] at e1
                        omega)
                  have hzq2 : ((z : Int) == (q : Int)) = false := by simp; omega
                  have HZ := @hideH _ (show z ≤ q from by omega)
                  clear hb hzx
                  go_wp2
                  go_quiet (fail)
                  go_wp2
                  go_roundw
                  case rel => exact ⟨z, i + 1, HZ.out, by omega, rfl, by go_num, HNX.out, HK.out.drewN' _⟩
                  case measure => simp [intOf]; omega
                · have hby : (b != y) = true := by
                      simp only [bne_iff_ne, ne_eq]
                      intro c
                      have e1 := HE.out.asked.lt (i := z) (j := x) (by omega) (by have := HN.out.2; have := HXX.out.1; simp only; omega)
                      simp only at e1
                      rw [HXX.out.2, ← HY.out, ← hb] at e1
                      omega
                  have HZ := @hideH _ (show z + 1 ≤ x from by omega)
                  clear hb hzx
                  go_wp2
                  go_quiet (fail)
                  go_wp2
                  go_roundw
                  case rel => exact ⟨z + 1, HZ.out, by go_num, HK.out.drewN' _⟩
                  case measure => have := HZ.out; simp [intOf]; omega
            · have HKF := @hideH _ (HK2.out.then hh.out.2)
              clear hh
              have hin' : ¬ (i : Int) < (n : Int) := by omega
              go_wp2
              go_roundw
              case rel => exact ⟨k + 1, by omega, by go_num, HKF.out⟩
              case measure => simp [intOf]; omega
    · go_wp2
      go_ret
      exact ⟨rfl, hh.out⟩
end Go.Proofs.Ytinlhojojeabcaa

/-
  OWN WORK (by mkch7.py). Layer 12: lines that came in.
-/
namespace Go.Proofs.Ytinlhojojeabcaa
open Go.ChangeShapes Go.WideShapes Go.ChangeAt Go.RowKit Go.Deep
set_option linter.unusedVariables false
set_option linter.unusedSimpArgs false

theorem i64_of_wf {z : Int} (h : (Lit.int .i64 z).wf = true) : I64 z := by
  have hb : -9223372036854775808 ≤ z ∧ z ≤ 9223372036854775807 := by simpa [Lit.wf, IntKind.min, IntKind.max, IntKind.signed, IntKind.bits] using h
  exact ⟨by omega, by omega⟩
theorem choose_lt12 {α : Type} [Inhabited α] {n : Nat} {Q : Nat → α → Prop} (h : ∀ i, i < n → ∃ q, Q i q) : ∃ q : Nat → α, ∀ i, i < n → Q i (q i) := by
  refine ⟨fun i => if hi : i < n then Classical.choose (h i hi) else default, fun i hi => ?_⟩
  simp only [hi, dite_true]
  exact Classical.choose_spec (h i hi)
theorem list2_of {α : Type} {l : List α} (h : l.length = 2) : ∃ a0 a1, l = [a0, a1] := by
  match l, h with
  | [a0, a1], _ => exact ⟨a0, a1, rfl⟩
theorem list3_of {α : Type} {l : List α} (h : l.length = 3) : ∃ a0 a1 a2, l = [a0, a1, a2] := by
  match l, h with
  | [a0, a1, a2], _ => exact ⟨a0, a1, a2, rfl⟩
theorem list11_of {α : Type} {l : List α} (h : l.length = 11) : ∃ a0 a1 a2 a3 a4 a5 a6 a7 a8 a9 a10, l = [a0, a1, a2, a3, a4, a5, a6, a7, a8, a9, a10] := by
  match l, h with
  | [a0, a1, a2, a3, a4, a5, a6, a7, a8, a9, a10], _ => exact ⟨a0, a1, a2, a3, a4, a5, a6, a7, a8, a9, a10, rfl⟩
theorem list12_of {α : Type} {l : List α} (h : l.length = 12) : ∃ a0 a1 a2 a3 a4 a5 a6 a7 a8 a9 a10 a11, l = [a0, a1, a2, a3, a4, a5, a6, a7, a8, a9, a10, a11] := by
  match l, h with
  | [a0, a1, a2, a3, a4, a5, a6, a7, a8, a9, a10, a11], _ => exact ⟨a0, a1, a2, a3, a4, a5, a6, a7, a8, a9, a10, a11, rfl⟩
theorem sv_open12 {H : Type} {enc : TypeId × Value → H} {W : World} {t e : TypeId} {fuel : Nat} {v : Value} {x : DataW H × List MemPlace} (ht : Try.prog.underlying t = some (.slice e))
    (hf : DataW.trod enc Try.prog W 0 (fun _ => true) true fuel t [v] = some x) : ∃ s : Sv, v = .slice s.p s.n s.c := by
  rcases open_slice ht hf with ⟨hcs, hx⟩ | ⟨a, l, c, m, n, D, Pl, hcs, hb, hl, hm, hmm, hx, hel⟩
  · simp [Value.cells] at hcs
    exact ⟨⟨_, _, _⟩, hcs⟩
  · simp [Value.cells] at hcs
    exact ⟨⟨_, _, _⟩, hcs⟩
theorem lines_open {H : Type} {enc : TypeId × Value → H} {W : World} {t e : TypeId} {f0 f1 : Field} {g0 g1 g2 g3 g4 g5 g6 g7 g8 g9 g10 : Field} {ao : Option Addr} {len cap : Nat} {d : DataW H} {p : List MemPlace} (ht : Try.prog.underlying t = some (.slice e)) (he : Try.prog.underlying e = some (.struct #[f0, f1])) (ce : Try.prog.cellsOf e = 12) (fo0 : f0.offset = 0) (fo1 : f1.offset = 1) (fc0 : Try.prog.cellsOf f0.type = 1) (fc1 : Try.prog.cellsOf f1.type = 11) (ft0 : Try.prog.underlying f0.type = some (.int .i64)) (ft1 : Try.prog.underlying f1.type = some (.struct #[g0, g1, g2, g3, g4, g5, g6, g7, g8, g9, g10]))
    (o0 : g0.offset = 0) (c0 : Try.prog.cellsOf g0.type = 1) (o1 : g1.offset = 1) (c1 : Try.prog.cellsOf g1.type = 1) (o2 : g2.offset = 2) (c2 : Try.prog.cellsOf g2.type = 1) (o3 : g3.offset = 3) (c3 : Try.prog.cellsOf g3.type = 1) (o4 : g4.offset = 4) (c4 : Try.prog.cellsOf g4.type = 1) (o5 : g5.offset = 5) (c5 : Try.prog.cellsOf g5.type = 1) (o6 : g6.offset = 6) (c6 : Try.prog.cellsOf g6.type = 1) (o7 : g7.offset = 7) (c7 : Try.prog.cellsOf g7.type = 1) (o8 : g8.offset = 8) (c8 : Try.prog.cellsOf g8.type = 1) (o9 : g9.offset = 9) (c9 : Try.prog.cellsOf g9.type = 1) (o10 : g10.offset = 10) (c10 : Try.prog.cellsOf g10.type = 1)
    (t0 : Try.prog.underlying g0.type = some (.int .i64)) (t1 : Try.prog.underlying g1.type = some (.int .i64)) (t2 : Try.prog.underlying g2.type = some (.int .i64)) (t3 : Try.prog.underlying g3.type = some (.int .i64)) (t4 : Try.prog.underlying g4.type = some (.int .i64)) (t5 : Try.prog.underlying g5.type = some (.int .i64)) {e6 : TypeId} (t6 : Try.prog.underlying g6.type = some (.slice e6)) {e7 : TypeId} (t7 : Try.prog.underlying g7.type = some (.slice e7)) (t8 : Try.prog.underlying g8.type = some (.int .i64)) {e9 : TypeId} (t9 : Try.prog.underlying g9.type = some (.slice e9)) {e10 : TypeId} (t10 : Try.prog.underlying g10.type = some (.slice e10))
    (h : DataW.Trod enc Try.prog W 0 (fun _ => true) true t (.slice ao len cap) d p) : ∃ ls : List Ln, ls.length = len ∧ Lines W (.slice ao len cap) ls := by
  obtain ⟨fuel, hf⟩ := h
  rcases open_slice ht hf with ⟨hcs, hx⟩ | ⟨a, l, c, m, n, D, Pl, hcs, hb, hl, hm, hmm, hx, hel⟩
  · simp [Value.cells] at hcs
    obtain ⟨rfl, rfl, rfl⟩ := hcs
    exact ⟨[], rfl, ⟨fun l hl => by simp at hl, none, 0, rfl, Nat.le_refl _, by simp [maxLen], fun hn => absurd rfl hn⟩⟩
  · simp [Value.cells] at hcs
    obtain ⟨rfl, rfl, rfl⟩ := hcs
    have hmm' : m = cap := by simpa using hmm
    have each : ∀ i, i < m → ∃ q : Ln, q.fits ∧ ∀ (j : Nat) u, q.cells[j]? = some u → W.cell? ((a.add (i * 12)).add j) = some u := by
      intro i hi
      obtain ⟨cs', g1', g2'⟩ := hel i hi
      rw [ce] at g1'
      obtain ⟨_, hlen, hcell⟩ := World.cells?_some g1'
      obtain ⟨xs, k, hk, hxy, _, hxl, hff⟩ := DataW.trod_struct he g2'
      obtain ⟨y0, y1, rfl⟩ := list2_of (show xs.length = 2 from hxl)
      obtain ⟨v0, v1, v2, v3, v4, v5, v6, v7, v8, v9, v10, v11, rfl⟩ := list12_of hlen
      have q0 := hff 0 f0 rfl
      have q1 := hff 1 f1 rfl
      simp [fo0, fo1, fc0, fc1] at q0 q1
      obtain ⟨z0, e0, -, w0⟩ := DataW.trod_int ft0 q0
      simp at e0
      obtain ⟨xs2, k2, hk2, hxy2, _, hxl2, hff2⟩ := DataW.trod_struct ft1 q1
      obtain ⟨u0, u1, u2, u3, u4, u5, u6, u7, u8, u9, u10, rfl⟩ := list11_of (show xs2.length = 11 from hxl2)
      have r0 := hff2 0 g0 rfl
      have r1 := hff2 1 g1 rfl
      have r2 := hff2 2 g2 rfl
      have r3 := hff2 3 g3 rfl
      have r4 := hff2 4 g4 rfl
      have r5 := hff2 5 g5 rfl
      have r6 := hff2 6 g6 rfl
      have r7 := hff2 7 g7 rfl
      have r8 := hff2 8 g8 rfl
      have r9 := hff2 9 g9 rfl
      have r10 := hff2 10 g10 rfl
      simp [o0, c0, o1, c1, o2, c2, o3, c3, o4, c4, o5, c5, o6, c6, o7, c7, o8, c8, o9, c9, o10, c10] at r0 r1 r2 r3 r4 r5 r6 r7 r8 r9 r10
      obtain ⟨s0, e0', -, w0'⟩ := DataW.trod_int t0 r0
      simp at e0'
      obtain ⟨s1, e1', -, w1'⟩ := DataW.trod_int t1 r1
      simp at e1'
      obtain ⟨s2, e2', -, w2'⟩ := DataW.trod_int t2 r2
      simp at e2'
      obtain ⟨s3, e3', -, w3'⟩ := DataW.trod_int t3 r3
      simp at e3'
      obtain ⟨s4, e4', -, w4'⟩ := DataW.trod_int t4 r4
      simp at e4'
      obtain ⟨s5, e5', -, w5'⟩ := DataW.trod_int t5 r5
      simp at e5'
      obtain ⟨s6, e6'⟩ := sv_open12 t6 r6
      obtain ⟨s7, e7'⟩ := sv_open12 t7 r7
      obtain ⟨s8, e8', -, w8'⟩ := DataW.trod_int t8 r8
      simp at e8'
      obtain ⟨s9, e9'⟩ := sv_open12 t9 r9
      obtain ⟨s10, e10'⟩ := sv_open12 t10 r10
      subst e0 e0' e1' e2' e3' e4' e5' e6' e7' e8' e9' e10'
      refine ⟨⟨z0, ⟨s0, s1, s2, s3, s4, s5, s6, s7, s8, s9, s10⟩⟩, ⟨i64_of_wf w0, i64_of_wf w0', i64_of_wf w1', i64_of_wf w2', i64_of_wf w8'⟩, fun j u hj => ?_⟩
      have hj12 : j < 12 := (List.getElem?_eq_some_iff.1 hj).1
      have q := hcell j hj12
      rw [q]
      match j, hj12, hj with
      | 0, _, hj => simpa [Ln.cells, Lv.cells] using hj
      | 1, _, hj => simpa [Ln.cells, Lv.cells] using hj
      | 2, _, hj => simpa [Ln.cells, Lv.cells] using hj
      | 3, _, hj => simpa [Ln.cells, Lv.cells] using hj
      | 4, _, hj => simpa [Ln.cells, Lv.cells] using hj
      | 5, _, hj => simpa [Ln.cells, Lv.cells] using hj
      | 6, _, hj => simpa [Ln.cells, Lv.cells] using hj
      | 7, _, hj => simpa [Ln.cells, Lv.cells] using hj
      | 8, _, hj => simpa [Ln.cells, Lv.cells] using hj
      | 9, _, hj => simpa [Ln.cells, Lv.cells] using hj
      | 10, _, hj => simpa [Ln.cells, Lv.cells] using hj
      | 11, _, hj => simpa [Ln.cells, Lv.cells] using hj
    haveI : Inhabited Ln := ⟨⟨0, .zero⟩⟩
    obtain ⟨q, hq⟩ := choose_lt12 each
    refine ⟨(List.range len).map q, by simp, ⟨fun l hl' => ?_, some a, cap, by simp, by simpa using hl, hm, fun hn => ?_⟩⟩
    · obtain ⟨i, hi, rfl⟩ := List.mem_map.1 hl'
      exact (hq i (by have := List.mem_range.1 hi; omega)).1
    · have hlen : 0 < len := by
        rcases Nat.eq_zero_or_pos len with c | c
        · subst c; exact absurd rfl hn
        · exact c
      have h0 := (hq 0 (by omega)).2 0 _ rfl
      have hs := spot_of_cell h0
      have hs' : a.spot = none := by
        unfold Addr.add at hs
        split at hs <;> simp_all
      obtain ⟨b, o, sp⟩ := a
      simp only at hs'
      subst hs'
      have hlt : b < W.heap.size := by
        have e : (((⟨b, o, none⟩ : Addr).add (0 * 12)).add 0).block = b := rfl
        have := lt_of_cell h0
        omega
      refine ⟨b, o, rfl, hlt, fun i s hs' j u hj => ?_⟩
      simp only [List.getElem?_map] at hs'
      obtain ⟨k, hk, rfl⟩ := Option.map_eq_some_iff.1 hs'
      obtain ⟨hk2, rfl⟩ := List.getElem?_eq_some_iff.1 hk
      have hi : i < len := by simpa using hk2
      simp only [List.getElem_range] at hj
      have q2 := (hq i (by omega)).2 j u hj
      rw [add_none (a := ⟨b, o, none⟩) rfl, add_none (a := ⟨b, o + i * 12, none⟩) rfl] at q2
      exact q2
end Go.Proofs.Ytinlhojojeabcaa

/-
  OWN WORK (by mkch1.py). Layer 12: the document's third step.
-/
namespace Go.Proofs.Ytinlhojojeabcaa
open Go.RowKit
set_option linter.unusedVariables false
set_option linter.unusedSimpArgs false

def hangE (r : Rc) (l b : Int) : Int := if hangs r l b then 0 else 120
theorem hangE_kind {r : Rc} {l b : Int} (h : ¬ kindOk r.kind) : hangE r l b = 120 := if_neg fun q => h q.1
theorem hangE_begin {r : Rc} {l b : Int} (h : r.kind = 1) (h2 : l = b) : hangE r l b = 0 := if_pos ⟨⟨by omega, by omega⟩, fun _ => h2, fun c => absurd h c⟩
theorem hangE_begin_no {r : Rc} {l b : Int} (h : r.kind = 1) (h2 : l ≠ b) : hangE r l b = 120 := if_neg fun q => h2 (q.2.1 h)
theorem hangE_no {r : Rc} {l b : Int} (h : r.kind ≠ 1) (h2 : ¬ (r.birth = b ∧ 1 ≤ b ∧ b < l)) : hangE r l b = 120 := if_neg fun q => h2 (q.2.2 h)
theorem hangE_yes {r : Rc} {l b : Int} (h : r.kind ≠ 1) (h0 : kindOk r.kind) (h2 : r.birth = b ∧ 1 ≤ b ∧ b < l) : hangE r l b = 0 := if_pos ⟨h0, fun c => absurd c h, fun _ => h2⟩
theorem hangE_two (r : Rc) (l b : Int) : hangE r l b = 0 ∧ hangs r l b ∨ hangE r l b = 120 ∧ ¬ hangs r l b := by
  unfold hangE
  by_cases c : hangs r l b
  · exact .inl ⟨if_pos c, c⟩
  · exact .inr ⟨if_neg c, c⟩
theorem backStep_hang {r : Rc} {l b : Int} (h : ¬ hangs r l b) : backStep r l b = none := by unfold backStep; rw [if_pos h]
theorem backStep_begin {r : Rc} {l b : Int} (h : hangs r l b) (hk : r.kind = 1) : backStep r l b = some none := by unfold backStep; rw [if_neg (not_not_intro h), if_pos hk]
theorem backStep_prev {r : Rc} {l b : Int} (hk : r.kind ≠ 1) (hp : r.prev < b ∨ l ≤ r.prev) : backStep r l b = none := by
  unfold backStep
  split
  · rfl
  · first | rfl | rw [if_neg hk, if_pos hp]
theorem backStep_go {r : Rc} {l b : Int} (h : hangs r l b) (hk : r.kind ≠ 1) (h1 : b ≤ r.prev) (h2 : r.prev < l) : backStep r l b = some (some r.prev) := by unfold backStep; rw [if_neg (not_not_intro h), if_neg hk, if_neg (by omega)]
theorem undoStep_hang {r : Rc} {l b : Int} {m : Bool} (h : ¬ hangs r l b) : undoStep r l b m = none := by unfold undoStep; rw [if_pos h]
theorem undoStep_must {r : Rc} {l b : Int} (h : r.kind ≠ 2) : undoStep r l b true = none := by
  unfold undoStep
  split
  · rfl
  · rw [if_pos ⟨rfl, h⟩]
theorem undoStep_begin {r : Rc} {l b : Int} (h : hangs r l b) (hk : r.kind = 1) : undoStep r l b false = some none := by unfold undoStep; rw [if_neg (not_not_intro h), if_neg (by simp), if_pos hk]
theorem undoStep_end {r : Rc} {l b : Int} (h : hangs r l b) (hk : r.kind = 3) (hn : r.next = 0) : undoStep r l b false = some none := by unfold undoStep; rw [if_neg (not_not_intro h), if_neg (by simp), if_neg (by omega), if_pos hk, if_pos hn]
theorem undoStep_next {r : Rc} {l b : Int} {m : Bool} (hk : r.kind = 3) (hn : r.next ≠ 0) (hp : r.next < b ∨ l ≤ r.next) : undoStep r l b m = none := by
  unfold undoStep
  split
  · rfl
  · split
    · rfl
    · simp [hk, hn, hp]
theorem undoStep_gonext {r : Rc} {l b : Int} (h : hangs r l b) (hk : r.kind = 3) (hn : r.next ≠ 0) (h1 : b ≤ r.next) (h2 : r.next < l) : undoStep r l b false = some (some (r.next, true)) := by unfold undoStep; rw [if_neg (not_not_intro h), if_neg (by simp), if_neg (by omega), if_pos hk, if_neg hn, if_neg (by omega)]
theorem undoStep_prev {r : Rc} {l b : Int} {m : Bool} (hk : r.kind ≠ 1) (hk3 : r.kind ≠ 3) (hp : r.prev < b ∨ l ≤ r.prev) : undoStep r l b m = none := by
  unfold undoStep
  split
  · rfl
  · split
    · rfl
    · first | rfl | rw [if_neg hk, if_neg hk3, if_pos hp]
theorem undoStep_go {r : Rc} {l b : Int} {m : Bool} (h : hangs r l b) (hm : m = true → r.kind = 2) (hk : r.kind ≠ 1) (hk3 : r.kind ≠ 3) (h1 : b ≤ r.prev) (h2 : r.prev < l) : undoStep r l b m = some (some (r.prev, false)) := by unfold undoStep; rw [if_neg (not_not_intro h), if_neg (fun q => q.2 (hm q.1)), if_neg hk, if_neg hk3, if_neg (by omega)]
theorem born_true {r : Rc} {l b : Int} (h : r.kind = 1) : bornAt true b r l = l := by unfold bornAt birthOf; rw [if_pos rfl, if_pos h]
theorem born_first {r : Rc} {l b : Int} (h : r.kind ≠ 1) : bornAt true b r l = r.birth := by unfold bornAt birthOf; rw [if_pos rfl, if_neg h]
theorem born_false {r : Rc} {l b : Int} : bornAt false b r l = b := rfl
set_option maxRecDepth 20000 in
set_option maxHeartbeats 3200000 in
theorem rChained (r : Lv) (l b : Int) (f : Bool) (w : World) : Calls Try.prog 21 #[.agg #[.int .i64 r.kind, .int .i64 r.birth, .int .i64 r.prev, .int .i64 r.id, .int .i64 r.page, .int .i64 r.frm, .slice r.b.p r.b.n r.b.c, .slice r.a.p r.a.n r.a.c, .int .i64 r.next, .slice r.r.p r.r.n r.r.c, .slice r.d.p r.d.n r.d.c], .int .i64 l, .int .i64 b, .bool f] w fun e w' => e = .returned (.tuple #[.int .i64 (hangE r.rc l (bornAt f b r.rc l)), .int .i64 (bornAt f b r.rc l)]) ∧ Kept [] w w' := by
  obtain ⟨kd, hkd⟩ : ∃ k, k = r.rc.kind := ⟨_, rfl⟩
  obtain ⟨bi, hbi⟩ : ∃ k, k = r.rc.birth := ⟨_, rfl⟩
  obtain ⟨rc, hrc⟩ : ∃ k, k = r.rc := ⟨_, rfl⟩
  rw [show r.kind = kd from hkd.symm, show r.birth = bi from hbi.symm]
  rw [← hrc] at hkd hbi ⊢
  have HKD := @hideH _ hkd
  have HBI := @hideH _ hbi
  clear hrc hkd hbi
  obtain ⟨w1, hw1⟩ : ∃ wx, wx = w.alloc (.cells #[.int .i64 kd, .int .i64 bi, .int .i64 r.prev, .int .i64 r.id, .int .i64 r.page, .int .i64 r.frm, .slice r.b.p r.b.n r.b.c, .slice r.a.p r.a.n r.a.c, .int .i64 r.next, .slice r.r.p r.r.n r.r.c, .slice r.d.p r.d.n r.d.c] 42) := ⟨_, rfl⟩
  have k1 : Kept [] w w1 := by rw [hw1]; exact (Kept.refl [] w).alloc _
  have B1 : Blk w1 w.heap.size 42 [.int .i64 kd, .int .i64 bi, .int .i64 r.prev, .int .i64 r.id, .int .i64 r.page, .int .i64 r.frm, .slice r.b.p r.b.n r.b.c, .slice r.a.p r.a.n r.a.c, .int .i64 r.next, .slice r.r.p r.r.n r.r.c, .slice r.d.p r.d.n r.d.c] := by rw [hw1]; exact Blk.new w _ _
  have c0 := B1.cell (j := 0) rfl
  have c1 := B1.cell (j := 1) rfl
  have KE := @hideH _ k1
  clear B1 k1
  obtain ⟨B, hB⟩ : ∃ B, B = bornAt f b rc l := ⟨_, rfl⟩
  rw [← hB]
  obtain ⟨E, hE⟩ : ∃ E, E = hangE rc l B := ⟨_, rfl⟩
  rw [← hE]
  have HB := @hideH _ hB
  have HE := @hideH _ hE
  clear hB hE
  go_enter Try.func21, Try.ntmps21
  go_upto_region 1 with fail
  rw [← hw1]
  clear hw1
  go_upto_if 10 with fail
  go_cut [2] (fun v wx => v = .int .i64 B ∧ wx = w1)
  case first =>
    cases f with
    | false =>
      go_wp2
      go_meet
      case rel => exact ⟨by rw [HB.out]; rfl, rfl⟩
    | true =>
      by_cases hk : kd = 1
      · have HB' := @hideH _ (show B = l by rw [HB.out]; exact born_true (HKD.out ▸ hk))
        subst hk
        skip
        go_wp2
        go_meet
        case rel => exact ⟨by rw [HB'.out], rfl⟩
      · have HB' := @hideH _ (show B = bi by rw [HB.out, HBI.out]; exact born_first (HKD.out ▸ hk))
        have hk' : (kd == 1) = false := by simpa using hk
        clear hk
        go_wp2
        go_meet
        case rel => exact ⟨by rw [HB'.out], rfl⟩
  case rest =>
    obtain ⟨h1, h2⟩ := hcut
    subst h1 h2
    skip
    by_cases q1 : kd < 1
    · skip
      have eE : E = 120 := by rw [HE.out]; exact hangE_kind (fun q => by have := q.1; rw [← HKD.out] at this; omega)
      have HEE := @hideH _ eE
      clear eE
      go_wp2
      refine bodyPost_ret (by simp [results, Try.results21, go_sem]; try rfl) rfl ?_
      exact ⟨by rw [HEE.out], KE.out⟩
    · by_cases q2 : kd > 6
      · skip
        have eE : E = 120 := by rw [HE.out]; exact hangE_kind (fun q => by have := q.2; rw [← HKD.out] at this; omega)
        have HEE := @hideH _ eE
        have q2' : (6 : Int) < kd := q2
        clear eE
        go_wp2
        refine bodyPost_ret (by simp [results, Try.results21, go_sem]; try rfl) rfl ?_
        exact ⟨by rw [HEE.out], KE.out⟩
      · have q2' : ¬ (6 : Int) < kd := q2
        by_cases q3 : kd = 1
        · by_cases q4 : l = B
          · skip
            have eE : E = 0 := by rw [HE.out]; exact hangE_begin (HKD.out ▸ q3) q4
            have HEE := @hideH _ eE
            have q4' : (l != B) = false := by simpa using q4
            subst q3
            clear q4
            clear eE
            go_wp2
            refine bodyPost_ret (by simp [results, Try.results21, go_sem]; try rfl) rfl ?_
            exact ⟨by rw [HEE.out], KE.out⟩
          · skip
            have eE : E = 120 := by rw [HE.out]; exact hangE_begin_no (HKD.out ▸ q3) q4
            have HEE := @hideH _ eE
            have q4' : (l != B) = true := by simpa using q4
            subst q3
            clear q4
            clear eE
            go_wp2
            refine bodyPost_ret (by simp [results, Try.results21, go_sem]; try rfl) rfl ?_
            exact ⟨by rw [HEE.out], KE.out⟩
        · have q3' : (kd == 1) = false := by simpa using q3
          by_cases q5 : bi = B
          · by_cases q6 : B < 1
            · skip
              have eE : E = 120 := by rw [HE.out]; exact hangE_no (HKD.out ▸ q3) (fun q => by omega)
              have HEE := @hideH _ eE
              have q5' : (bi != B) = false := by simpa using q5
              clear q5 q3
              clear eE
              go_wp2
              refine bodyPost_ret (by simp [results, Try.results21, go_sem]; try rfl) rfl ?_
              exact ⟨by rw [HEE.out], KE.out⟩
            · by_cases q7 : l ≤ B
              · skip
                have eE : E = 120 := by rw [HE.out]; exact hangE_no (HKD.out ▸ q3) (fun q => by omega)
                have HEE := @hideH _ eE
                have q5' : (bi != B) = false := by simpa using q5
                clear q5 q3
                clear eE
                go_wp2
                refine bodyPost_ret (by simp [results, Try.results21, go_sem]; try rfl) rfl ?_
                exact ⟨by rw [HEE.out], KE.out⟩
              · skip
                have eE : E = 0 := by rw [HE.out]; exact hangE_yes (HKD.out ▸ q3) ⟨by rw [← HKD.out]; omega, by rw [← HKD.out]; omega⟩ ⟨by rw [← HBI.out]; exact q5, by omega, by omega⟩
                have HEE := @hideH _ eE
                have q5' : (bi != B) = false := by simpa using q5
                clear q5 q3
                clear eE
                go_wp2
                refine bodyPost_ret (by simp [results, Try.results21, go_sem]; try rfl) rfl ?_
                exact ⟨by rw [HEE.out], KE.out⟩
          · skip
            have eE : E = 120 := by rw [HE.out]; exact hangE_no (HKD.out ▸ q3) (fun q => q5 (by rw [HBI.out]; exact q.1))
            have HEE := @hideH _ eE
            have q5' : (bi != B) = true := by simpa using q5
            clear q5 q3
            clear eE
            go_wp2
            refine bodyPost_ret (by simp [results, Try.results21, go_sem]; try rfl) rfl ?_
            exact ⟨by rw [HEE.out], KE.out⟩
end Go.Proofs.Ytinlhojojeabcaa

/-
  OWN WORK (by mkcq1.py). chain: ask (a read, and what it panics with caught).
-/
namespace Go.Proofs.Ytinlhojojeabcaa
open Go.RowKit
set_option linter.unusedVariables false
set_option linter.unusedSimpArgs false

theorem ask_idle (p q : Addr) (w : World) :
    CallsD Try.prog 27 #[.pointer (some p), .pointer (some q)] .returning w fun e u' w' => e = .returned (.tuple #[]) ∧ u' = .returning ∧ w' = w := by
  refine callsD_of_wpS Try.func27 rfl fun c₀ cs hu => ?_
  apply wpS_seq
  apply wpS_region
  simp [wpOpsS, go_sem, recoverD, hu, Try.ntmps27, Exit.thenS]
  refine wpS_cond (t := false) (by simp [Act.eval, Array.replicate]) ?_
  simp only [Bool.false_eq_true, if_false]
  refine wpS_of_wp (wp_skip ?_)
  cases c₀
  simp_all [bodyPostS, results, Try.results27]
set_option maxRecDepth 20000 in
set_option maxHeartbeats 6400000 in
theorem qAsk {gf : Nat} {lb : Array Value} {R : Rdr} {c : Nat} {St : World → List Nat → List Int → Prop} (A : Asker gf lb R c St) {F : List Nat} {qs : List Int} (l : Int) (w : World) (hS : St w F qs) (hc : c ≤ w.heap.size) (hq : qs.length < 4096) (h1 : 1 ≤ l) (h2 : I64 l) : Calls Try.prog 24 #[.func (.func gf) #[] lb, .int .i64 l] w fun e w' => ∃ (q : Int) (r : Lv) (F' : List Nat), e = .returned (.tuple #[.agg #[.int .i64 r.kind, .int .i64 r.birth, .int .i64 r.prev, .int .i64 r.id, .int .i64 r.page, .int .i64 r.frm, .slice r.b.p r.b.n r.b.c, .slice r.a.p r.a.n r.a.c, .int .i64 r.next, .slice r.r.p r.r.n r.r.c, .slice r.d.p r.d.n r.d.c], .int .i64 q]) ∧ R l = (q, r.rc) ∧ r.fits ∧ I64 q ∧ St w' F' (qs ++ [l]) ∧ Kept F w w' ∧ ∀ x ∈ F', x ∈ F ∨ w.heap.size ≤ x := by
  have hmf : ∀ (fn : Fn) (first cap : Array Value) (w : World), (Instr.makeFunc fn first cap).run Try.prog w = .ok (.func fn first cap) w := fun _ _ _ _ => rfl
  obtain ⟨w1, hw1⟩ : ∃ w1, w1 = (w.alloc (.cells #[.int .i64 0, .int .i64 0, .int .i64 0, .int .i64 0, .int .i64 0, .int .i64 0, .slice none 0 0, .slice none 0 0, .int .i64 0, .slice none 0 0, .slice none 0 0] 42)).alloc (.cells #[.int .i64 0] 49) := ⟨_, rfl⟩
  have K1 : Kept [] w w1 := by rw [hw1]; exact ((Kept.refl [] w).alloc _).alloc _
  have BA : Blk w1 w.heap.size 42 [.int .i64 0, .int .i64 0, .int .i64 0, .int .i64 0, .int .i64 0, .int .i64 0, .slice none 0 0, .slice none 0 0, .int .i64 0, .slice none 0 0, .slice none 0 0] := by rw [hw1]; exact (Blk.new w _ _).kept ((Kept.refl [] _).alloc _) (by simp)
  have BE : Blk w1 (w.heap.size + 1) 49 [.int .i64 0] := by rw [hw1]; have q := Blk.new (w.alloc (.cells #[.int .i64 0, .int .i64 0, .int .i64 0, .int .i64 0, .int .i64 0, .int .i64 0, .slice none 0 0, .slice none 0 0, .int .i64 0, .slice none 0 0, .slice none 0 0] 42)) 49 [.int .i64 0]; rw [World.size_alloc] at q; exact q
  have z1 : w1.heap.size = w.heap.size + 2 := by rw [hw1, World.size_alloc, World.size_alloc]
  have hlt := A.lt hS
  have S1 := A.kept hS K1 (by simp)
  have hA := A.ask l S1 hq h1 h2
  have hen := A.enters
  go_enter_defers Try.func24, Try.ntmps24
  go_upto_region 2 with fail
  rw [← hw1]
  clear hw1
  go_wp2_with fail
  refine hA.mono ?_
  clear hA
  rintro e w2 ⟨q, r, F', rfl, hR, hfit, hq64, S2, k2, hF⟩
  have nA : w.heap.size ∉ F := fun hm => by have := hlt _ hm; omega
  have nE : w.heap.size + 1 ∉ F := fun hm => by have := hlt _ hm; omega
  have BA2 := BA.kept k2 nA
  have BE2 := BE.kept k2 nE
  have nA' : w.heap.size ∉ F' := fun hm => by rcases hF _ hm with q | q; exact nA q; omega
  have nE' : w.heap.size + 1 ∉ F' := fun hm => by rcases hF _ hm with q | q; exact nE q; omega
  have a0 := BA2.cell (j := 0) rfl
  have a1 := BA2.cell (j := 1) rfl
  have a2 := BA2.cell (j := 2) rfl
  have a3 := BA2.cell (j := 3) rfl
  have a4 := BA2.cell (j := 4) rfl
  have a5 := BA2.cell (j := 5) rfl
  have a6 := BA2.cell (j := 6) rfl
  have a7 := BA2.cell (j := 7) rfl
  have a8 := BA2.cell (j := 8) rfl
  have a9 := BA2.cell (j := 9) rfl
  have a10 := BA2.cell (j := 10) rfl
  have f0 := BA2.free 0
  have f1 := BA2.free 1
  have f2 := BA2.free 2
  have f3 := BA2.free 3
  have f4 := BA2.free 4
  have f5 := BA2.free 5
  have f6 := BA2.free 6
  have f7 := BA2.free 7
  have f8 := BA2.free 8
  have f9 := BA2.free 9
  have f10 := BA2.free 10
  have ce := BE2.cell (j := 0) rfl
  have fe := BE2.free 0
  obtain ⟨BA3, k3⟩ := BA2.fill11 (.int .i64 r.kind) (.int .i64 r.birth) (.int .i64 r.prev) (.int .i64 r.id) (.int .i64 r.page) (.int .i64 r.frm) (.slice r.b.p r.b.n r.b.c) (.slice r.a.p r.a.n r.a.c) (.int .i64 r.next) (.slice r.r.p r.r.n r.r.c) (.slice r.d.p r.d.n r.d.c)
  obtain ⟨w3, hw3⟩ : ∃ wF, wF = (((((((((((w2.setCell ⟨w.heap.size, 0, none⟩ (.int .i64 r.kind)).setCell ⟨w.heap.size, 1, none⟩ (.int .i64 r.birth)).setCell ⟨w.heap.size, 2, none⟩ (.int .i64 r.prev)).setCell ⟨w.heap.size, 3, none⟩ (.int .i64 r.id)).setCell ⟨w.heap.size, 4, none⟩ (.int .i64 r.page)).setCell ⟨w.heap.size, 5, none⟩ (.int .i64 r.frm)).setCell ⟨w.heap.size, 6, none⟩ (.slice r.b.p r.b.n r.b.c)).setCell ⟨w.heap.size, 7, none⟩ (.slice r.a.p r.a.n r.a.c)).setCell ⟨w.heap.size, 8, none⟩ (.int .i64 r.next)).setCell ⟨w.heap.size, 9, none⟩ (.slice r.r.p r.r.n r.r.c)).setCell ⟨w.heap.size, 10, none⟩ (.slice r.d.p r.d.n r.d.c)) := ⟨_, rfl⟩
  rw [← hw3] at BA3 k3
  have BE3 := BE2.kept k3 (by simp)
  have BE40 := BE3.set 0 (.int .i64 q)
  obtain ⟨w4, hw4⟩ : ∃ wx, wx = w3.setCell ⟨w.heap.size + 1, 0, none⟩ (.int .i64 q) := ⟨_, rfl⟩
  rw [← hw4] at BE40
  obtain ⟨BE4, k4⟩ := BE40
  have BE4' : Blk w4 (w.heap.size + 1) 49 [.int .i64 q] := BE4
  have BA4 := BA3.kept k4 (by simp)
  have S4 := A.kept (A.kept S2 k3 (fun x hx => by simp at hx; subst hx; exact ⟨hc, nA'⟩)) k4 (fun x hx => by simp at hx; subst hx; exact ⟨by omega, nE'⟩)
  have K4 : Kept F w w4 := (((K1.mono (T := F) (by simp)).trans k2 (fun x hx => .inl hx)).trans k3 (fun x hx => .inr (by simp at hx; omega))).trans k4 (fun x hx => .inr (by simp at hx; omega))
  have FIN := @hideH _ (And.intro hR (And.intro hfit (And.intro hq64 (And.intro S4 (And.intro K4 (show ∀ x ∈ F', x ∈ F ∨ w.heap.size ≤ x from fun x hx => by rcases hF x hx with q | q; exact .inl q; exact .inr (by omega)))))))
  clear hR hfit hq64 S4 K4 hF S2 S1 hS nA nE nA' nE' k2 k3 k4 BA BE BA2 BE2 BA3 BE3 BE4 K1 hlt hen A
  skip
  skip
  go_wp2
  rw [← hw3, ← hw4]
  clear hw3 hw4 a0 a1 a2 a3 a4 a5 a6 a7 a8 a9 a10 f0 f1 f2 f3 f4 f5 f6 f7 f8 f9 f10 ce fe
  have q0 := BA4.cell (j := 0) rfl
  have q1 := BA4.cell (j := 1) rfl
  have q2 := BA4.cell (j := 2) rfl
  have q3 := BA4.cell (j := 3) rfl
  have q4 := BA4.cell (j := 4) rfl
  have q5 := BA4.cell (j := 5) rfl
  have q6 := BA4.cell (j := 6) rfl
  have q7 := BA4.cell (j := 7) rfl
  have q8 := BA4.cell (j := 8) rfl
  have q9 := BA4.cell (j := 9) rfl
  have q10 := BA4.cell (j := 10) rfl
  have qe := BE4'.cell (j := 0) rfl
  refine leaves_cons (f := 27) (args := #[.pointer (some ⟨w.heap.size, 0, none⟩), .pointer (some ⟨w.heap.size + 1, 0, none⟩)]) (by simp) (by simp [go_sem]) ?_
  refine (ask_idle _ _ _).mono ?_
  rintro e u' w8 ⟨rfl, rfl, rfl⟩
  exact ⟨.tuple #[_, .int .i64 q], by (simp [results, Try.results24, go_sem, q0, q1, q2, q3, q4, q5, q6, q7, q8, q9, q10, qe]; try rfl), _, _, _, rfl, FIN.out⟩
end Go.Proofs.Ytinlhojojeabcaa

/-
  OWN WORK (by mkcq2.py). chain: birthOf, isOwn, goTo.
-/
namespace Go.Proofs.Ytinlhojojeabcaa
open Go.RowKit
set_option linter.unusedVariables false
set_option linter.unusedSimpArgs false

set_option maxRecDepth 20000 in
set_option maxHeartbeats 3200000 in
theorem qBirth (r : Lv) (l : Int) (w : World) : Calls Try.prog 25 #[.agg #[.int .i64 r.kind, .int .i64 r.birth, .int .i64 r.prev, .int .i64 r.id, .int .i64 r.page, .int .i64 r.frm, .slice r.b.p r.b.n r.b.c, .slice r.a.p r.a.n r.a.c, .int .i64 r.next, .slice r.r.p r.r.n r.r.c, .slice r.d.p r.d.n r.d.c], .int .i64 l] w fun e w' => e = .returned (.int .i64 (birthOf r.rc l)) ∧ Kept [] w w' := by
  obtain ⟨w1, hw1⟩ : ∃ wx, wx = w.alloc (.cells #[.int .i64 r.kind, .int .i64 r.birth, .int .i64 r.prev, .int .i64 r.id, .int .i64 r.page, .int .i64 r.frm, .slice r.b.p r.b.n r.b.c, .slice r.a.p r.a.n r.a.c, .int .i64 r.next, .slice r.r.p r.r.n r.r.c, .slice r.d.p r.d.n r.d.c] 42) := ⟨_, rfl⟩
  have k1 : Kept [] w w1 := by rw [hw1]; exact (Kept.refl [] w).alloc _
  have B1 : Blk w1 w.heap.size 42 [.int .i64 r.kind, .int .i64 r.birth, .int .i64 r.prev, .int .i64 r.id, .int .i64 r.page, .int .i64 r.frm, .slice r.b.p r.b.n r.b.c, .slice r.a.p r.a.n r.a.c, .int .i64 r.next, .slice r.r.p r.r.n r.r.c, .slice r.d.p r.d.n r.d.c] := by rw [hw1]; exact Blk.new w _ _
  have x0 := B1.cell (j := 0) rfl
  have x1 := B1.cell (j := 1) rfl
  by_cases hk : r.kind = 1
  · have HE := @hideH _ (show birthOf r.rc l = l from if_pos hk)
    have hk' : (r.kind == 1) = true := by simpa using hk
    clear hk
    go_enter Try.func25, Try.ntmps25
    go_upto_region 1 with fail
    rw [← hw1]
    clear hw1
    go_wp2
    go_ret
    exact ⟨by rw [HE.out]; rfl, k1⟩
  · have HE := @hideH _ (show birthOf r.rc l = r.birth from if_neg hk)
    have hk' : (r.kind == 1) = false := by simpa using hk
    clear hk
    go_enter Try.func25, Try.ntmps25
    go_upto_region 1 with fail
    rw [← hw1]
    clear hw1
    go_wp2
    go_ret
    exact ⟨by rw [HE.out]; rfl, k1⟩
set_option maxRecDepth 20000 in
set_option maxHeartbeats 3200000 in
theorem qGoNo {gf : Nat} {lb : Array Value} (g : Nat) (k l B p : Int) (w : World) (hB : Blk w g 60 [.func (.func gf) #[] lb, .int .i64 k, .int .i64 l, .int .i64 B]) (h : p < B ∨ l ≤ p) : Calls Try.prog 23 #[.pointer (some ⟨g, 0, none⟩), .int .i64 p] w fun e w' => e = .returned (.bool false) ∧ w' = w := by
  have x2 := hB.cell (j := 2) rfl
  have x3 := hB.cell (j := 3) rfl
  have hlt := hB.lt
  clear hB
  by_cases c1 : p < B
  · clear h
    go_enter Try.func23, Try.ntmps23
    go_wp2
    go_ret
    exact ⟨rfl, rfl⟩
  · have c2 : l ≤ p := h.resolve_left c1
    clear h
    go_enter Try.func23, Try.ntmps23
    go_wp2
    go_ret
    exact ⟨rfl, rfl⟩
set_option maxRecDepth 20000 in
set_option maxHeartbeats 3200000 in
theorem qGoTo {gf : Nat} {lb : Array Value} (g : Nat) (k l B p : Int) (w : World) (hB : Blk w g 60 [.func (.func gf) #[] lb, .int .i64 k, .int .i64 l, .int .i64 B]) (h1 : ¬ p < B) (h2 : ¬ l ≤ p) : Calls Try.prog 23 #[.pointer (some ⟨g, 0, none⟩), .int .i64 p] w fun e w' => e = .returned (.bool true) ∧ Blk w' g 60 [.func (.func gf) #[] lb, .int .i64 k, .int .i64 p, .int .i64 B] ∧ Kept [g] w w' := by
  have x2 := hB.cell (j := 2) rfl
  have x3 := hB.cell (j := 3) rfl
  have f2 := hB.free 2
  have hlt := hB.lt
  have b0 := hB.set 2 (.int .i64 p)
  obtain ⟨w1, hw1⟩ : ∃ wx, wx = w.setCell ⟨g, 2, none⟩ (.int .i64 p) := ⟨_, rfl⟩
  rw [← hw1] at b0
  have HB := @hideH _ (And.intro (show Blk w1 g 60 [.func (.func gf) #[] lb, .int .i64 k, .int .i64 p, .int .i64 B] from b0.1) b0.2)
  clear b0 hB
  go_enter Try.func23, Try.ntmps23
  go_wp2
  rw [← hw1]
  go_ret
  exact ⟨rfl, HB.out.1, HB.out.2⟩
theorem bl_of {p : Prop} [Decidable p] (b : Bool) (h : b = true ↔ p) : Value.bool b = Value.bool (decide p) := by
  congr 1
  cases b with
  | true => exact (decide_eq_true (h.1 rfl)).symm
  | false => exact (decide_eq_false fun c => nomatch h.2 c).symm
set_option maxRecDepth 20000 in
set_option maxHeartbeats 6400000 in
theorem qIsOwn {gf : Nat} {lb : Array Value} (g : Nat) (k l B : Int) (r : Lv) (w : World) (hB : Blk w g 60 [.func (.func gf) #[] lb, .int .i64 k, .int .i64 l, .int .i64 B]) : Calls Try.prog 26 #[.pointer (some ⟨g, 0, none⟩), .agg #[.int .i64 r.kind, .int .i64 r.birth, .int .i64 r.prev, .int .i64 r.id, .int .i64 r.page, .int .i64 r.frm, .slice r.b.p r.b.n r.b.c, .slice r.a.p r.a.n r.a.c, .int .i64 r.next, .slice r.r.p r.r.n r.r.c, .slice r.d.p r.d.n r.d.c]] w fun e w' => e = .returned (.bool (decide (hangs r.rc l B))) ∧ Kept [] w w' := by
  obtain ⟨w1, hw1⟩ : ∃ wx, wx = w.alloc (.cells #[.int .i64 r.kind, .int .i64 r.birth, .int .i64 r.prev, .int .i64 r.id, .int .i64 r.page, .int .i64 r.frm, .slice r.b.p r.b.n r.b.c, .slice r.a.p r.a.n r.a.c, .int .i64 r.next, .slice r.r.p r.r.n r.r.c, .slice r.d.p r.d.n r.d.c] 42) := ⟨_, rfl⟩
  have k1 : Kept [] w w1 := by rw [hw1]; exact (Kept.refl [] w).alloc _
  have B1 : Blk w1 w.heap.size 42 [.int .i64 r.kind, .int .i64 r.birth, .int .i64 r.prev, .int .i64 r.id, .int .i64 r.page, .int .i64 r.frm, .slice r.b.p r.b.n r.b.c, .slice r.a.p r.a.n r.a.c, .int .i64 r.next, .slice r.r.p r.r.n r.r.c, .slice r.d.p r.d.n r.d.c] := by rw [hw1]; exact Blk.new w _ _
  have hB1 := hB.kept k1 (by simp)
  have x0 := B1.cell (j := 0) rfl
  have x1 := B1.cell (j := 1) rfl
  have y2 := hB1.cell (j := 2) rfl
  have y3 := hB1.cell (j := 3) rfl
  have hlt := hB1.lt
  have hlt0 := hB.lt
  have HK := @hideH _ k1
  clear hB hB1 B1 k1
  obtain ⟨z, hz⟩ : ∃ z, z = decide (hangs r.rc l B) := ⟨_, rfl⟩
  rw [← hz]
  have HZ := @hideH _ hz
  clear hz
  obtain ⟨kd, hkd⟩ : ∃ kd, kd = r.kind := ⟨_, rfl⟩
  obtain ⟨bi, hbi⟩ : ∃ bi, bi = r.birth := ⟨_, rfl⟩
  rw [← hkd] at x0
  rw [← hbi] at x1
  have HD := @hideH _ (show hangs r.rc l B ↔ ((1 ≤ kd ∧ kd ≤ 6) ∧ (kd = 1 → l = B) ∧ (kd ≠ 1 → bi = B ∧ 1 ≤ B ∧ B < l)) by rw [hkd, hbi]; exact Iff.rfl)
  clear hkd hbi
  by_cases c1 : kd = 1
  · subst c1
    by_cases cb : l = B
    · subst cb
      have HT := @hideH _ (show z = true from HZ.out.trans (decide_eq_true (HD.out.2 ⟨⟨by omega, by omega⟩, fun _ => rfl, fun c => absurd rfl c⟩)))
      go_enter Try.func26, Try.ntmps26
      go_upto_region 1 with fail
      rw [← hw1]
      clear hw1
      go_upto_region 3 with fail
      go_quiet (fail)
      go_wp2
      go_ret
      exact ⟨by rw [HT.out]; simp, HK.out.drewN' _⟩
    · have cb' : (l == B) = false := by simpa using cb
      have HT := @hideH _ (show z = false from HZ.out.trans (decide_eq_false fun c => cb ((HD.out.1 c).2.1 rfl)))
      clear cb
      go_enter Try.func26, Try.ntmps26
      go_upto_region 1 with fail
      rw [← hw1]
      clear hw1
      go_upto_region 3 with fail
      go_quiet (fail)
      go_wp2
      go_ret
      exact ⟨by rw [HT.out]; rfl, HK.out.drewN' _⟩
  · have c1' : (kd == 1) = false := by simpa using c1
    by_cases ck : kd = 2 ∨ kd = 3 ∨ kd = 4 ∨ kd = 5 ∨ kd = 6
    case neg =>
      have HT := @hideH _ (show z = false from HZ.out.trans (decide_eq_false fun c => by have := (HD.out.1 c).1; omega))
      have e2 : (kd == 2) = false := by simp; omega
      have e3 : (kd == 3) = false := by simp; omega
      have e4 : (kd == 4) = false := by simp; omega
      have e5 : (kd == 5) = false := by simp; omega
      have e6 : (kd == 6) = false := by simp; omega
      clear ck c1
      go_enter Try.func26, Try.ntmps26
      go_upto_region 1 with fail
      rw [← hw1]
      clear hw1
      go_wp2
      go_ret
      exact ⟨by rw [HT.out]; rfl, HK.out⟩
    case pos =>
      have HCK := @hideH _ (show (1 ≤ kd ∧ kd ≤ 6) ∧ kd ≠ 1 by omega)
      by_cases cb : bi = B
      case neg =>
        have HT := @hideH _ (show z = false from HZ.out.trans (decide_eq_false fun c => cb ((HD.out.1 c).2.2 HCK.out.2).1))
        have cb' : (bi == B) = false := by simpa using cb
        clear cb
        rcases ck with rfl | rfl | rfl | rfl | rfl
        · clear c1 c1'
          go_enter Try.func26, Try.ntmps26
          go_upto_region 1 with fail
          rw [← hw1]
          clear hw1
          go_upto_region 9 with fail
          go_quiet (fail)
          go_wp2
          go_ret
          exact ⟨by rw [HT.out]; first | rfl | simp, HK.out.drewN' _⟩
        · clear c1 c1'
          go_enter Try.func26, Try.ntmps26
          go_upto_region 1 with fail
          rw [← hw1]
          clear hw1
          go_upto_region 9 with fail
          go_quiet (fail)
          go_wp2
          go_ret
          exact ⟨by rw [HT.out]; first | rfl | simp, HK.out.drewN' _⟩
        · clear c1 c1'
          go_enter Try.func26, Try.ntmps26
          go_upto_region 1 with fail
          rw [← hw1]
          clear hw1
          go_upto_region 9 with fail
          go_quiet (fail)
          go_wp2
          go_ret
          exact ⟨by rw [HT.out]; first | rfl | simp, HK.out.drewN' _⟩
        · clear c1 c1'
          go_enter Try.func26, Try.ntmps26
          go_upto_region 1 with fail
          rw [← hw1]
          clear hw1
          go_upto_region 9 with fail
          go_quiet (fail)
          go_wp2
          go_ret
          exact ⟨by rw [HT.out]; first | rfl | simp, HK.out.drewN' _⟩
        · clear c1 c1'
          go_enter Try.func26, Try.ntmps26
          go_upto_region 1 with fail
          rw [← hw1]
          clear hw1
          go_upto_region 9 with fail
          go_quiet (fail)
          go_wp2
          go_ret
          exact ⟨by rw [HT.out]; first | rfl | simp, HK.out.drewN' _⟩
      case pos =>
        by_cases cB : 1 ≤ B
        case neg =>
          have HT := @hideH _ (show z = false from HZ.out.trans (decide_eq_false fun c => cB ((HD.out.1 c).2.2 HCK.out.2).2.1))
          have cB' : decide (1 ≤ B) = false := decide_eq_false cB
          clear cB
          subst cb
          rcases ck with rfl | rfl | rfl | rfl | rfl
          · clear c1 c1'
            go_enter Try.func26, Try.ntmps26
            go_upto_region 1 with fail
            rw [← hw1]
            clear hw1
            go_upto_region 9 with fail
            go_quiet (fail)
            go_wp2
            go_ret
            exact ⟨by rw [HT.out]; first | rfl | simp, HK.out.drewN' _⟩
          · clear c1 c1'
            go_enter Try.func26, Try.ntmps26
            go_upto_region 1 with fail
            rw [← hw1]
            clear hw1
            go_upto_region 9 with fail
            go_quiet (fail)
            go_wp2
            go_ret
            exact ⟨by rw [HT.out]; first | rfl | simp, HK.out.drewN' _⟩
          · clear c1 c1'
            go_enter Try.func26, Try.ntmps26
            go_upto_region 1 with fail
            rw [← hw1]
            clear hw1
            go_upto_region 9 with fail
            go_quiet (fail)
            go_wp2
            go_ret
            exact ⟨by rw [HT.out]; first | rfl | simp, HK.out.drewN' _⟩
          · clear c1 c1'
            go_enter Try.func26, Try.ntmps26
            go_upto_region 1 with fail
            rw [← hw1]
            clear hw1
            go_upto_region 9 with fail
            go_quiet (fail)
            go_wp2
            go_ret
            exact ⟨by rw [HT.out]; first | rfl | simp, HK.out.drewN' _⟩
          · clear c1 c1'
            go_enter Try.func26, Try.ntmps26
            go_upto_region 1 with fail
            rw [← hw1]
            clear hw1
            go_upto_region 9 with fail
            go_quiet (fail)
            go_wp2
            go_ret
            exact ⟨by rw [HT.out]; first | rfl | simp, HK.out.drewN' _⟩
        case pos =>
          have cB' : decide (1 ≤ B) = true := decide_eq_true cB
          by_cases cl : B < l
          case neg =>
            have HT := @hideH _ (show z = false from HZ.out.trans (decide_eq_false fun c => cl ((HD.out.1 c).2.2 HCK.out.2).2.2))
            have cl' : decide (B < l) = false := decide_eq_false cl
            clear cB cl
            subst cb
            rcases ck with rfl | rfl | rfl | rfl | rfl
            · clear c1 c1'
              go_enter Try.func26, Try.ntmps26
              go_upto_region 1 with fail
              rw [← hw1]
              clear hw1
              go_upto_region 9 with fail
              go_quiet (fail)
              go_wp2
              go_ret
              exact ⟨by rw [HT.out]; first | rfl | simp, HK.out.drewN' _⟩
            · clear c1 c1'
              go_enter Try.func26, Try.ntmps26
              go_upto_region 1 with fail
              rw [← hw1]
              clear hw1
              go_upto_region 9 with fail
              go_quiet (fail)
              go_wp2
              go_ret
              exact ⟨by rw [HT.out]; first | rfl | simp, HK.out.drewN' _⟩
            · clear c1 c1'
              go_enter Try.func26, Try.ntmps26
              go_upto_region 1 with fail
              rw [← hw1]
              clear hw1
              go_upto_region 9 with fail
              go_quiet (fail)
              go_wp2
              go_ret
              exact ⟨by rw [HT.out]; first | rfl | simp, HK.out.drewN' _⟩
            · clear c1 c1'
              go_enter Try.func26, Try.ntmps26
              go_upto_region 1 with fail
              rw [← hw1]
              clear hw1
              go_upto_region 9 with fail
              go_quiet (fail)
              go_wp2
              go_ret
              exact ⟨by rw [HT.out]; first | rfl | simp, HK.out.drewN' _⟩
            · clear c1 c1'
              go_enter Try.func26, Try.ntmps26
              go_upto_region 1 with fail
              rw [← hw1]
              clear hw1
              go_upto_region 9 with fail
              go_quiet (fail)
              go_wp2
              go_ret
              exact ⟨by rw [HT.out]; first | rfl | simp, HK.out.drewN' _⟩
          case pos =>
            have HT := @hideH _ (show z = true from HZ.out.trans (decide_eq_true (HD.out.2 ⟨HCK.out.1, fun c => absurd c HCK.out.2, fun _ => ⟨cb, cB, cl⟩⟩)))
            have cl' : decide (B < l) = true := decide_eq_true cl
            clear cB cl
            subst cb
            rcases ck with rfl | rfl | rfl | rfl | rfl
            · clear c1 c1'
              go_enter Try.func26, Try.ntmps26
              go_upto_region 1 with fail
              rw [← hw1]
              clear hw1
              go_upto_region 9 with fail
              go_quiet (fail)
              go_wp2
              go_ret
              exact ⟨by rw [HT.out]; first | rfl | simp, HK.out.drewN' _⟩
            · clear c1 c1'
              go_enter Try.func26, Try.ntmps26
              go_upto_region 1 with fail
              rw [← hw1]
              clear hw1
              go_upto_region 9 with fail
              go_quiet (fail)
              go_wp2
              go_ret
              exact ⟨by rw [HT.out]; first | rfl | simp, HK.out.drewN' _⟩
            · clear c1 c1'
              go_enter Try.func26, Try.ntmps26
              go_upto_region 1 with fail
              rw [← hw1]
              clear hw1
              go_upto_region 9 with fail
              go_quiet (fail)
              go_wp2
              go_ret
              exact ⟨by rw [HT.out]; first | rfl | simp, HK.out.drewN' _⟩
            · clear c1 c1'
              go_enter Try.func26, Try.ntmps26
              go_upto_region 1 with fail
              rw [← hw1]
              clear hw1
              go_upto_region 9 with fail
              go_quiet (fail)
              go_wp2
              go_ret
              exact ⟨by rw [HT.out]; first | rfl | simp, HK.out.drewN' _⟩
            · clear c1 c1'
              go_enter Try.func26, Try.ntmps26
              go_upto_region 1 with fail
              rw [← hw1]
              clear hw1
              go_upto_region 9 with fail
              go_quiet (fail)
              go_wp2
              go_ret
              exact ⟨by rw [HT.out]; first | rfl | simp, HK.out.drewN' _⟩
end Go.Proofs.Ytinlhojojeabcaa

/-
  OWN WORK. As Late: the last operation may wait for a read by others between them.
-/
namespace Go.Proofs.Ytinlhojojeabcaa
open Go.RowKit
set_option linter.unusedVariables false

section
variable {P : Program} {ops : Array Oper} {Q : Exit → Act → World → Prop} {md : Region.Mode} {S : World → Prop} {z : Nat}
/-- each of C waits for number i, or for another of C -/
def guards (md : Region.Mode) (ops : Array Oper) (C : List Nat) (i : Nat) : Bool := C.all fun j => match ops[j]? with
  | some o => o.after.any fun e => Region.binds md e && (e.on == i || C.contains e.on)
  | none => false
theorem guards_ready {C : List Nat} {i j : Nat} {listed : Array Bool} (h : guards md ops C i = true) (hi : listed.getD i false = false) (hC : ∀ k ∈ C, listed.getD k false = false) (hj : j ∈ Region.ready md ops listed) : j ∉ C := fun hm => by
  obtain ⟨-, o, ho, hall⟩ := mem_ready.1 hj
  have q := List.all_eq_true.1 h j hm
  rw [ho] at q
  obtain ⟨k, hk, he⟩ := Array.any_eq_true.1 q
  simp at he
  have := hall (o.after[k]) (Array.getElem_mem hk) he.1
  rcases he.2 with e | e
  · rw [e, hi] at this; cases this
  · rw [hC _ e] at this; cases this
theorem wpAnyZ_firstC {i : Nat} {oi : Oper} {v : Value} {C : List Nat} (hi : ops[i]? = some oi) (hsel : ∀ (j : Nat) (o : Oper) cs b, ops[j]? = some o → o.op ≠ .select cs b)
    (hQ : ∀ c a w, Q (.panic c) (a.put oi.dst v) w → Q (.panic c) a w) (hg : guards md ops C i = true) (hz : z ∈ C) :
    ∀ (n : Nat) (listed : Array Bool) (a : Act) (w : World),
      (∀ k ∈ C, listed.getD k false = false) →
      (∀ j oj, ops[j]? = some oj → j ≠ i → listed.getD j true = false → (∀ e ∈ oj.after, Region.binds md e = true → e.on ≠ i) → oi.apart ops oj = true) →
      i ∈ Region.ready md ops listed → YieldsIf P ops S oi v a → S w →
      wpAnyZ P md ops Q S z n (listed.setIfInBounds i true) (a.put oi.dst v) w → wpAnyZ P md ops Q S z (n + 1) listed a w := by
  intro n
  induction n with
  | zero =>
    intro listed a w _ _ hr hy hS H
    refine ⟨fun h => (by rw [h] at hr; cases hr), fun j hj => ?_⟩
    by_cases e : j = i
    · subst e; exact hy.wpOp hi hS ⟨fun _ => hS, H⟩
    · have := ready_mono hj e
      rw [H.1] at this
      cases this
  | succ n ih =>
    intro listed a w hC hfree hr hy hS H
    have hun := (mem_ready.1 hr).1
    have hunf : listed.getD i false = false := by
      rcases Nat.lt_or_ge i listed.size with c | c
      · simp [c] at hun ⊢; exact hun
      · simp [c]
    refine ⟨fun h => (by rw [h] at hr; cases hr), fun j hj => ?_⟩
    by_cases e : j = i
    · subst e; exact hy.wpOp hi hS ⟨fun _ => hS, H⟩
    · have hjC := guards_ready hg hunf hC hj
      have hjz : j ≠ z := fun c => hjC (c ▸ hz)
      obtain ⟨hju, oj, hoj, hall⟩ := mem_ready.1 hj
      have hno : ∀ e ∈ oj.after, Region.binds md e = true → e.on ≠ i := fun e he hb c => by
        have := hall e he hb
        rw [c, hunf] at this
        cases this
      have h2 := wpOp_putIf hoj (hfree j oj hoj e hju hno) (fun cs b => hsel i oi cs b hi) (fun cs b => hsel j oj cs b hoj) hQ hy (H.2 j (ready_mono hj e))
      have hfree2 : ∀ k ok, ops[k]? = some ok → k ≠ i → (listed.setIfInBounds j true).getD k true = false → (∀ e ∈ ok.after, Region.binds md e = true → e.on ≠ i) → oi.apart ops ok = true := fun k ok hk hki hkj hnk => by
        by_cases c : j = k
        · subst c; exact hfree j ok hk hki hju hnk
        · exact hfree k ok hk hki (by rwa [getD_set_ne true c] at hkj) hnk
      have hC2 : ∀ k ∈ C, (listed.setIfInBounds j true).getD k false = false := fun k hk => by
        have hne : j ≠ k := fun c => hjC (by rw [c]; exact hk)
        rw [getD_set_ne false hne]
        exact hC k hk
      refine wpOp_mono (fun a' w' h3 => ⟨h3.2.1, ih (listed.setIfInBounds j true) a' w' hC2 hfree2 (ready_mono hr (Ne.symm e)) h3.1 (h3.2.1 hjz) ?_⟩) h2
      rw [Array.setIfInBounds_comm _ _ e]
      exact h3.2.2
/-- take number i first -/
theorem wpAnyZ_takeC (i : Nat) (C : List Nat) {oi : Oper} {v : Value} {n : Nat} {listed : Array Bool} {a : Act} {w : World} (hi : ops[i]? = some oi)
    (hs : Region.noSelect ops = true) (hg : guards md ops C i = true) (hz : C.contains z = true) (hl : C.all (fun k => !listed.getD k false) = true) (hf : Region.free md ops listed i = true) (hr : (Region.ready md ops listed).contains i = true)
    (hQ : ∀ c a w, Q (.panic c) (a.put oi.dst v) w → Q (.panic c) a w) (hw : Region.wanted oi (yielded ops a.tmps) = true) (hy : ∀ w, S w → (execOp a.eval oi).run P w = .ok (.value v) w) (hS : S w)
    (h : wpAnyZ P md ops Q S z n (listed.setIfInBounds i true) (a.put oi.dst v) w) : wpAnyZ P md ops Q S z (n + 1) listed a w :=
  wpAnyZ_firstC hi (Region.noSelect_spec hs) hQ hg (by simpa using hz) n listed a w (fun k hk => by simpa using List.all_eq_true.1 hl k hk) (Region.free_spec hi hf) (by simpa using hr) (.inl ⟨hw, hy⟩) hS h
end
end Go.Proofs.Ytinlhojojeabcaa

/-
  OWN WORK. As Late: two operations that may come up; reads taken behind the last one.
-/
namespace Go.Proofs.Ytinlhojojeabcaa
open Go.RowKit
set_option linter.unusedVariables false

section
variable {P : Program} {ops : Array Oper} {Q : Exit → Act → World → Prop} {md : Region.Mode} {S : World → Prop} {z : Nat}
theorem wpAnyZ_firstD {i : Nat} {oi : Oper} {v : Value} (hi : ops[i]? = some oi) (hsel : ∀ (j : Nat) (o : Oper) cs b, ops[j]? = some o → o.op ≠ .select cs b)
    (hQ : ∀ c a w, Q (.panic c) (a.put oi.dst v) w → Q (.panic c) a w) :
    ∀ (n : Nat) (listed : Array Bool) (a : Act) (w : World),
      listed.getD z true = true →
      (∀ j oj, ops[j]? = some oj → j ≠ i → listed.getD j true = false → (∀ e ∈ oj.after, Region.binds md e = true → e.on ≠ i) → oi.apart ops oj = true) →
      i ∈ Region.ready md ops listed → YieldsIf P ops S oi v a → S w →
      wpAnyZ P md ops Q S z n (listed.setIfInBounds i true) (a.put oi.dst v) w → wpAnyZ P md ops Q S z (n + 1) listed a w := by
  intro n
  induction n with
  | zero =>
    intro listed a w _ _ hr hy hS H
    refine ⟨fun h => (by rw [h] at hr; cases hr), fun j hj => ?_⟩
    by_cases e : j = i
    · subst e; exact hy.wpOp hi hS ⟨fun _ => hS, H⟩
    · have := ready_mono hj e
      rw [H.1] at this
      cases this
  | succ n ih =>
    intro listed a w hz hfree hr hy hS H
    have hun := (mem_ready.1 hr).1
    have hunf : listed.getD i false = false := by
      rcases Nat.lt_or_ge i listed.size with c | c
      · simp [c] at hun ⊢; exact hun
      · simp [c]
    refine ⟨fun h => (by rw [h] at hr; cases hr), fun j hj => ?_⟩
    by_cases e : j = i
    · subst e; exact hy.wpOp hi hS ⟨fun _ => hS, H⟩
    · obtain ⟨hju, oj, hoj, hall⟩ := mem_ready.1 hj
      have hjz : j ≠ z := fun c => by rw [c, hz] at hju; cases hju
      have hno : ∀ e ∈ oj.after, Region.binds md e = true → e.on ≠ i := fun e he hb c => by
        have := hall e he hb
        rw [c, hunf] at this
        cases this
      have h2 := wpOp_putIf hoj (hfree j oj hoj e hju hno) (fun cs b => hsel i oi cs b hi) (fun cs b => hsel j oj cs b hoj) hQ hy (H.2 j (ready_mono hj e))
      have hfree2 : ∀ k ok, ops[k]? = some ok → k ≠ i → (listed.setIfInBounds j true).getD k true = false → (∀ e ∈ ok.after, Region.binds md e = true → e.on ≠ i) → oi.apart ops ok = true := fun k ok hk hki hkj hnk => by
        by_cases c : j = k
        · subst c; exact hfree j ok hk hki hju hnk
        · exact hfree k ok hk hki (by rwa [getD_set_ne true c] at hkj) hnk
      refine wpOp_mono (fun a' w' h3 => ⟨h3.2.1, ih (listed.setIfInBounds j true) a' w' (by rw [getD_set_ne true hjz]; exact hz) hfree2 (ready_mono hr (Ne.symm e)) h3.1 (h3.2.1 hjz) ?_⟩) h2
      rw [Array.setIfInBounds_comm _ _ e]
      exact h3.2.2
/-- take number i first, where z is done -/
theorem wpAnyZ_takeD (i : Nat) {oi : Oper} {v : Value} {n : Nat} {listed : Array Bool} {a : Act} {w : World} (hi : ops[i]? = some oi)
    (hs : Region.noSelect ops = true) (hz : listed.getD z true = true) (hf : Region.free md ops listed i = true) (hr : (Region.ready md ops listed).contains i = true)
    (hQ : ∀ c a w, Q (.panic c) (a.put oi.dst v) w → Q (.panic c) a w) (hw : Region.wanted oi (yielded ops a.tmps) = true) (hy : ∀ w, S w → (execOp a.eval oi).run P w = .ok (.value v) w) (hS : S w)
    (h : wpAnyZ P md ops Q S z n (listed.setIfInBounds i true) (a.put oi.dst v) w) : wpAnyZ P md ops Q S z (n + 1) listed a w :=
  wpAnyZ_firstD hi (Region.noSelect_spec hs) hQ n listed a w hz (Region.free_spec hi hf) (by simpa using hr) (.inl ⟨hw, hy⟩) hS h
/-- only numbers i and j may come up -/
theorem wpAnyZ_two (i j : Nat) {oi oj : Oper} {n : Nat} {listed : Array Bool} {a : Act} {w : World} (hi : ops[i]? = some oi) (hj : ops[j]? = some oj) (hr : Region.ready md ops listed = [i, j])
    (h1 : ∀ K : Act → World → Prop, (∀ a' w', (i ≠ z → S w') → wpAnyZ P md ops Q S z n (listed.setIfInBounds i true) a' w' → K a' w') → if Region.wanted oi (yielded ops a.tmps) = true then Oper.wp P oi a w K Q else K (a.put oi.dst undef) w)
    (h2 : ∀ K : Act → World → Prop, (∀ a' w', (j ≠ z → S w') → wpAnyZ P md ops Q S z n (listed.setIfInBounds j true) a' w' → K a' w') → if Region.wanted oj (yielded ops a.tmps) = true then Oper.wp P oj a w K Q else K (a.put oj.dst undef) w) : wpAnyZ P md ops Q S z (n + 1) listed a w := by
  refine ⟨fun c => absurd (hr.symm.trans c) (by simp), fun k hk => ?_⟩
  rw [hr] at hk
  simp at hk
  rcases hk with rfl | rfl
  · exact wpOp_step hi fun K hK => h1 K fun a' w' q1 q2 => hK a' w' ⟨q1, q2⟩
  · exact wpOp_step hj fun K hK => h2 K fun a' w' q1 q2 => hK a' w' ⟨q1, q2⟩
end
end Go.Proofs.Ytinlhojojeabcaa

