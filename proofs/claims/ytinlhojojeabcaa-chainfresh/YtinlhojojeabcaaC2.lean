import Derived.Deep.Slices
import Derived.Test.YtinlhojojeabcaaRows
import Derived.Test.YtinlhojojeabcaaC1
/-
  OWN WORK (by mkch6.py). Layer 12: the law's book, known.
-/
namespace Go.Proofs.Ytinlhojojeabcaa
open Go.RowKit
set_option linter.unusedVariables false
set_option linter.unusedSimpArgs false

def flatL : List Ln → List Value
  | [] => []
  | l :: ls => l.cells ++ flatL ls
theorem Ln.cells_length (l : Ln) : l.cells.length = 12 := rfl
theorem flatL_length : ∀ ls : List Ln, (flatL ls).length = ls.length * 12
  | [] => rfl
  | l :: ls => by rw [flatL, List.length_append, l.cells_length, flatL_length ls, List.length_cons]; omega
theorem flatL_at : ∀ (ls : List Ln) (i : Nat) (l : Ln) (j : Nat) (u : Value), ls[i]? = some l → l.cells[j]? = some u → (flatL ls)[i * 12 + j]? = some u
  | [], i, l, j, u, h, _ => by simp at h
  | m :: ls, 0, l, j, u, h, hj => by
    simp at h
    subst h
    rw [flatL, List.getElem?_append_left (by have := (List.getElem?_eq_some_iff.1 hj).1; omega)]
    rw [Nat.zero_mul, Nat.zero_add]
    exact hj
  | m :: ls, i + 1, l, j, u, h, hj => by
    rw [flatL, List.getElem?_append_right (by rw [m.cells_length]; omega), m.cells_length, show (i + 1) * 12 + j - 12 = i * 12 + j by omega]
    exact flatL_at ls i l j u (by simpa using h) hj
theorem flatL_append (a b : List Ln) : flatL (a ++ b) = flatL a ++ flatL b := by
  induction a with
  | nil => rfl
  | cons l a ih => rw [List.cons_append, flatL, ih, flatL, List.append_assoc]
theorem Lines.new (w : World) (t : TypeId) (ls : List Ln) (cs : Array Value) (hcs : cs = (flatL ls).toArray) (hl : ls.length ≤ maxLen) (hf : ∀ l ∈ ls, l.fits) : Lines (w.alloc (.cells cs t)) (.slice (some ⟨w.heap.size, 0, none⟩) ls.length ls.length) ls := by
  subst hcs
  refine ⟨hf, _, _, rfl, Nat.le_refl _, hl, fun _ => ⟨_, _, rfl, by rw [World.size_alloc]; omega, fun i l hi j u hj => ?_⟩⟩
  have q := (Blk.new w t (flatL ls)).cell (flatL_at ls i l j u hi hj)
  rw [Nat.zero_add]
  exact q
def recOf (kind birth prev id next : Int) : Lv := ⟨kind, birth, prev, id, 0, 0, .nil, .nil, next, .nil, .nil⟩
def bookL : List Ln := [⟨1, recOf 1 0 0 1 0⟩, ⟨35, recOf 2 1 1 0 0⟩, ⟨75, recOf 1 0 0 2 0⟩, ⟨109, recOf 2 1 35 0 0⟩, ⟨149, recOf 3 1 109 0 35⟩]
theorem bookL_fits : ∀ l ∈ bookL, l.fits := by
  intro l hl
  simp only [bookL, List.mem_cons, List.not_mem_nil, or_false] at hl
  rcases hl with rfl | rfl | rfl | rfl | rfl <;> simp [Ln.fits, Lv.fits, I64, recOf]
theorem book_any (w : World) : Calls Try.prog 16 #[] w fun e w' => ∃ v, e = .returned v ∧ Lines w' v bookL ∧ Kept [] w w' := by
  go_enter Try.func16, Try.ntmps16
  go_wp2
  go_ret
  exact ⟨_, rfl, Lines.new w _ bookL _ rfl (by simp [bookL, maxLen]) bookL_fits, (Kept.refl [] w).alloc _⟩
theorem book_back : backL (rdr bookL false) 149 = ([149, 109, 35, 1], 0, [149, 109, 35, 1]) := by decide +kernel
theorem book_undo : undoL (rdr bookL false) 109 = ([109, 35], 0, [109, 35, 1]) := by decide +kernel
theorem book_no : (undoL (rdr bookL false) 149).2.1 = 120 := by decide +kernel
set_option maxRecDepth 20000 in
set_option maxHeartbeats 3200000 in
theorem known_any (O : ChOps) (w : World) : Calls Try.prog 8 #[] w fun e w' => e = .returned (.bool true) ∧ Kept [] w w' := by
  go_enter Try.func8, Try.ntmps8
  go_wp2_with fail
  refine (book_any w).mono ?_
  rintro e w1 ⟨vb1, rfl, lb1, kb1⟩
  obtain ⟨pb1, cb1, hvb1, -⟩ := lb1.shape
  subst hvb1
  go_wp2_with fail
  refine (asking_any O _ bookL false false 149 w1 lb1 ⟨by omega, by omega⟩).mono ?_
  rintro e w2 ⟨a1, p1, rfl, na1, np1, -, ka1⟩
  rw [show askL false (rdr bookL false) 149 = backL (rdr bookL false) 149 from rfl] at na1 np1 ⊢
  obtain ⟨pa1, ca1, hva1⟩ := na1.shape
  subst hva1
  obtain ⟨pp1, cp1, hvp1⟩ := np1.shape
  subst hvp1
  have K1 := kb1.then ka1
  clear kb1 ka1 lb1
  rw [book_back] at na1 np1 ⊢
  clear np1
  go_wp2_with fail
  refine (book_any w2).mono ?_
  rintro e w3 ⟨vb2, rfl, lb2, kb2⟩
  obtain ⟨pb2, cb2, hvb2, -⟩ := lb2.shape
  subst hvb2
  go_wp2_with fail
  refine (asking_any O _ bookL false true 109 w3 lb2 ⟨by omega, by omega⟩).mono ?_
  rintro e w4 ⟨a2, p2, rfl, na2, np2, -, ka2⟩
  rw [show askL true (rdr bookL false) 109 = undoL (rdr bookL false) 109 from rfl] at na2 np2 ⊢
  obtain ⟨pa2, ca2, hva2⟩ := na2.shape
  subst hva2
  obtain ⟨pp2, cp2, hvp2⟩ := np2.shape
  subst hvp2
  have K2 := kb2.then ka2
  clear kb2 ka2 lb2
  rw [book_undo] at na2 np2 ⊢
  clear np2
  replace na1 := na1.kept K2 (by simp)
  replace K2 := K1.then K2
  go_wp2_with fail
  refine (book_any w4).mono ?_
  rintro e w5 ⟨vb3, rfl, lb3, kb3⟩
  obtain ⟨pb3, cb3, hvb3, -⟩ := lb3.shape
  subst hvb3
  go_wp2_with fail
  refine (asking_any O _ bookL false true 149 w5 lb3 ⟨by omega, by omega⟩).mono ?_
  rintro e w6 ⟨a3, p3, rfl, na3, np3, -, ka3⟩
  rw [show askL true (rdr bookL false) 149 = undoL (rdr bookL false) 149 from rfl] at na3 np3 ⊢
  obtain ⟨pa3, ca3, hva3⟩ := na3.shape
  subst hva3
  obtain ⟨pp3, cp3, hvp3⟩ := np3.shape
  subst hvp3
  have K3 := kb3.then ka3
  clear kb3 ka3 lb3
  rw [book_no]
  replace na1 := na1.kept K3 (by simp)
  replace na2 := na2.kept K3 (by simp)
  replace K3 := K2.then K3
  clear np3 na3 K1 K2
  obtain ⟨w7, hw7⟩ : ∃ wx, wx = w6.alloc (.cells #[.int .i64 149, .int .i64 109, .int .i64 35, .int .i64 1] 3) := ⟨_, rfl⟩
  have kx : Kept [] w6 w7 := by rw [hw7]; exact (Kept.refl [] w6).alloc _
  have nx : Ns w7 w6.heap.size (.slice (some ⟨w6.heap.size, 0, none⟩) 4 4) [149, 109, 35, 1] := by rw [hw7]; exact Ns.lit w6 _ [149, 109, 35, 1] _ rfl (by simp [maxLen])
  go_wp2_with fail
  rw [← hw7]
  clear hw7
  refine (same_eq _ _ _ _ _ w7 (na1.kept kx (by simp)) nx).mono ?_
  rintro e w8 ⟨rfl, k8⟩
  obtain ⟨w9, hw9⟩ : ∃ wx, wx = w8.alloc (.cells #[.int .i64 109, .int .i64 35] 3) := ⟨_, rfl⟩
  have ky : Kept [] w8 w9 := by rw [hw9]; exact (Kept.refl [] w8).alloc _
  have ny : Ns w9 w8.heap.size (.slice (some ⟨w8.heap.size, 0, none⟩) 2 2) [109, 35] := by rw [hw9]; exact Ns.lit w8 _ [109, 35] _ rfl (by simp [maxLen])
  go_wp2_with fail
  rw [← hw9]
  clear hw9
  refine (same_eq _ _ _ _ _ w9 (na2.kept ((kx.then k8).then ky) (by simp)) ny).mono ?_
  rintro e w10 ⟨rfl, k10⟩
  have KE := @hideH _ ((((K3.then kx).then k8).then ky).then k10)
  clear K3 kx k8 ky k10 nx ny na1 na2
  go_wp2
  go_ret
  exact ⟨rfl, KE.out⟩
end Go.Proofs.Ytinlhojojeabcaa

/-
  OWN WORK (by mkch1.py). Layer 12: the document's third step.
-/
namespace Go.Proofs.Ytinlhojojeabcaa
open Go.RowKit
set_option linter.unusedVariables false
set_option linter.unusedSimpArgs false

def hangE (r : Rc) (l b : Int) : Int := if hangs r l b then 0 else 120
theorem hangE_kind {r : Rc} {l b : Int} (h : ¬ kindOk r.kind) : hangE r l b = 120 := if_neg fun q => h q.1
theorem hangE_begin {r : Rc} {l b : Int} (h : r.kind = 1) (h2 : l = b) : hangE r l b = 0 := if_pos ⟨⟨by omega, by omega⟩, fun _ => h2, fun c => absurd h c⟩
theorem hangE_begin_no {r : Rc} {l b : Int} (h : r.kind = 1) (h2 : l ≠ b) : hangE r l b = 120 := if_neg fun q => h2 (q.2.1 h)
theorem hangE_no {r : Rc} {l b : Int} (h : r.kind ≠ 1) (h2 : ¬ (r.birth = b ∧ 1 ≤ b ∧ b < l)) : hangE r l b = 120 := if_neg fun q => h2 (q.2.2 h)
theorem hangE_yes {r : Rc} {l b : Int} (h : r.kind ≠ 1) (h0 : kindOk r.kind) (h2 : r.birth = b ∧ 1 ≤ b ∧ b < l) : hangE r l b = 0 := if_pos ⟨h0, fun c => absurd c h, fun _ => h2⟩
theorem hangE_two (r : Rc) (l b : Int) : hangE r l b = 0 ∧ hangs r l b ∨ hangE r l b = 120 ∧ ¬ hangs r l b := by
  unfold hangE
  by_cases c : hangs r l b
  · exact .inl ⟨if_pos c, c⟩
  · exact .inr ⟨if_neg c, c⟩
theorem backStep_hang {r : Rc} {l b : Int} (h : ¬ hangs r l b) : backStep r l b = none := by unfold backStep; rw [if_pos h]
theorem backStep_begin {r : Rc} {l b : Int} (h : hangs r l b) (hk : r.kind = 1) : backStep r l b = some none := by unfold backStep; rw [if_neg (not_not_intro h), if_pos hk]
theorem backStep_prev {r : Rc} {l b : Int} (hk : r.kind ≠ 1) (hp : r.prev < b ∨ l ≤ r.prev) : backStep r l b = none := by
  unfold backStep
  split
  · rfl
  · first | rfl | rw [if_neg hk, if_pos hp]
theorem backStep_go {r : Rc} {l b : Int} (h : hangs r l b) (hk : r.kind ≠ 1) (h1 : b ≤ r.prev) (h2 : r.prev < l) : backStep r l b = some (some r.prev) := by unfold backStep; rw [if_neg (not_not_intro h), if_neg hk, if_neg (by omega)]
theorem undoStep_hang {r : Rc} {l b : Int} {m : Bool} (h : ¬ hangs r l b) : undoStep r l b m = none := by unfold undoStep; rw [if_pos h]
theorem undoStep_must {r : Rc} {l b : Int} (h : r.kind ≠ 2) : undoStep r l b true = none := by
  unfold undoStep
  split
  · rfl
  · rw [if_pos ⟨rfl, h⟩]
theorem undoStep_begin {r : Rc} {l b : Int} (h : hangs r l b) (hk : r.kind = 1) : undoStep r l b false = some none := by unfold undoStep; rw [if_neg (not_not_intro h), if_neg (by simp), if_pos hk]
theorem undoStep_end {r : Rc} {l b : Int} (h : hangs r l b) (hk : r.kind = 3) (hn : r.next = 0) : undoStep r l b false = some none := by unfold undoStep; rw [if_neg (not_not_intro h), if_neg (by simp), if_neg (by omega), if_pos hk, if_pos hn]
theorem undoStep_next {r : Rc} {l b : Int} {m : Bool} (hk : r.kind = 3) (hn : r.next ≠ 0) (hp : r.next < b ∨ l ≤ r.next) : undoStep r l b m = none := by
  unfold undoStep
  split
  · rfl
  · split
    · rfl
    · simp [hk, hn, hp]
theorem undoStep_gonext {r : Rc} {l b : Int} (h : hangs r l b) (hk : r.kind = 3) (hn : r.next ≠ 0) (h1 : b ≤ r.next) (h2 : r.next < l) : undoStep r l b false = some (some (r.next, true)) := by unfold undoStep; rw [if_neg (not_not_intro h), if_neg (by simp), if_neg (by omega), if_pos hk, if_neg hn, if_neg (by omega)]
theorem undoStep_prev {r : Rc} {l b : Int} {m : Bool} (hk : r.kind ≠ 1) (hk3 : r.kind ≠ 3) (hp : r.prev < b ∨ l ≤ r.prev) : undoStep r l b m = none := by
  unfold undoStep
  split
  · rfl
  · split
    · rfl
    · first | rfl | rw [if_neg hk, if_neg hk3, if_pos hp]
theorem undoStep_go {r : Rc} {l b : Int} {m : Bool} (h : hangs r l b) (hm : m = true → r.kind = 2) (hk : r.kind ≠ 1) (hk3 : r.kind ≠ 3) (h1 : b ≤ r.prev) (h2 : r.prev < l) : undoStep r l b m = some (some (r.prev, false)) := by unfold undoStep; rw [if_neg (not_not_intro h), if_neg (fun q => q.2 (hm q.1)), if_neg hk, if_neg hk3, if_neg (by omega)]
theorem born_true {r : Rc} {l b : Int} (h : r.kind = 1) : bornAt true b r l = l := by unfold bornAt birthOf; rw [if_pos rfl, if_pos h]
theorem born_first {r : Rc} {l b : Int} (h : r.kind ≠ 1) : bornAt true b r l = r.birth := by unfold bornAt birthOf; rw [if_pos rfl, if_neg h]
theorem born_false {r : Rc} {l b : Int} : bornAt false b r l = b := rfl
set_option maxRecDepth 20000 in
set_option maxHeartbeats 3200000 in
theorem rChained (r : Lv) (l b : Int) (f : Bool) (w : World) : Calls Try.prog 21 #[.agg #[.int .i64 r.kind, .int .i64 r.birth, .int .i64 r.prev, .int .i64 r.id, .int .i64 r.page, .int .i64 r.frm, .slice r.b.p r.b.n r.b.c, .slice r.a.p r.a.n r.a.c, .int .i64 r.next, .slice r.r.p r.r.n r.r.c, .slice r.d.p r.d.n r.d.c], .int .i64 l, .int .i64 b, .bool f] w fun e w' => e = .returned (.tuple #[.int .i64 (hangE r.rc l (bornAt f b r.rc l)), .int .i64 (bornAt f b r.rc l)]) ∧ Kept [] w w' := by
  obtain ⟨kd, hkd⟩ : ∃ k, k = r.rc.kind := ⟨_, rfl⟩
  obtain ⟨bi, hbi⟩ : ∃ k, k = r.rc.birth := ⟨_, rfl⟩
  obtain ⟨rc, hrc⟩ : ∃ k, k = r.rc := ⟨_, rfl⟩
  rw [show r.kind = kd from hkd.symm, show r.birth = bi from hbi.symm]
  rw [← hrc] at hkd hbi ⊢
  have HKD := @hideH _ hkd
  have HBI := @hideH _ hbi
  clear hrc hkd hbi
  obtain ⟨w1, hw1⟩ : ∃ wx, wx = w.alloc (.cells #[.int .i64 kd, .int .i64 bi, .int .i64 r.prev, .int .i64 r.id, .int .i64 r.page, .int .i64 r.frm, .slice r.b.p r.b.n r.b.c, .slice r.a.p r.a.n r.a.c, .int .i64 r.next, .slice r.r.p r.r.n r.r.c, .slice r.d.p r.d.n r.d.c] 42) := ⟨_, rfl⟩
  have k1 : Kept [] w w1 := by rw [hw1]; exact (Kept.refl [] w).alloc _
  have B1 : Blk w1 w.heap.size 42 [.int .i64 kd, .int .i64 bi, .int .i64 r.prev, .int .i64 r.id, .int .i64 r.page, .int .i64 r.frm, .slice r.b.p r.b.n r.b.c, .slice r.a.p r.a.n r.a.c, .int .i64 r.next, .slice r.r.p r.r.n r.r.c, .slice r.d.p r.d.n r.d.c] := by rw [hw1]; exact Blk.new w _ _
  have c0 := B1.cell (j := 0) rfl
  have c1 := B1.cell (j := 1) rfl
  have KE := @hideH _ k1
  clear B1 k1
  obtain ⟨B, hB⟩ : ∃ B, B = bornAt f b rc l := ⟨_, rfl⟩
  rw [← hB]
  obtain ⟨E, hE⟩ : ∃ E, E = hangE rc l B := ⟨_, rfl⟩
  rw [← hE]
  have HB := @hideH _ hB
  have HE := @hideH _ hE
  clear hB hE
  go_enter Try.func21, Try.ntmps21
  go_upto_region 1 with fail
  rw [← hw1]
  clear hw1
  go_upto_if 10 with fail
  go_cut [2] (fun v wx => v = .int .i64 B ∧ wx = w1)
  case first =>
    cases f with
    | false =>
      go_wp2
      go_meet
      case rel => exact ⟨by rw [HB.out]; rfl, rfl⟩
    | true =>
      by_cases hk : kd = 1
      · have HB' := @hideH _ (show B = l by rw [HB.out]; exact born_true (HKD.out ▸ hk))
        subst hk
        skip
        go_wp2
        go_meet
        case rel => exact ⟨by rw [HB'.out], rfl⟩
      · have HB' := @hideH _ (show B = bi by rw [HB.out, HBI.out]; exact born_first (HKD.out ▸ hk))
        have hk' : (kd == 1) = false := by simpa using hk
        clear hk
        go_wp2
        go_meet
        case rel => exact ⟨by rw [HB'.out], rfl⟩
  case rest =>
    obtain ⟨h1, h2⟩ := hcut
    subst h1 h2
    skip
    by_cases q1 : kd < 1
    · skip
      have eE : E = 120 := by rw [HE.out]; exact hangE_kind (fun q => by have := q.1; rw [← HKD.out] at this; omega)
      have HEE := @hideH _ eE
      clear eE
      go_wp2
      refine bodyPost_ret (by simp [results, Try.results21, go_sem]; try rfl) rfl ?_
      exact ⟨by rw [HEE.out], KE.out⟩
    · by_cases q2 : kd > 6
      · skip
        have eE : E = 120 := by rw [HE.out]; exact hangE_kind (fun q => by have := q.2; rw [← HKD.out] at this; omega)
        have HEE := @hideH _ eE
        have q2' : (6 : Int) < kd := q2
        clear eE
        go_wp2
        refine bodyPost_ret (by simp [results, Try.results21, go_sem]; try rfl) rfl ?_
        exact ⟨by rw [HEE.out], KE.out⟩
      · have q2' : ¬ (6 : Int) < kd := q2
        by_cases q3 : kd = 1
        · by_cases q4 : l = B
          · skip
            have eE : E = 0 := by rw [HE.out]; exact hangE_begin (HKD.out ▸ q3) q4
            have HEE := @hideH _ eE
            have q4' : (l != B) = false := by simpa using q4
            subst q3
            clear q4
            clear eE
            go_wp2
            refine bodyPost_ret (by simp [results, Try.results21, go_sem]; try rfl) rfl ?_
            exact ⟨by rw [HEE.out], KE.out⟩
          · skip
            have eE : E = 120 := by rw [HE.out]; exact hangE_begin_no (HKD.out ▸ q3) q4
            have HEE := @hideH _ eE
            have q4' : (l != B) = true := by simpa using q4
            subst q3
            clear q4
            clear eE
            go_wp2
            refine bodyPost_ret (by simp [results, Try.results21, go_sem]; try rfl) rfl ?_
            exact ⟨by rw [HEE.out], KE.out⟩
        · have q3' : (kd == 1) = false := by simpa using q3
          by_cases q5 : bi = B
          · by_cases q6 : B < 1
            · skip
              have eE : E = 120 := by rw [HE.out]; exact hangE_no (HKD.out ▸ q3) (fun q => by omega)
              have HEE := @hideH _ eE
              have q5' : (bi != B) = false := by simpa using q5
              clear q5 q3
              clear eE
              go_wp2
              refine bodyPost_ret (by simp [results, Try.results21, go_sem]; try rfl) rfl ?_
              exact ⟨by rw [HEE.out], KE.out⟩
            · by_cases q7 : l ≤ B
              · skip
                have eE : E = 120 := by rw [HE.out]; exact hangE_no (HKD.out ▸ q3) (fun q => by omega)
                have HEE := @hideH _ eE
                have q5' : (bi != B) = false := by simpa using q5
                clear q5 q3
                clear eE
                go_wp2
                refine bodyPost_ret (by simp [results, Try.results21, go_sem]; try rfl) rfl ?_
                exact ⟨by rw [HEE.out], KE.out⟩
              · skip
                have eE : E = 0 := by rw [HE.out]; exact hangE_yes (HKD.out ▸ q3) ⟨by rw [← HKD.out]; omega, by rw [← HKD.out]; omega⟩ ⟨by rw [← HBI.out]; exact q5, by omega, by omega⟩
                have HEE := @hideH _ eE
                have q5' : (bi != B) = false := by simpa using q5
                clear q5 q3
                clear eE
                go_wp2
                refine bodyPost_ret (by simp [results, Try.results21, go_sem]; try rfl) rfl ?_
                exact ⟨by rw [HEE.out], KE.out⟩
          · skip
            have eE : E = 120 := by rw [HE.out]; exact hangE_no (HKD.out ▸ q3) (fun q => q5 (by rw [HBI.out]; exact q.1))
            have HEE := @hideH _ eE
            have q5' : (bi != B) = true := by simpa using q5
            clear q5 q3
            clear eE
            go_wp2
            refine bodyPost_ret (by simp [results, Try.results21, go_sem]; try rfl) rfl ?_
            exact ⟨by rw [HEE.out], KE.out⟩
end Go.Proofs.Ytinlhojojeabcaa

/-
  OWN WORK. Chains (layer 12) in plain words: the logs that the law writes itself, and what Back and Undo tell of them.
-/
namespace Go.Proofs.Ytinlhojojeabcaa
set_option linter.unusedVariables false

structure Chain (R : Rdr) (al : List Int) : Prop where
  ne : 0 < al.length
  one : ∀ x ∈ al, 1 ≤ x
  up : al.Pairwise (· < ·)
  first : ∃ r, R (al.getD 0 0) = (0, r) ∧ r.kind = 1
  next : ∀ j, 0 < j → j < al.length → ∃ r, R (al.getD j 0) = (0, r) ∧ kindOk r.kind ∧ r.kind ≠ 1 ∧ r.birth = al.getD 0 0 ∧ r.prev = al.getD (j - 1) 0
theorem getD_mem {l : List Int} {j : Nat} (h : j < l.length) : l.getD j 0 ∈ l := by
  rw [List.getD_eq_getElem?_getD, List.getElem?_eq_getElem h]
  exact List.getElem_mem h
theorem getD_up {l : List Int} (h : l.Pairwise (· < ·)) {i j : Nat} (hij : i < j) (hj : j < l.length) : l.getD i 0 < l.getD j 0 := by
  simp only [List.getD_eq_getElem?_getD, List.getElem?_eq_getElem hj, List.getElem?_eq_getElem (show i < l.length by omega), Option.getD_some]
  exact List.pairwise_iff_getElem.1 h i j (by omega) hj hij
theorem getD_take {l : List Int} {m j : Nat} (h : j < m) : (l.take m).getD j 0 = l.getD j 0 := by
  rw [List.getD_eq_getElem?_getD, List.getD_eq_getElem?_getD, List.getElem?_take, if_pos h]
theorem getD_left {l t : List Int} {j : Nat} (h : j < l.length) : (l ++ t).getD j 0 = l.getD j 0 := by
  rw [List.getD_eq_getElem?_getD, List.getD_eq_getElem?_getD, List.getElem?_append_left h]
theorem getD_last {l : List Int} {x : Int} : (l ++ [x]).getD l.length 0 = x := by
  rw [List.getD_eq_getElem?_getD, List.getElem?_append_right (Nat.le_refl _)]
  simp
theorem take_snoc {l : List Int} {m : Nat} (h : m < l.length) : l.take (m + 1) = l.take m ++ [l.getD m 0] := by
  rw [List.getD_eq_getElem?_getD, List.getElem?_eq_getElem h, List.take_add_one, List.getElem?_eq_getElem h]
  rfl
theorem Chain.mono {R R' : Rdr} {al : List Int} (h : Chain R al) (hR : ∀ x ∈ al, R' x = R x) : Chain R' al := by
  refine ⟨h.ne, h.one, h.up, ?_, fun j h1 h2 => ?_⟩
  · rw [hR _ (getD_mem h.ne)]; exact h.first
  · rw [hR _ (getD_mem h2)]; exact h.next j h1 h2
theorem Chain.take {R : Rdr} {al : List Int} (h : Chain R al) {m : Nat} (h0 : 0 < m) (hm : m ≤ al.length) : Chain R (al.take m) := by
  have hl : (al.take m).length = m := by rw [List.length_take]; omega
  refine ⟨by omega, fun x hx => h.one x (List.mem_of_mem_take hx), h.up.sublist (List.take_sublist _ _), ?_, fun j h1 h2 => ?_⟩
  · rw [getD_take h0]; exact h.first
  · rw [hl] at h2
    rw [getD_take h2, getD_take h0, getD_take (by omega)]
    exact h.next j h1 (by omega)
theorem Chain.begin {R : Rdr} {x : Int} {r : Rc} (h1 : 1 ≤ x) (hR : R x = (0, r)) (hk : r.kind = 1) : Chain R [x] :=
  ⟨by simp, fun y hy => by simp at hy; omega, List.pairwise_singleton _ _, ⟨r, hR, hk⟩, fun j h1 h2 => by simp at h2; omega⟩
theorem Chain.push {R : Rdr} {al : List Int} {x : Int} {r : Rc} (h : Chain R al) (hx : ∀ y ∈ al, y < x) (hR : R x = (0, r)) (h1 : kindOk r.kind) (h2 : r.kind ≠ 1) (hb : r.birth = al.getD 0 0) (hp : r.prev = al.getD (al.length - 1) 0) : Chain R (al ++ [x]) := by
  have hne := h.ne
  refine ⟨by simp, fun y hy => ?_, List.pairwise_append.2 ⟨h.up, List.pairwise_singleton _ _, fun a ha b hb => by simp at hb; subst hb; exact hx a ha⟩, ?_, fun j g1 g2 => ?_⟩
  · rcases List.mem_append.1 hy with q | q
    · exact h.one y q
    · simp at q
      have e1 := h.one _ (getD_mem h.ne)
      have e2 := hx _ (getD_mem h.ne)
      omega
  · rw [getD_left hne]; exact h.first
  · rw [getD_left (j := 0) hne]
    simp at g2
    by_cases c : j = al.length
    · subst c
      rw [getD_last, getD_left (by omega)]
      exact ⟨r, hR, h1, h2, hb, hp⟩
    · rw [getD_left (by omega), getD_left (by omega)]
      exact h.next j g1 (by omega)
theorem Chain.born {R : Rdr} {al : List Int} (h : Chain R al) {m : Nat} (hm : m < al.length) {f : Bool} {b : Int} (hf : f = true ∨ b = al.getD 0 0) : ∃ r, R (al.getD m 0) = (0, r) ∧ bornAt f b r (al.getD m 0) = al.getD 0 0 ∧ hangs r (al.getD m 0) (al.getD 0 0) ∧ (m = 0 → r.kind = 1) ∧ (0 < m → r.kind ≠ 1 ∧ r.prev = al.getD (m - 1) 0) := by
  by_cases c : m = 0
  · subst c
    obtain ⟨r, h1, h2⟩ := h.first
    refine ⟨r, h1, ?_, ⟨⟨by omega, by omega⟩, fun _ => rfl, fun q => absurd h2 q⟩, fun _ => h2, fun q => absurd q (Nat.lt_irrefl 0)⟩
    rcases hf with rfl | rfl
    · exact if_pos h2
    · cases f with
      | false => rfl
      | true => exact if_pos h2
  · obtain ⟨r, h1, h2, h3, h4, h5⟩ := h.next m (by omega) hm
    have e1 := h.one _ (getD_mem h.ne)
    have e2 := getD_up h.up (i := 0) (j := m) (by omega) hm
    refine ⟨r, h1, ?_, ⟨h2, fun q => absurd q h3, fun _ => ⟨h4, e1, e2⟩⟩, fun q => absurd q c, fun _ => ⟨h3, h5⟩⟩
    rcases hf with rfl | rfl
    · exact (if_neg h3).trans h4
    · cases f with
      | false => rfl
      | true => exact (if_neg h3).trans h4
theorem Chain.backF {R : Rdr} {al : List Int} (h : Chain R al) : ∀ (m n : Nat) (b : Int) (f : Bool) (out asked : List Int), m < al.length → m < n → (f = true ∨ b = al.getD 0 0) → backF R n (al.getD m 0) b f out asked = (out ++ (al.take (m + 1)).reverse, 0, asked ++ (al.take (m + 1)).reverse)
  | 0, n + 1, b, f, out, asked, hm, _, hf => by
    obtain ⟨r, h1, h2, h3, h4, -⟩ := h.born hm hf
    rw [backF_fin h1 (by rw [h2]; exact backStep_begin h3 (h4 rfl)), take_snoc hm]
    simp
  | m + 1, n + 1, b, f, out, asked, hm, hn, hf => by
    obtain ⟨r, h1, h2, h3, -, h5⟩ := h.born hm hf
    obtain ⟨k1, k2⟩ := h5 (by omega)
    rw [Nat.add_sub_cancel] at k2
    have up := getD_up h.up (i := m) (j := m + 1) (by omega) hm
    have lo : al.getD 0 0 ≤ al.getD m 0 := by
      by_cases c : m = 0
      · subst c; omega
      · have := getD_up h.up (i := 0) (j := m) (by omega) (by omega); omega
    rw [backF_on h1 (by rw [h2]; exact backStep_go h3 k1 (by omega) (by omega)), h2, k2, Chain.backF h m n _ _ _ _ (by omega) (by omega) (.inr rfl), take_snoc hm]
    simp
theorem Chain.back {R : Rdr} {al : List Int} (h : Chain R al) (hl : al.length ≤ 4096) : backL R (al.getD (al.length - 1) 0) = (al.reverse, 0, al.reverse) := by
  have hne := h.ne
  have e := h.one _ (getD_mem (l := al) (j := al.length - 1) (by omega))
  unfold backL
  rw [if_neg (by omega), if_neg (by omega), h.backF (al.length - 1) 4096 0 true [] [] (by omega) (by omega) (.inl rfl), Nat.sub_add_cancel hne, List.take_length]
  simp
theorem Chain.undoF {R : Rdr} {al : List Int} (h : Chain R al) (h2 : ∀ j, 0 < j → j < al.length → (R (al.getD j 0)).2.kind = 2) : ∀ (m n : Nat) (b : Int) (f must : Bool) (out asked : List Int), m < al.length → m < n → (f = true ∨ b = al.getD 0 0) → (must = true → 0 < m) → ∃ q, undoF R n (al.getD m 0) b f must out asked = (out ++ ((al.take (m + 1)).drop 1).reverse, 0, q)
  | 0, n + 1, b, f, must, out, asked, hm, _, hf, hmu => by
    obtain ⟨r, h1, e2, h3, h4, -⟩ := h.born hm hf
    have em : must = false := by cases must with
      | false => rfl
      | true => exact absurd (hmu rfl) (Nat.lt_irrefl 0)
    subst em
    refine ⟨asked ++ [al.getD 0 0], ?_⟩
    rw [undoF_fin h1 (by rw [e2]; exact undoStep_begin h3 (h4 rfl)), take_snoc hm]
    unfold undoOut
    rw [if_neg (by rw [h4 rfl]; decide)]
    simp
  | m + 1, n + 1, b, f, must, out, asked, hm, hn, hf, hmu => by
    obtain ⟨r, h1, e2, h3, -, h5⟩ := h.born hm hf
    obtain ⟨k1, k2⟩ := h5 (by omega)
    have kd : r.kind = 2 := by have := h2 (m + 1) (by omega) hm; rw [h1] at this; exact this
    rw [Nat.add_sub_cancel] at k2
    have up := getD_up h.up (i := m) (j := m + 1) (by omega) hm
    have lo : al.getD 0 0 ≤ al.getD m 0 := by
      by_cases c : m = 0
      · subst c; omega
      · have := getD_up h.up (i := 0) (j := m) (by omega) (by omega); omega
    obtain ⟨q, hq⟩ := Chain.undoF h h2 m n (al.getD 0 0) false false (out ++ [al.getD (m + 1) 0]) (asked ++ [al.getD (m + 1) 0]) (by omega) (by omega) (.inr rfl) (fun c => by cases c)
    refine ⟨q, ?_⟩
    rw [undoF_on h1 (by rw [e2]; exact undoStep_go h3 (fun _ => kd) k1 (by omega) (by omega) (by omega)), e2, k2]
    unfold undoOut
    rw [if_pos kd, hq, take_snoc hm, List.drop_append_of_le_length (by rw [List.length_take]; omega)]
    simp
/-- an act of a plan; an open transaction -/
structure ActL where
  by_ : Int
  what : Int
  gap : Int
structure RunL where
  all : List Int
  left : List Int
  back : Bool
def RunL.none : RunL := ⟨[], [], false⟩
/-- the record that an act writes; the transaction behind it but for All -/
def recStep (x : RunL) (what lsn k : Int) : Lv × RunL :=
  if x.all.length = 0 then (recOf 1 0 0 (k + 1) 0, x)
  else if what = 1 ∧ x.back = false then (recOf 5 (x.all.getD 0 0) (x.all.getD (x.all.length - 1) 0) 0 0, ⟨x.all, x.left, true⟩)
  else if what = 2 ∧ 0 < x.left.length then (recOf 3 (x.all.getD 0 0) (x.all.getD (x.all.length - 1) 0) 0 (if 1 < x.left.length then x.left.getD (x.left.length - 2) 0 else 0), ⟨x.all, x.left.take (x.left.length - 1), true⟩)
  else if what = 3 ∨ x.back = true then (recOf 6 (x.all.getD 0 0) (x.all.getD (x.all.length - 1) 0) 0 0, x)
  else (recOf 2 (x.all.getD 0 0) (x.all.getD (x.all.length - 1) 0) 0 0, ⟨x.all, x.left ++ [lsn], x.back⟩)
structure WS where
  lsn : Int
  lines : List Ln
  ways : List (List Int)
  runs : List RunL
def WS.start : WS := ⟨0, [], [], [.none, .none, .none, .none]⟩
def runAt (runs : List RunL) (k : Nat) : RunL := runs.getD k .none
def endRun (r : Lv) (x : RunL) (all : List Int) : RunL := if r.kind = 6 then .none else ⟨all, x.left, x.back⟩
def wstep (st : WS) (a : ActL) : WS :=
  let lsn := st.lsn + 1 + a.gap % 50
  let k := (a.by_ % 4).toNat
  let x := runAt st.runs k
  let p := recStep x (a.what % 4) lsn k
  ⟨lsn, st.lines ++ [⟨lsn, p.1⟩], st.ways ++ [(x.all ++ [lsn]).reverse], st.runs.set k (endRun p.1 p.2 (x.all ++ [lsn]))⟩
def wrote (plan : List ActL) : Nat → WS
  | 0 => .start
  | i + 1 => match plan[i]? with
    | some a => wstep (wrote plan i) a
    | none => wrote plan i
theorem wrote_next {plan : List ActL} {i : Nat} {a : ActL} (h : plan[i]? = some a) : wrote plan (i + 1) = wstep (wrote plan i) a := by rw [wrote, h]
structure RunOk (R : Rdr) (x : RunL) : Prop where
  none : x.all.length = 0 → x.left = []
  chain : 0 < x.all.length → Chain R x.all
  left : 0 < x.all.length → ∃ (a : Int) (us rest : List Int) (m : Nat), x.all = a :: (us ++ rest) ∧ x.left = us.take m ∧ m ≤ us.length ∧ (x.back = false → rest = [] ∧ m = us.length) ∧ ∀ u ∈ us, (R u).2.kind = 2
theorem RunOk.mono {R R' : Rdr} {x : RunL} (h : RunOk R x) (hR : ∀ y ∈ x.all, R' y = R y) : RunOk R' x := by
  refine ⟨h.none, fun c => (h.chain c).mono hR, fun c => ?_⟩
  obtain ⟨a, us, rest, m, e1, e2, e3, e4, e5⟩ := h.left c
  exact ⟨a, us, rest, m, e1, e2, e3, e4, fun u hu => by rw [hR u (by rw [e1]; simp [hu])]; exact e5 u hu⟩
theorem RunOk.start (R : Rdr) : RunOk R .none := ⟨fun _ => rfl, fun c => absurd c (Nat.lt_irrefl 0), fun c => absurd c (Nat.lt_irrefl 0)⟩
/-- what Undo tells of an open transaction -/
theorem RunOk.undo {R : Rdr} {x : RunL} (h : RunOk R x) (hl : x.all.length ≤ 4000) : ∃ q, undoL R (if 0 < x.left.length then x.left.getD (x.left.length - 1) 0 else 0) = (x.left.reverse, 0, q) := by
  by_cases c : 0 < x.left.length
  · rw [if_pos c]
    have c0 : 0 < x.all.length := by
      rcases Nat.eq_zero_or_pos x.all.length with q | q
      · rw [h.none q] at c; simp at c
      · exact q
    obtain ⟨a, us, rest, m, e1, e2, e3, e4, e5⟩ := h.left c0
    have hlen : x.left.length = m := by rw [e2, List.length_take]; omega
    have hall : x.all.length = us.length + rest.length + 1 := by rw [e1]; simp
    have hc := (h.chain c0).take (m := m + 1) (by omega) (by omega)
    have et : x.all.take (m + 1) = a :: x.left := by rw [e1, List.take_succ_cons, List.take_append_of_le_length e3, ← e2]
    rw [et] at hc
    have hk2 : ∀ j, 0 < j → j < (a :: x.left).length → (R ((a :: x.left).getD j 0)).2.kind = 2 := fun j h1 h2 => by
      obtain ⟨i, rfl⟩ : ∃ i, j = i + 1 := ⟨j - 1, by omega⟩
      rw [List.getD_cons_succ]
      exact e5 _ (by have := getD_mem (l := x.left) (j := i) (by simp at h2; omega); rw [e2] at this; rw [e2]; exact List.mem_of_mem_take this)
    have elast : x.left.getD (x.left.length - 1) 0 = (a :: x.left).getD m 0 := by
      obtain ⟨i, hi⟩ : ∃ i, m = i + 1 := ⟨m - 1, by omega⟩
      rw [hlen, hi, List.getD_cons_succ, Nat.add_sub_cancel]
    have e1' := hc.one _ (getD_mem (l := a :: x.left) (j := m) (by simp; omega))
    obtain ⟨q, hq⟩ := hc.undoF hk2 m 4096 0 true true [] [] (by simp; omega) (by omega) (.inl rfl) (fun _ => by omega)
    refine ⟨q, ?_⟩
    unfold undoL
    rw [elast, if_neg (by omega), if_neg (by omega), hq, List.take_of_length_le (by simp; omega)]
    simp
  · rw [if_neg c]
    have : x.left = [] := List.length_eq_zero_iff.1 (by omega)
    rw [this]
    exact ⟨[], rfl⟩
end Go.Proofs.Ytinlhojojeabcaa

/-
  OWN WORK. Chains (layer 12) in plain words: what holds of the logs that the law writes itself.
-/
namespace Go.Proofs.Ytinlhojojeabcaa
set_option linter.unusedVariables false

theorem rdr_old {ls : List Ln} {x : Ln} {y : Int} (h : x.lsn ≠ y) : rdr (ls ++ [x]) false y = rdr ls false y := by
  unfold rdr readL findL
  rw [List.find?_append]
  simp [h]
theorem rdr_new {ls : List Ln} {x : Ln} (h : ∀ l ∈ ls, l.lsn ≠ x.lsn) : rdr (ls ++ [x]) false x.lsn = (0, x.r.rc) := by
  unfold rdr readL findL
  have e : ls.find? (fun l => l.lsn == x.lsn) = none := List.find?_eq_none.2 fun l hl => by simpa using h l hl
  rw [List.find?_append, e]
  simp
structure WOk (st : WS) (n : Nat) : Prop where
  len : st.lines.length = n
  wlen : st.ways.length = n
  rlen : st.runs.length = 4
  lsn : 0 ≤ st.lsn ∧ st.lsn ≤ 50 * n
  in_ : ∀ l ∈ st.lines, 1 ≤ l.lsn ∧ l.lsn ≤ st.lsn
  fits : ∀ l ∈ st.lines, l.fits
  ways : ∀ (i : Nat) l, st.lines[i]? = some l → ∃ al, st.ways[i]? = some al.reverse ∧ Chain (rdr st.lines false) al ∧ al.getD (al.length - 1) 0 = l.lsn ∧ al.length ≤ n
  runs : ∀ (k : Nat) x, st.runs[k]? = some x → RunOk (rdr st.lines false) x ∧ (∀ y ∈ x.all, 1 ≤ y ∧ y ≤ st.lsn) ∧ (∀ y ∈ x.left, 1 ≤ y ∧ y ≤ st.lsn) ∧ x.all.length ≤ n ∧ x.left.length ≤ n
theorem wok_start : WOk .start 0 := by
  refine ⟨rfl, rfl, rfl, ⟨Int.le_refl _, Int.le_refl _⟩, fun l hl => by simp [WS.start] at hl, fun l hl => by simp [WS.start] at hl, fun i l hl => by simp [WS.start] at hl, fun k x hx => ?_⟩
  have hx' : x = RunL.none := by
    have := List.mem_of_getElem? hx
    simp [WS.start] at this
    exact this
  subst hx'
  exact ⟨RunOk.start _, fun y hy => by simp [RunL.none] at hy, fun y hy => by simp [RunL.none] at hy, Nat.le_refl _, Nat.le_refl _⟩
theorem runAt_get {runs : List RunL} (h : runs.length = 4) {k : Nat} (hk : k < 4) : runs[k]? = some (runAt runs k) := by
  unfold runAt
  rw [List.getD_eq_getElem?_getD, List.getElem?_eq_getElem (by omega)]
  rfl
theorem RunOk.next {R R' : Rdr} {x : RunL} {what lsn k : Int} (h : RunOk R x) (hle : ∀ y ∈ x.all, y < lsn) (h1 : 1 ≤ lsn) (hR : ∀ y, y < lsn → R' y = R y) (hn : R' lsn = (0, (recStep x what lsn k).1.rc)) :
    Chain R' (x.all ++ [lsn]) ∧ RunOk R' (endRun (recStep x what lsn k).1 (recStep x what lsn k).2 (x.all ++ [lsn])) := by
  by_cases c : x.all.length = 0
  · have e0 : x.all = [] := List.length_eq_zero_iff.1 c
    have er : recStep x what lsn k = (recOf 1 0 0 (k + 1) 0, x) := if_pos c
    rw [er] at hn ⊢
    have hc : Chain R' (x.all ++ [lsn]) := by rw [e0]; exact Chain.begin h1 hn rfl
    refine ⟨hc, ?_⟩
    have ee : endRun (recOf 1 0 0 (k + 1) 0) x (x.all ++ [lsn]) = ⟨x.all ++ [lsn], x.left, x.back⟩ := if_neg (by simp [recOf])
    rw [ee]
    exact ⟨fun q => by simp at q, fun _ => hc, fun _ => ⟨lsn, [], [], 0, by rw [e0]; rfl, by rw [h.none c]; rfl, Nat.le_refl _, fun _ => ⟨rfl, rfl⟩, fun u hu => by simp at hu⟩⟩
  · have c0 : 0 < x.all.length := by omega
    have hC := (h.chain c0).mono (R' := R') fun y hy => hR y (hle y hy)
    obtain ⟨a, us, rest, m, e1, e2, e3, e4, e5⟩ := h.left c0
    have e5' : ∀ u ∈ us, (R' u).2.kind = 2 := fun u hu => by rw [hR u (hle u (by rw [e1]; simp [hu]))]; exact e5 u hu
    obtain ⟨p, hp⟩ : ∃ p, p = recStep x what lsn k := ⟨_, rfl⟩
    rw [← hp] at hn ⊢
    unfold recStep at hp
    rw [if_neg c] at hp
    have push : kindOk p.1.kind → p.1.kind ≠ 1 → p.1.birth = x.all.getD 0 0 → p.1.prev = x.all.getD (x.all.length - 1) 0 → Chain R' (x.all ++ [lsn]) := fun q1 q2 q3 q4 => hC.push hle hn q1 q2 q3 q4
    have more : Chain R' (x.all ++ [lsn]) → ∀ m', m' ≤ us.length → RunOk R' ⟨x.all ++ [lsn], us.take m', true⟩ := fun hc m' hm' => ⟨fun q => by simp at q, fun _ => hc, fun _ => ⟨a, us, rest ++ [lsn], m', by rw [e1]; simp, rfl, hm', (fun q => nomatch q), e5'⟩⟩
    split at hp
    · subst hp
      have hc := push ⟨by simp [recOf], by simp [recOf]⟩ (by simp [recOf]) rfl rfl
      refine ⟨hc, ?_⟩
      rw [show endRun (recOf 5 (x.all.getD 0 0) (x.all.getD (x.all.length - 1) 0) 0 0) ⟨x.all, x.left, true⟩ (x.all ++ [lsn]) = ⟨x.all ++ [lsn], x.left, true⟩ from if_neg (by simp [recOf]), e2]
      exact more hc m e3
    · split at hp
      · subst hp
        have hc := push ⟨by simp [recOf], by simp [recOf]⟩ (by simp [recOf]) rfl rfl
        refine ⟨hc, ?_⟩
        rw [show endRun _ ⟨x.all, x.left.take (x.left.length - 1), true⟩ (x.all ++ [lsn]) = ⟨x.all ++ [lsn], x.left.take (x.left.length - 1), true⟩ from if_neg (by simp [recOf]), e2, List.take_take]
        exact more hc _ (by omega)
      · split at hp
        · subst hp
          have hc := push ⟨by simp [recOf], by simp [recOf]⟩ (by simp [recOf]) rfl rfl
          refine ⟨hc, ?_⟩
          rw [show endRun (recOf 6 (x.all.getD 0 0) (x.all.getD (x.all.length - 1) 0) 0 0) x (x.all ++ [lsn]) = RunL.none from if_pos rfl]
          exact RunOk.start _
        · rename_i q1 q2 q3
          subst hp
          have hc := push ⟨by simp [recOf], by simp [recOf]⟩ (by simp [recOf]) rfl rfl
          refine ⟨hc, ?_⟩
          rw [show endRun _ ⟨x.all, x.left ++ [lsn], x.back⟩ (x.all ++ [lsn]) = ⟨x.all ++ [lsn], x.left ++ [lsn], x.back⟩ from if_neg (by simp [recOf])]
          have hb : x.back = false := by
            cases hb : x.back with
            | false => rfl
            | true => exact absurd (.inr hb) q3
          obtain ⟨r1, r2⟩ := e4 hb
          have e6 : x.left = us := by rw [e2, r2, List.take_length]
          refine ⟨fun q => by simp at q, fun _ => hc, fun _ => ⟨a, us ++ [lsn], [], us.length + 1, by rw [e1, r1]; simp, by rw [e6]; exact (List.take_of_length_le (by simp)).symm, by simp, fun _ => ⟨rfl, by simp⟩, fun u hu => ?_⟩⟩
          rcases List.mem_append.1 hu with q | q
          · exact e5' u q
          · simp at q
            subst q
            rw [hn]
            rfl
theorem recStep_begin {x : RunL} {W M k : Int} (h0 : x.all.length = 0) : recStep x W M k = (recOf 1 0 0 (k + 1) 0, x) := if_pos h0
theorem recStep_abort {x : RunL} {W M k : Int} (h0 : x.all.length ≠ 0) (hW : W = 1) (hb : x.back = false) : recStep x W M k = (recOf 5 (x.all.getD 0 0) (x.all.getD (x.all.length - 1) 0) 0 0, ⟨x.all, x.left, true⟩) := by
  unfold recStep
  rw [if_neg h0, if_pos ⟨hW, hb⟩]
theorem recStep_undo {x : RunL} {W M k : Int} (h0 : x.all.length ≠ 0) (hW : W = 2) (hn : 0 < x.left.length) : recStep x W M k = (recOf 3 (x.all.getD 0 0) (x.all.getD (x.all.length - 1) 0) 0 (if 1 < x.left.length then x.left.getD (x.left.length - 2) 0 else 0), ⟨x.all, x.left.take (x.left.length - 1), true⟩) := by
  unfold recStep
  rw [if_neg h0, if_neg (fun c => by have := c.1; omega), if_pos ⟨hW, hn⟩]
theorem recStep_end {x : RunL} {W M k : Int} (h0 : x.all.length ≠ 0) (h1 : ¬ (W = 1 ∧ x.back = false)) (h2 : ¬ (W = 2 ∧ 0 < x.left.length)) (h3 : W = 3 ∨ x.back = true) : recStep x W M k = (recOf 6 (x.all.getD 0 0) (x.all.getD (x.all.length - 1) 0) 0 0, x) := by
  unfold recStep
  rw [if_neg h0, if_neg h1, if_neg h2, if_pos h3]
theorem recStep_more {x : RunL} {W M k : Int} (h0 : x.all.length ≠ 0) (h1 : ¬ (W = 1 ∧ x.back = false)) (h2 : ¬ (W = 2 ∧ 0 < x.left.length)) (h3 : ¬ (W = 3 ∨ x.back = true)) : recStep x W M k = (recOf 2 (x.all.getD 0 0) (x.all.getD (x.all.length - 1) 0) 0 0, ⟨x.all, x.left ++ [M], x.back⟩) := by
  unfold recStep
  rw [if_neg h0, if_neg h1, if_neg h2, if_neg h3]
theorem recStep_fits {x : RunL} {what lsn k : Int} (hk : I64 (k + 1)) (ha : ∀ y ∈ x.all, I64 y) (hl : ∀ y ∈ x.left, I64 y) : (recStep x what lsn k).1.fits := by
  have z : I64 0 := ⟨by omega, by omega⟩
  have g : ∀ (l : List Int) (j : Nat), (∀ y ∈ l, I64 y) → I64 (l.getD j 0) := fun l j h => by
    by_cases c : j < l.length
    · exact h _ (getD_mem c)
    · rw [List.getD_eq_getElem?_getD, List.getElem?_eq_none (by omega)]; exact z
  unfold recStep
  split
  · exact ⟨⟨by simp [recOf], by simp [recOf]⟩, z, z, z⟩
  · split
    · exact ⟨⟨by simp [recOf], by simp [recOf]⟩, g _ _ ha, g _ _ ha, z⟩
    · split
      · refine ⟨⟨by simp [recOf], by simp [recOf]⟩, g _ _ ha, g _ _ ha, ?_⟩
        show I64 (if _ then _ else _)
        split
        · exact g _ _ hl
        · exact z
      · split
        · exact ⟨⟨by simp [recOf], by simp [recOf]⟩, g _ _ ha, g _ _ ha, z⟩
        · exact ⟨⟨by simp [recOf], by simp [recOf]⟩, g _ _ ha, g _ _ ha, z⟩
theorem recStep_left {x : RunL} {what lsn k : Int} : ∀ y ∈ (recStep x what lsn k).2.left, y ∈ x.left ∨ y = lsn := by
  unfold recStep
  intro y hy
  split at hy
  · exact .inl hy
  · split at hy
    · exact .inl hy
    · split at hy
      · exact .inl (List.mem_of_mem_take hy)
      · split at hy
        · exact .inl hy
        · rcases List.mem_append.1 hy with q | q
          · exact .inl q
          · exact .inr (by simpa using q)
theorem recStep_llen {x : RunL} {what lsn k : Int} : (recStep x what lsn k).2.left.length ≤ x.left.length + 1 := by
  unfold recStep
  split
  · simp
  · split
    · simp
    · split
      · simp; omega
      · split <;> simp
theorem wok_step {st : WS} {n : Nat} (h : WOk st n) (a : ActL) (hn : n < 300) : WOk (wstep st a) (n + 1) := by
  have hg : 0 ≤ a.gap % 50 ∧ a.gap % 50 < 50 := ⟨Int.emod_nonneg _ (by omega), Int.emod_lt_of_pos _ (by omega)⟩
  have hkk : 0 ≤ a.by_ % 4 ∧ a.by_ % 4 < 4 := ⟨Int.emod_nonneg _ (by omega), Int.emod_lt_of_pos _ (by omega)⟩
  obtain ⟨L, hL⟩ : ∃ L, L = st.lsn + 1 + a.gap % 50 := ⟨_, rfl⟩
  obtain ⟨k, hk⟩ : ∃ k, k = (a.by_ % 4).toNat := ⟨_, rfl⟩
  have hk4 : k < 4 := by omega
  obtain ⟨x, hx⟩ : ∃ x, x = runAt st.runs k := ⟨_, rfl⟩
  obtain ⟨p, hp⟩ : ∃ p, p = recStep x (a.what % 4) L k := ⟨_, rfl⟩
  have hst : wstep st a = ⟨L, st.lines ++ [⟨L, p.1⟩], st.ways ++ [(x.all ++ [L]).reverse], st.runs.set k (endRun p.1 p.2 (x.all ++ [L]))⟩ := by
    unfold wstep
    simp only [← hL, ← hk, ← hx, ← hp]
  obtain ⟨rx, ra, rl, rn, rm⟩ := h.runs k x (by rw [hx]; exact runAt_get h.rlen hk4)
  have hb := h.lsn
  have hold : ∀ y, y < L → rdr (st.lines ++ [⟨L, p.1⟩]) false y = rdr st.lines false y := fun y hy => rdr_old (x := ⟨L, p.1⟩) (by show L ≠ y; omega)
  have hnew : rdr (st.lines ++ [⟨L, p.1⟩]) false L = (0, p.1.rc) := rdr_new (x := ⟨L, p.1⟩) fun l hl => by
    have := (h.in_ l hl).2
    show l.lsn ≠ L
    omega
  have hle : ∀ y ∈ x.all, y < L := fun y hy => by have := (ra y hy).2; omega
  obtain ⟨c1, c2⟩ := RunOk.next (R' := rdr (st.lines ++ [⟨L, p.1⟩]) false) (what := a.what % 4) (k := k) rx hle (by omega) hold (by rw [hnew, hp])
  rw [← hp] at c2
  rw [hst]
  have i64 : ∀ y, 1 ≤ y ∧ y ≤ st.lsn → I64 y := fun y hy => ⟨by omega, by omega⟩
  refine ⟨by simp [h.len], by simp [h.wlen], by simp [h.rlen], ⟨by simp only; omega, by simp only; omega⟩, fun l hl => ?_, fun l hl => ?_, fun i l hl => ?_, fun j y hy => ?_⟩
  · rcases List.mem_append.1 hl with q | q
    · have := h.in_ l q
      simp only
      omega
    · simp at q
      subst q
      simp only
      omega
  · rcases List.mem_append.1 hl with q | q
    · exact h.fits l q
    · simp at q
      subst q
      exact ⟨⟨by simp only; omega, by simp only; omega⟩, by simp only; rw [hp]; exact recStep_fits ⟨by omega, by omega⟩ (fun y hy => i64 y (ra y hy)) (fun y hy => i64 y (rl y hy))⟩
  · simp only at hl ⊢
    by_cases c : i < st.lines.length
    · rw [List.getElem?_append_left c] at hl
      obtain ⟨al, g1, g2, g3, g4⟩ := h.ways i l hl
      refine ⟨al, by rw [List.getElem?_append_left (by rw [h.wlen, ← h.len]; exact c)]; exact g1, g2.mono fun y hy => hold y ?_, g3, by omega⟩
      have hy2 : y ≤ al.getD (al.length - 1) 0 := by
        obtain ⟨j, hj, rfl⟩ := List.getElem_of_mem hy
        have e : al[j] = al.getD j 0 := by rw [List.getD_eq_getElem?_getD, List.getElem?_eq_getElem hj]; rfl
        rw [e]
        by_cases d : j = al.length - 1
        · rw [d]; exact Int.le_refl _
        · exact Int.le_of_lt (getD_up g2.up (by omega) (by omega))
      have := (h.in_ l (List.mem_of_getElem? hl)).2
      rw [g3] at hy2
      omega
    · have hi : i = st.lines.length := by
        have := (List.getElem?_eq_some_iff.1 hl).1
        simp at this
        omega
      subst hi
      rw [List.getElem?_append_right (Nat.le_refl _)] at hl
      simp at hl
      subst hl
      exact ⟨x.all ++ [L], by rw [List.getElem?_append_right (by rw [h.wlen, h.len]; exact Nat.le_refl _), h.wlen, h.len]; simp, c1, by simp only; rw [List.length_append]; exact getD_last, by simp; omega⟩
  · simp only at hy ⊢
    rw [List.getElem?_set] at hy
    split at hy
    · split at hy
      · cases hy
        refine ⟨c2, ?_⟩
        unfold endRun
        split
        · exact ⟨fun y hy => by simp [RunL.none] at hy, fun y hy => by simp [RunL.none] at hy, by simp [RunL.none], by simp [RunL.none]⟩
        · refine ⟨fun y hy => ?_, fun y hy => ?_, by simp; omega, ?_⟩
          · rcases List.mem_append.1 hy with q | q
            · have := ra y q; omega
            · simp at q; omega
          · rw [hp] at hy
            rcases recStep_left y hy with q | q
            · have := rl y q; omega
            · omega
          · have := recStep_llen (x := x) (what := a.what % 4) (lsn := L) (k := k)
            simp only
            rw [hp]
            omega
      · cases hy
    · obtain ⟨g1, g2, g3, g4, g5⟩ := h.runs j y hy
      exact ⟨g1.mono fun z hz => hold z (by have := (g2 z hz).2; omega), fun z hz => by have := g2 z hz; omega, fun z hz => by have := g3 z hz; omega, by omega, by omega⟩
theorem wrote_ok (plan : List ActL) : ∀ i, i ≤ plan.length → i ≤ 300 → WOk (wrote plan i) i
  | 0, _, _ => wok_start
  | i + 1, h1, h2 => by
    rw [wrote_next (List.getElem?_eq_getElem (show i < plan.length by omega))]
    exact wok_step (wrote_ok plan i (by omega) (by omega)) _ (by omega)
end Go.Proofs.Ytinlhojojeabcaa

/-
  OWN WORK. 'append' to a row without spare: always a new block.
-/
namespace Go.Proofs.Ytinlhojojeabcaa
open Go.RowKit
theorem Row.tight {w : World} {base sz : Nat} {p : Option Addr} {n c : Nat} {cs : List Value} (h : Row w base sz (.slice p n c) n cs) : Row w base sz (.slice p n n) n cs := by
  obtain ⟨h1, h2, p', c', e, h3, h4, h5⟩ := h
  cases e
  refine ⟨h1, h2, _, n, rfl, Nat.le_refl _, by omega, ?_⟩
  rcases h5 with ⟨rfl, rfl⟩ | ⟨g, rfl, h6, h7, h8, h9⟩
  · exact .inl ⟨rfl, by omega⟩
  · exact .inr ⟨g, rfl, h6, h7, h8, fun j hj => h9 j (Nat.lt_of_lt_of_le hj (Nat.mul_le_mul_right _ h3))⟩
theorem run_append_tight {P : Program} (w : World) (base : Nat) (t ty e : TypeId) (i : TypeInfo) (z : Value) (sz bytes : Nat) (ht : P.underlying t = some (.slice e)) (hi : P.info? e = some i) (hz : i.zero = some z) (hsize : i.size = sz) (hby : i.bytes = bytes) (hzs : z.cells.size = sz)
    (p : Option Addr) (n : Nat) (cs : List Value) (h : Row w base sz (.slice p n n) n cs) (x : Value) (m : Nat) (hm0 : 0 < m) (news : List Value) (hs : Src P sz t x m news w) (h63 : n + m ≤ 9223372036854775807) (hmx : n + m ≤ maxLen) (hbytes : (n + m) * bytes ≤ 140737488355328) :
    ∃ v' w', (Builtin.append_ #[t, t] ty #[.slice p n n, x]).run P w = .ok v' w' ∧ Row w' w.heap.size sz v' (n + m) (cs ++ news) ∧ v'.ownBlock = some w.heap.size ∧ Kept [] w w' := by
  subst hsize
  subst hby
  have hnl := hs.newsLen
  have hall : ∀ u ∈ cs ++ news, u.oneCell' = true := by
    intro u hu
    rcases List.mem_append.1 hu with hu | hu
    · exact h.2.1 u hu
    · exact hs.one u hu
  have hlen : (cs ++ news).length = (n + m) * i.size := by rw [List.length_append, h.1, hnl, Nat.add_mul]
  have hold : (Builtin.firstCells i.size n (.slice p n n)).run P w.drew = .ok cs.toArray w.drew := by
    obtain ⟨h1, h2, p', c', e', -, -, h5⟩ := id h
    cases e'
    rcases h5 with ⟨rfl, rfl⟩ | ⟨g, rfl, h6, h7, h8, h9⟩
    · obtain rfl : cs = [] := List.eq_nil_of_length_eq_zero (by simpa using h1)
      exact run_firstCells_none w.drew i.size 0 0 0
    · exact run_firstCells_some w.drew i.size n ⟨g, 0, none⟩ n n cs h1 (fun j u hj => by rw [add_none rfl]; simpa using h8 j u hj)
  have hg : n < n + m := by omega
  have hrun := run_append_grow_src (P := P) w t t ty e i z ht hi hz p n n cs hold x m news hs hg (by omega) (growslice_fits hg hbytes)
  have hge := grownCap_ge w (n + m) n e
  have hcm := grownCap_le_maxLen w (n + m) n e hmx
  have hsz : ((cs ++ news).toArray ++ Builtin.zeroCells z.cells (grownCap w (n + m) n e - (n + m))).size = grownCap w (n + m) n e * i.size := by
    rw [Array.size_append, List.size_toArray, hlen, size_zeroCells, hzs, ← Nat.add_mul]
    congr 1
    omega
  have hk : Kept [] w (w.drew.alloc (.cells ((cs ++ news).toArray ++ Builtin.zeroCells z.cells (grownCap w (n + m) n e - (n + m))) e)) := ((Kept.refl [] w).drew).alloc _
  refine ⟨_, _, hrun, ⟨hlen, hall, _, _, rfl, hge, hcm, .inr ⟨w.heap.size, rfl, Nat.le_refl _, by simp, fun j u hj => ?_, fun j hj => ⟨?_, World.frozen?_alloc_new w.drew _ _ j⟩⟩⟩, rfl, hk⟩
  · have e1 : (w.drew.alloc (.cells ((cs ++ news).toArray ++ Builtin.zeroCells z.cells (grownCap w (n + m) n e - (n + m))) e)).cell? ⟨w.heap.size, j, none⟩ = _ := World.cell?_alloc_new w.drew _ _ j
    have hjl := (List.getElem?_eq_some_iff.1 hj).1
    rw [e1, Array.getElem?_append_left (by simpa using hjl), List.getElem?_toArray, hj]
  · have e1 : (w.drew.alloc (.cells ((cs ++ news).toArray ++ Builtin.zeroCells z.cells (grownCap w (n + m) n e - (n + m))) e)).cell? ⟨w.heap.size, j, none⟩ = _ := World.cell?_alloc_new w.drew _ _ j
    rw [e1, Array.getElem?_eq_getElem (by rw [hsz]; exact hj)]
    rfl
theorem wpList_append_tight {P : Program} {w : World} {ops : Array Oper} {rest : List Oper} {o : Oper} {a : Act} {Q : Exit → Act → World → Prop} (hgd : o.guard = none) (s x : Operand) (t : TypeId)
    (ho : o.op = .call { callee := .builtin .append, args := #[s, x], argTypes := #[t, t] }) (base : Nat) (e : TypeId) (i : TypeInfo) (z : Value) (sz bytes : Nat) (ht : P.underlying t = some (.slice e)) (hi : P.info? e = some i) (hz : i.zero = some z) (hsize : i.size = sz) (hby : i.bytes = bytes) (hzs : z.cells.size = sz)
    (p : Option Addr) (n : Nat) (cs : List Value) (hv : a.eval s = .slice p n n) (h : Row w base sz (.slice p n n) n cs) (xv : Value) (m : Nat) (hm0 : 0 < m) (news : List Value) (hx : a.eval x = xv) (hs : Src P sz t xv m news w) (h63 : n + m ≤ 9223372036854775807) (hmx : n + m ≤ maxLen) (hbytes : (n + m) * bytes ≤ 140737488355328)
    (hgo : ∀ v' w', Row w' w.heap.size sz v' (n + m) (cs ++ news) → v'.ownBlock = some w.heap.size → Kept [] w w' → wpList P ops Q rest (a.put o.dst v') w') : wpList P ops Q (o :: rest) a w := by
  refine wpList_plain hgd fun K hK => ?_
  obtain ⟨v', w', hr, k1, k2, k3⟩ := run_append_tight (P := P) w base t o.type e i z sz bytes ht hi hz hsize hby hzs p n cs h xv m hm0 news hs h63 hmx hbytes
  unfold Oper.wp execOp
  simp only [ho, resolve, invoke, builtin, Sem.run_bind, Sem.run_pure, Result.andThen_ok, List.map_toArray, List.map_cons, List.map_nil, hv, hx, hr]
  exact hK _ _ (hgo v' w' k1 k2 k3)
end Go.Proofs.Ytinlhojojeabcaa

/-
  OWN WORK. Chains (layer 12): how the log that the law writes lies in memory.
-/
namespace Go.Proofs.Ytinlhojojeabcaa
open Go.RowKit
set_option linter.unusedVariables false

def Far (F : List Nat) (v : Value) : Prop := ∀ y, v.ownBlock = some y → y ∉ F
/-- a list of numbers that stays -/
def Still (w : World) (base : Nat) (F : List Nat) (v : Value) (l : List Int) : Prop := Ns w base v l ∧ Far F v
theorem Still.kept {w w' : World} {base : Nat} {F S : List Nat} {v : Value} {l : List Int} (h : Still w base F v l) (k : Kept S w w') (hS : ∀ y ∈ S, y ∈ F ∨ w.heap.size ≤ y) : Still w' base F v l :=
  ⟨h.1.kept k fun y hy hm => by
    rcases hS y hm with q | q
    · exact h.2 y hy q
    · have := (h.1.lt hy).2; omega, h.2⟩
theorem Still.move {w : World} {base : Nat} {F F' : List Nat} {v : Value} {l : List Int} (h : Still w base F v l) (hF : ∀ y ∈ F', y ∈ F ∨ w.heap.size ≤ y) : Still w base F' v l :=
  ⟨h.1, fun y hy hm => by
    rcases hF y hm with q | q
    · exact h.2 y hy q
    · have := (h.1.lt hy).2; omega⟩
theorem Still.step {w w' : World} {base : Nat} {F F' S : List Nat} {v : Value} {l : List Int} (h : Still w base F v l) (k : Kept S w w') (hS : ∀ y ∈ S, y ∈ F) (hF : ∀ y ∈ F', y ∈ F ∨ w.heap.size ≤ y) : Still w' base F' v l :=
  ⟨h.1.kept k fun y hy hm => h.2 y hy (hS y hm), (h.move hF).2⟩
def Sv.v (s : Sv) : Value := .slice s.p s.n s.c
/-- a transaction's three cells -/
structure Rv where
  a : Sv
  l : Sv
  b : Bool
def Rv.cells (r : Rv) : List Value := [r.a.v, r.l.v, .bool r.b]
def flatR : List Rv → List Value
  | [] => []
  | r :: rs => r.cells ++ flatR rs
theorem flatR_length : ∀ rs : List Rv, (flatR rs).length = rs.length * 3
  | [] => rfl
  | r :: rs => by rw [flatR, List.length_append, flatR_length rs, List.length_cons]; simp [Rv.cells]; omega
theorem flatR_at : ∀ (rs : List Rv) (i : Nat) (r : Rv) (j : Nat) (u : Value), rs[i]? = some r → r.cells[j]? = some u → (flatR rs)[i * 3 + j]? = some u
  | [], i, r, j, u, h, _ => by simp at h
  | m :: rs, 0, r, j, u, h, hj => by
    simp at h
    subst h
    rw [flatR, List.getElem?_append_left (by have := (List.getElem?_eq_some_iff.1 hj).1; omega)]
    rw [Nat.zero_mul, Nat.zero_add]
    exact hj
  | m :: rs, i + 1, r, j, u, h, hj => by
    have hl : m.cells.length = 3 := rfl
    rw [flatR, List.getElem?_append_right (by omega), hl, show (i + 1) * 3 + j - 3 = i * 3 + j by omega]
    exact flatR_at rs i r j u (by simpa using h) hj
theorem flatR_set : ∀ (rs : List Rv) (i : Nat) (r : Rv), i < rs.length → (((flatR rs).set (i * 3) r.a.v).set (i * 3 + 1) r.l.v).set (i * 3 + 2) (.bool r.b) = flatR (rs.set i r)
  | [], i, r, h => by simp at h
  | m :: rs, 0, r, h => by simp [flatR, Rv.cells]
  | m :: rs, i + 1, r, h => by
    have ih := flatR_set rs i r (by simpa using h)
    simp only [flatR, Rv.cells, List.set_cons_succ, List.cons_append, List.nil_append, show (i + 1) * 3 = i * 3 + 1 + 1 + 1 by omega, show i * 3 + 1 + 1 + 1 + 1 = i * 3 + 1 + 1 + 1 + 1 from rfl]
    rw [ih]
def FF (gR : Nat) (vl vw : Value) : List Nat := gR :: (vl.ownBlock.toList ++ vw.ownBlock.toList)
theorem mem_FF {gR : Nat} {vl vw : Value} {y : Nat} : y ∈ FF gR vl vw ↔ y = gR ∨ vl.ownBlock = some y ∨ vw.ownBlock = some y := by
  unfold FF
  simp [Option.mem_toList]
structure Wm (base : Nat) (w : World) (vl vw : Value) (gR : Nat) (rs : List Rv) (wv : List Value) (ls : List Ln) (ws : List (List Int)) (xs : List RunL) : Prop where
  lines : Row w base 12 vl ls.length (flatL ls)
  ways : Row w base 1 vw ws.length wv
  wayl : ∀ (i : Nat) l, ws[i]? = some l → ∃ v, wv[i]? = some v ∧ Still w base (FF gR vl vw) v l
  box : Blk w gR 35 (flatR rs)
  rlen : rs.length = 4
  runs : ∀ (k : Nat) r x, rs[k]? = some r → xs[k]? = some x → Still w base (FF gR vl vw) r.a.v x.all ∧ Still w base (FF gR vl vw) r.l.v x.left ∧ r.b = x.back
  apt : Apt vl vw
  gl : vl.ownBlock ≠ some gR
  gw : vw.ownBlock ≠ some gR
  low : base ≤ gR
section
variable {base : Nat} {w w' : World} {vl vw : Value} {gR : Nat} {rs : List Rv} {wv : List Value} {lines : List Ln} {ways : List (List Int)} {runs : List RunL}
theorem Wm.kept (h : Wm base w vl vw gR rs wv lines ways runs) (k : Kept [] w w') : Wm base w' vl vw gR rs wv lines ways runs :=
  ⟨h.lines.kept k (by simp), h.ways.kept k (by simp), fun i l hl => by
    obtain ⟨v, h1, h2⟩ := h.wayl i l hl
    exact ⟨v, h1, h2.kept k (by simp)⟩, h.box.kept k (by simp), h.rlen, fun i r x hr hx => by
    obtain ⟨h1, h2, h3⟩ := h.runs i r x hr hx
    exact ⟨h1.kept k (by simp), h2.kept k (by simp), h3⟩, h.apt, h.gl, h.gw, h.low⟩
theorem Wm.lt (h : Wm base w vl vw gR rs wv lines ways runs) : ∀ y ∈ FF gR vl vw, y < w.heap.size := fun y hy => by
  rcases mem_FF.1 hy with rfl | q | q
  · exact h.box.lt
  · exact (Row.lt h.lines y q).2
  · exact (Row.lt h.ways y q).2
theorem Wm.above (h : Wm base w vl vw gR rs wv lines ways runs) : ∀ y ∈ FF gR vl vw, base ≤ y := fun y hy => by
  rcases mem_FF.1 hy with rfl | q | q
  · exact h.low
  · exact (Row.lt h.lines y q).1
  · exact (Row.lt h.ways y q).1
theorem Wm.setRun (h : Wm base w vl vw gR rs wv lines ways runs) {k : Nat} (hk : k < 4) {r : Rv} {x : RunL} (sa : Still w base (FF gR vl vw) r.a.v x.all) (sl : Still w base (FF gR vl vw) r.l.v x.left) (sb : r.b = x.back) (hw : w' = ((w.setCell ⟨gR, k * 3, none⟩ r.a.v).setCell ⟨gR, k * 3 + 1, none⟩ r.l.v).setCell ⟨gR, k * 3 + 2, none⟩ (.bool r.b)) :
    Wm base w' vl vw gR (rs.set k r) wv lines ways (runs.set k x) ∧ Kept [gR] w w' := by
  obtain ⟨b1, k1⟩ := h.box.set (k * 3) r.a.v
  obtain ⟨b2, k2⟩ := b1.set (k * 3 + 1) r.l.v
  obtain ⟨b3, k3⟩ := b2.set (k * 3 + 2) (.bool r.b)
  rw [← hw] at b3 k3
  rw [flatR_set rs k r (by rw [h.rlen]; exact hk)] at b3
  have K : Kept [gR] w w' := (k1.trans k2 (fun x hx => .inl hx)).trans k3 (fun x hx => .inl hx)
  have hS : ∀ y ∈ [gR], y ∈ FF gR vl vw ∨ w.heap.size ≤ y := fun y hy => .inl (by simp at hy; exact mem_FF.2 (.inl hy))
  refine ⟨⟨h.lines.kept K (fun y hy hm => by simp at hm; subst hm; exact h.gl hy), h.ways.kept K (fun y hy hm => by simp at hm; subst hm; exact h.gw hy), fun i l hl => ?_, b3, by rw [List.length_set]; exact h.rlen, fun i r' x' hr hx => ?_, h.apt, h.gl, h.gw, h.low⟩, K⟩
  · obtain ⟨v, h1, h2⟩ := h.wayl i l hl
    exact ⟨v, h1, h2.kept K hS⟩
  · rw [List.getElem?_set] at hr hx
    by_cases c : k = i
    · subst c
      rw [if_pos rfl] at hr hx
      split at hr
      · split at hx
        · cases hr; cases hx
          exact ⟨sa.kept K hS, sl.kept K hS, sb⟩
        · cases hx
      · cases hr
    · rw [if_neg c] at hr hx
      obtain ⟨h1, h2, h3⟩ := h.runs i r' x' hr hx
      exact ⟨h1.kept K hS, h2.kept K hS, h3⟩
theorem Wm.addLine (h : Wm base w vl vw gR rs wv lines ways runs) {vl' : Value} {l : Ln} (hr : Row w' base 12 vl' (lines.length + 1) (flatL lines ++ l.cells)) (hk : Kept vl.ownBlock.toList w w') (hat : vl'.ownBlock = vl.ownBlock ∨ (vl'.ownBlock = some w.heap.size ∧ Kept [] w w')) : Wm base w' vl' vw gR rs wv (lines ++ [l]) ways runs := by
  have hF : ∀ y ∈ FF gR vl' vw, y ∈ FF gR vl vw ∨ w.heap.size ≤ y := fun y hy => by
    rcases mem_FF.1 hy with q | q | q
    · exact .inl (mem_FF.2 (.inl q))
    · rcases hat with e | ⟨e, -⟩
      · exact .inl (mem_FF.2 (.inr (.inl (by rw [← e]; exact q))))
      · rw [e] at q
        exact .inr (by have := Option.some.inj q; omega)
    · exact .inl (mem_FF.2 (.inr (.inr q)))
  have hS : ∀ y ∈ vl.ownBlock.toList, y ∈ FF gR vl vw := fun y hy => mem_FF.2 (.inr (.inl (Option.mem_toList.1 hy)))
  have hg := h.box.lt
  refine ⟨?_, h.ways.kept hk h.apt.symm.not_mem, fun i m hm => ?_, h.box.kept hk (fun hm => h.gl (Option.mem_toList.1 hm)), h.rlen, fun i r x hr hx => ?_, Apt.push h.apt (fun y hy => (Row.lt h.ways y hy).2) hat, fun c => ?_, h.gw, h.low⟩
  · rw [List.length_append, flatL_append, show flatL [l] = l.cells by simp [flatL]]
    exact hr
  · obtain ⟨v, h1, h2⟩ := h.wayl i m hm
    exact ⟨v, h1, h2.step hk hS hF⟩
  · obtain ⟨h1, h2, h3⟩ := h.runs i r x hr hx
    exact ⟨h1.step hk hS hF, h2.step hk hS hF, h3⟩
  · rcases hat with e | ⟨e, -⟩
    · exact h.gl (by rw [← e]; exact c)
    · rw [e] at c
      have := Option.some.inj c
      omega
theorem Wm.addWay (h : Wm base w vl vw gR rs wv lines ways runs) {vw' v : Value} {l : List Int} (sv : Still w base (FF gR vl vw) v l) (hr : Row w' base 1 vw' (ways.length + 1) (wv ++ [v])) (hk : Kept vw.ownBlock.toList w w') (hat : vw'.ownBlock = vw.ownBlock ∨ (vw'.ownBlock = some w.heap.size ∧ Kept [] w w')) : Wm base w' vl vw' gR rs (wv ++ [v]) lines (ways ++ [l]) runs := by
  have hF : ∀ y ∈ FF gR vl vw', y ∈ FF gR vl vw ∨ w.heap.size ≤ y := fun y hy => by
    rcases mem_FF.1 hy with q | q | q
    · exact .inl (mem_FF.2 (.inl q))
    · exact .inl (mem_FF.2 (.inr (.inl q)))
    · rcases hat with e | ⟨e, -⟩
      · exact .inl (mem_FF.2 (.inr (.inr (by rw [← e]; exact q))))
      · rw [e] at q
        exact .inr (by have := Option.some.inj q; omega)
  have hS : ∀ y ∈ vw.ownBlock.toList, y ∈ FF gR vl vw := fun y hy => mem_FF.2 (.inr (.inr (Option.mem_toList.1 hy)))
  have hg := h.box.lt
  have hwl : wv.length = ways.length := by have := h.ways.1; omega
  refine ⟨h.lines.kept hk h.apt.not_mem, ?_, fun i m hm => ?_, h.box.kept hk (fun hm => h.gw (Option.mem_toList.1 hm)), h.rlen, fun i r x hr hx => ?_, (Apt.push h.apt.symm (fun y hy => (Row.lt h.lines y hy).2) hat).symm, h.gl, fun c => ?_, h.low⟩
  · rw [List.length_append]
    exact hr
  · by_cases c : i < ways.length
    · rw [List.getElem?_append_left c] at hm
      obtain ⟨v', h1, h2⟩ := h.wayl i m hm
      exact ⟨v', by rw [List.getElem?_append_left (by omega)]; exact h1, h2.step hk hS hF⟩
    · have hi : i = ways.length := by
        have := (List.getElem?_eq_some_iff.1 hm).1
        simp at this
        omega
      subst hi
      rw [List.getElem?_append_right (Nat.le_refl _)] at hm
      simp at hm
      subst hm
      exact ⟨v, by rw [List.getElem?_append_right (by omega), hwl]; simp, sv.step hk hS hF⟩
  · obtain ⟨h1, h2, h3⟩ := h.runs i r x hr hx
    exact ⟨h1.step hk hS hF, h2.step hk hS hF, h3⟩
  · rcases hat with e | ⟨e, -⟩
    · exact h.gw (by rw [← e]; exact c)
    · rw [e] at c
      have := Option.some.inj c
      omega
theorem Wm.start (hw : Blk w gR 35 (flatR [⟨.nil, .nil, false⟩, ⟨.nil, .nil, false⟩, ⟨.nil, .nil, false⟩, ⟨.nil, .nil, false⟩])) (hb : base ≤ gR) : Wm base w (.slice none 0 0) (.slice none 0 0) gR [⟨.nil, .nil, false⟩, ⟨.nil, .nil, false⟩, ⟨.nil, .nil, false⟩, ⟨.nil, .nil, false⟩] [] [] [] [.none, .none, .none, .none] := by
  refine ⟨Row.nil _ _ _, Row.nil _ _ _, fun i l hl => by simp at hl, hw, rfl, fun k r x hr hx => ?_, Apt.nil _, (fun c => by cases c), (fun c => by cases c), hb⟩
  have e1 : r = ⟨.nil, .nil, false⟩ := by
    have := List.mem_of_getElem? hr
    simpa using this
  have e2 : x = RunL.none := by
    have := List.mem_of_getElem? hx
    simpa using this
  subst e1 e2
  exact ⟨⟨Ns.nil _ _, fun y hy => by cases hy⟩, ⟨Ns.nil _ _, fun y hy => by cases hy⟩, rfl⟩
theorem Wm.reads (h : Wm base w vl vw gR rs wv lines ways runs) (hf : ∀ l ∈ lines, l.fits) : Lines w vl lines := by
  obtain ⟨h1, h2, p, c, e, h3, h4, h5⟩ := h.lines
  subst e
  refine ⟨hf, p, c, rfl, h3, h4, fun hn => ?_⟩
  rcases h5 with ⟨rfl, rfl⟩ | ⟨g, rfl, h6, h7, h8, h9⟩
  · exact absurd (List.length_eq_zero_iff.1 (by omega)) hn
  · exact ⟨g, 0, rfl, h7, fun i l hl j u hj => by rw [Nat.zero_add]; exact h8 _ u (flatL_at lines i l j u hl hj)⟩
end
theorem still_line {base : Nat} {w w' : World} {vl vl' vw v : Value} {gR : Nat} {l : List Int} (s : Still w base (FF gR vl vw) v l) (hk : Kept vl.ownBlock.toList w w') (hat : vl'.ownBlock = vl.ownBlock ∨ (vl'.ownBlock = some w.heap.size ∧ Kept [] w w')) : Still w' base (FF gR vl' vw) v l :=
  s.step hk (fun y hy => mem_FF.2 (.inr (.inl (Option.mem_toList.1 hy)))) fun y hy => by
    rcases mem_FF.1 hy with q | q | q
    · exact .inl (mem_FF.2 (.inl q))
    · rcases hat with e | ⟨e, -⟩
      · exact .inl (mem_FF.2 (.inr (.inl (by rw [← e]; exact q))))
      · rw [e] at q
        exact .inr (by have := Option.some.inj q; omega)
    · exact .inl (mem_FF.2 (.inr (.inr q)))
theorem Blk.same {w : World} {g : Nat} {t : TypeId} {cs cs' : List Value} (h : Blk w g t cs) (h' : Blk w g t cs') : cs = cs' := by
  unfold Blk at h h'
  rw [h] at h'
  simpa using h'
theorem src_cells {P : Program} (w : World) (sz : Nat) (t e : TypeId) (ht : P.underlying t = some (.slice e)) (cs : List Value) (hl : cs.length = 1 * sz) (h1 : ∀ u ∈ cs, u.oneCell' = true) (ca : Array Value) (hca : ca = cs.toArray) : Src P sz t (.slice (some ⟨w.heap.size, 0, none⟩) 1 1) 1 cs (w.alloc (.cells ca e)) := by
  subst hca
  refine Src.ofSlice _ ht _ _ _ _ hl (fun j u hj => ?_) h1
  rw [add_none rfl]
  have q := (Blk.new w e cs).cell hj
  simpa using q
end Go.Proofs.Ytinlhojojeabcaa

/-
  OWN WORK (by mkch7.py). Layer 12: lines that came in.
-/
namespace Go.Proofs.Ytinlhojojeabcaa
open Go.ChangeShapes Go.WideShapes Go.ChangeAt Go.RowKit Go.Deep
set_option linter.unusedVariables false
set_option linter.unusedSimpArgs false

theorem i64_of_wf {z : Int} (h : (Lit.int .i64 z).wf = true) : I64 z := by
  have hb : -9223372036854775808 ≤ z ∧ z ≤ 9223372036854775807 := by simpa [Lit.wf, IntKind.min, IntKind.max, IntKind.signed, IntKind.bits] using h
  exact ⟨by omega, by omega⟩
theorem choose_lt12 {α : Type} [Inhabited α] {n : Nat} {Q : Nat → α → Prop} (h : ∀ i, i < n → ∃ q, Q i q) : ∃ q : Nat → α, ∀ i, i < n → Q i (q i) := by
  refine ⟨fun i => if hi : i < n then Classical.choose (h i hi) else default, fun i hi => ?_⟩
  simp only [hi, dite_true]
  exact Classical.choose_spec (h i hi)
theorem list2_of {α : Type} {l : List α} (h : l.length = 2) : ∃ a0 a1, l = [a0, a1] := by
  match l, h with
  | [a0, a1], _ => exact ⟨a0, a1, rfl⟩
theorem list3_of {α : Type} {l : List α} (h : l.length = 3) : ∃ a0 a1 a2, l = [a0, a1, a2] := by
  match l, h with
  | [a0, a1, a2], _ => exact ⟨a0, a1, a2, rfl⟩
theorem list11_of {α : Type} {l : List α} (h : l.length = 11) : ∃ a0 a1 a2 a3 a4 a5 a6 a7 a8 a9 a10, l = [a0, a1, a2, a3, a4, a5, a6, a7, a8, a9, a10] := by
  match l, h with
  | [a0, a1, a2, a3, a4, a5, a6, a7, a8, a9, a10], _ => exact ⟨a0, a1, a2, a3, a4, a5, a6, a7, a8, a9, a10, rfl⟩
theorem list12_of {α : Type} {l : List α} (h : l.length = 12) : ∃ a0 a1 a2 a3 a4 a5 a6 a7 a8 a9 a10 a11, l = [a0, a1, a2, a3, a4, a5, a6, a7, a8, a9, a10, a11] := by
  match l, h with
  | [a0, a1, a2, a3, a4, a5, a6, a7, a8, a9, a10, a11], _ => exact ⟨a0, a1, a2, a3, a4, a5, a6, a7, a8, a9, a10, a11, rfl⟩
theorem sv_open12 {H : Type} {enc : TypeId × Value → H} {W : World} {t e : TypeId} {fuel : Nat} {v : Value} {x : DataW H × List MemPlace} (ht : Try.prog.underlying t = some (.slice e))
    (hf : DataW.trod enc Try.prog W 0 (fun _ => true) true fuel t [v] = some x) : ∃ s : Sv, v = .slice s.p s.n s.c := by
  rcases open_slice ht hf with ⟨hcs, hx⟩ | ⟨a, l, c, m, n, D, Pl, hcs, hb, hl, hm, hmm, hx, hel⟩
  · simp [Value.cells] at hcs
    exact ⟨⟨_, _, _⟩, hcs⟩
  · simp [Value.cells] at hcs
    exact ⟨⟨_, _, _⟩, hcs⟩
theorem lines_open {H : Type} {enc : TypeId × Value → H} {W : World} {t e : TypeId} {f0 f1 : Field} {g0 g1 g2 g3 g4 g5 g6 g7 g8 g9 g10 : Field} {ao : Option Addr} {len cap : Nat} {d : DataW H} {p : List MemPlace} (ht : Try.prog.underlying t = some (.slice e)) (he : Try.prog.underlying e = some (.struct #[f0, f1])) (ce : Try.prog.cellsOf e = 12) (fo0 : f0.offset = 0) (fo1 : f1.offset = 1) (fc0 : Try.prog.cellsOf f0.type = 1) (fc1 : Try.prog.cellsOf f1.type = 11) (ft0 : Try.prog.underlying f0.type = some (.int .i64)) (ft1 : Try.prog.underlying f1.type = some (.struct #[g0, g1, g2, g3, g4, g5, g6, g7, g8, g9, g10]))
    (o0 : g0.offset = 0) (c0 : Try.prog.cellsOf g0.type = 1) (o1 : g1.offset = 1) (c1 : Try.prog.cellsOf g1.type = 1) (o2 : g2.offset = 2) (c2 : Try.prog.cellsOf g2.type = 1) (o3 : g3.offset = 3) (c3 : Try.prog.cellsOf g3.type = 1) (o4 : g4.offset = 4) (c4 : Try.prog.cellsOf g4.type = 1) (o5 : g5.offset = 5) (c5 : Try.prog.cellsOf g5.type = 1) (o6 : g6.offset = 6) (c6 : Try.prog.cellsOf g6.type = 1) (o7 : g7.offset = 7) (c7 : Try.prog.cellsOf g7.type = 1) (o8 : g8.offset = 8) (c8 : Try.prog.cellsOf g8.type = 1) (o9 : g9.offset = 9) (c9 : Try.prog.cellsOf g9.type = 1) (o10 : g10.offset = 10) (c10 : Try.prog.cellsOf g10.type = 1)
    (t0 : Try.prog.underlying g0.type = some (.int .i64)) (t1 : Try.prog.underlying g1.type = some (.int .i64)) (t2 : Try.prog.underlying g2.type = some (.int .i64)) (t3 : Try.prog.underlying g3.type = some (.int .i64)) (t4 : Try.prog.underlying g4.type = some (.int .i64)) (t5 : Try.prog.underlying g5.type = some (.int .i64)) {e6 : TypeId} (t6 : Try.prog.underlying g6.type = some (.slice e6)) {e7 : TypeId} (t7 : Try.prog.underlying g7.type = some (.slice e7)) (t8 : Try.prog.underlying g8.type = some (.int .i64)) {e9 : TypeId} (t9 : Try.prog.underlying g9.type = some (.slice e9)) {e10 : TypeId} (t10 : Try.prog.underlying g10.type = some (.slice e10))
    (h : DataW.Trod enc Try.prog W 0 (fun _ => true) true t (.slice ao len cap) d p) : ∃ ls : List Ln, ls.length = len ∧ Lines W (.slice ao len cap) ls := by
  obtain ⟨fuel, hf⟩ := h
  rcases open_slice ht hf with ⟨hcs, hx⟩ | ⟨a, l, c, m, n, D, Pl, hcs, hb, hl, hm, hmm, hx, hel⟩
  · simp [Value.cells] at hcs
    obtain ⟨rfl, rfl, rfl⟩ := hcs
    exact ⟨[], rfl, ⟨fun l hl => by simp at hl, none, 0, rfl, Nat.le_refl _, by simp [maxLen], fun hn => absurd rfl hn⟩⟩
  · simp [Value.cells] at hcs
    obtain ⟨rfl, rfl, rfl⟩ := hcs
    have hmm' : m = cap := by simpa using hmm
    have each : ∀ i, i < m → ∃ q : Ln, q.fits ∧ ∀ (j : Nat) u, q.cells[j]? = some u → W.cell? ((a.add (i * 12)).add j) = some u := by
      intro i hi
      obtain ⟨cs', g1', g2'⟩ := hel i hi
      rw [ce] at g1'
      obtain ⟨_, hlen, hcell⟩ := World.cells?_some g1'
      obtain ⟨xs, k, hk, hxy, _, hxl, hff⟩ := DataW.trod_struct he g2'
      obtain ⟨y0, y1, rfl⟩ := list2_of (show xs.length = 2 from hxl)
      obtain ⟨v0, v1, v2, v3, v4, v5, v6, v7, v8, v9, v10, v11, rfl⟩ := list12_of hlen
      have q0 := hff 0 f0 rfl
      have q1 := hff 1 f1 rfl
      simp [fo0, fo1, fc0, fc1] at q0 q1
      obtain ⟨z0, e0, -, w0⟩ := DataW.trod_int ft0 q0
      simp at e0
      obtain ⟨xs2, k2, hk2, hxy2, _, hxl2, hff2⟩ := DataW.trod_struct ft1 q1
      obtain ⟨u0, u1, u2, u3, u4, u5, u6, u7, u8, u9, u10, rfl⟩ := list11_of (show xs2.length = 11 from hxl2)
      have r0 := hff2 0 g0 rfl
      have r1 := hff2 1 g1 rfl
      have r2 := hff2 2 g2 rfl
      have r3 := hff2 3 g3 rfl
      have r4 := hff2 4 g4 rfl
      have r5 := hff2 5 g5 rfl
      have r6 := hff2 6 g6 rfl
      have r7 := hff2 7 g7 rfl
      have r8 := hff2 8 g8 rfl
      have r9 := hff2 9 g9 rfl
      have r10 := hff2 10 g10 rfl
      simp [o0, c0, o1, c1, o2, c2, o3, c3, o4, c4, o5, c5, o6, c6, o7, c7, o8, c8, o9, c9, o10, c10] at r0 r1 r2 r3 r4 r5 r6 r7 r8 r9 r10
      obtain ⟨s0, e0', -, w0'⟩ := DataW.trod_int t0 r0
      simp at e0'
      obtain ⟨s1, e1', -, w1'⟩ := DataW.trod_int t1 r1
      simp at e1'
      obtain ⟨s2, e2', -, w2'⟩ := DataW.trod_int t2 r2
      simp at e2'
      obtain ⟨s3, e3', -, w3'⟩ := DataW.trod_int t3 r3
      simp at e3'
      obtain ⟨s4, e4', -, w4'⟩ := DataW.trod_int t4 r4
      simp at e4'
      obtain ⟨s5, e5', -, w5'⟩ := DataW.trod_int t5 r5
      simp at e5'
      obtain ⟨s6, e6'⟩ := sv_open12 t6 r6
      obtain ⟨s7, e7'⟩ := sv_open12 t7 r7
      obtain ⟨s8, e8', -, w8'⟩ := DataW.trod_int t8 r8
      simp at e8'
      obtain ⟨s9, e9'⟩ := sv_open12 t9 r9
      obtain ⟨s10, e10'⟩ := sv_open12 t10 r10
      subst e0 e0' e1' e2' e3' e4' e5' e6' e7' e8' e9' e10'
      refine ⟨⟨z0, ⟨s0, s1, s2, s3, s4, s5, s6, s7, s8, s9, s10⟩⟩, ⟨i64_of_wf w0, i64_of_wf w0', i64_of_wf w1', i64_of_wf w2', i64_of_wf w8'⟩, fun j u hj => ?_⟩
      have hj12 : j < 12 := (List.getElem?_eq_some_iff.1 hj).1
      have q := hcell j hj12
      rw [q]
      match j, hj12, hj with
      | 0, _, hj => simpa [Ln.cells, Lv.cells] using hj
      | 1, _, hj => simpa [Ln.cells, Lv.cells] using hj
      | 2, _, hj => simpa [Ln.cells, Lv.cells] using hj
      | 3, _, hj => simpa [Ln.cells, Lv.cells] using hj
      | 4, _, hj => simpa [Ln.cells, Lv.cells] using hj
      | 5, _, hj => simpa [Ln.cells, Lv.cells] using hj
      | 6, _, hj => simpa [Ln.cells, Lv.cells] using hj
      | 7, _, hj => simpa [Ln.cells, Lv.cells] using hj
      | 8, _, hj => simpa [Ln.cells, Lv.cells] using hj
      | 9, _, hj => simpa [Ln.cells, Lv.cells] using hj
      | 10, _, hj => simpa [Ln.cells, Lv.cells] using hj
      | 11, _, hj => simpa [Ln.cells, Lv.cells] using hj
    haveI : Inhabited Ln := ⟨⟨0, .zero⟩⟩
    obtain ⟨q, hq⟩ := choose_lt12 each
    refine ⟨(List.range len).map q, by simp, ⟨fun l hl' => ?_, some a, cap, by simp, by simpa using hl, hm, fun hn => ?_⟩⟩
    · obtain ⟨i, hi, rfl⟩ := List.mem_map.1 hl'
      exact (hq i (by have := List.mem_range.1 hi; omega)).1
    · have hlen : 0 < len := by
        rcases Nat.eq_zero_or_pos len with c | c
        · subst c; exact absurd rfl hn
        · exact c
      have h0 := (hq 0 (by omega)).2 0 _ rfl
      have hs := spot_of_cell h0
      have hs' : a.spot = none := by
        unfold Addr.add at hs
        split at hs <;> simp_all
      obtain ⟨b, o, sp⟩ := a
      simp only at hs'
      subst hs'
      have hlt : b < W.heap.size := by
        have e : (((⟨b, o, none⟩ : Addr).add (0 * 12)).add 0).block = b := rfl
        have := lt_of_cell h0
        omega
      refine ⟨b, o, rfl, hlt, fun i s hs' j u hj => ?_⟩
      simp only [List.getElem?_map] at hs'
      obtain ⟨k, hk, rfl⟩ := Option.map_eq_some_iff.1 hs'
      obtain ⟨hk2, rfl⟩ := List.getElem?_eq_some_iff.1 hk
      have hi : i < len := by simpa using hk2
      simp only [List.getElem_range] at hj
      have q2 := (hq i (by omega)).2 j u hj
      rw [add_none (a := ⟨b, o, none⟩) rfl, add_none (a := ⟨b, o + i * 12, none⟩) rfl] at q2
      exact q2
end Go.Proofs.Ytinlhojojeabcaa

/-
  OWN WORK. Layer 12: the law's into; a plan that came in.
-/
namespace Go.Proofs.Ytinlhojojeabcaa
open Go.ChangeShapes Go.WideShapes Go.ChangeAt Go.RowKit Go.Deep
set_option linter.unusedVariables false

theorem tmod_neg_iff {n t : Int} (ht : 0 < t) : (n.tmod t < 0 → n.tmod t + t = n % t) ∧ (¬ n.tmod t < 0 → n.tmod t = n % t) ∧ -t < n.tmod t ∧ n.tmod t < t := by
  have h1 := Int.emod_nonneg n (show t ≠ 0 by omega)
  have h2 := Int.emod_lt_of_pos n ht
  have h3 : n.tmod t = if 0 ≤ n ∨ t ∣ n then n % t else n % t - t := by
    rw [Int.tmod_eq_emod]
    by_cases hc : 0 ≤ n ∨ t ∣ n
    · rw [if_pos hc, if_pos hc]; omega
    · rw [if_neg hc, if_neg hc]; omega
  split at h3
  · exact ⟨fun c => by omega, fun _ => h3, by omega, by omega⟩
  · rename_i hc
    have : n % t ≠ 0 := fun q => hc (.inr (Int.dvd_of_emod_eq_zero q))
    exact ⟨fun _ => by omega, fun c => by omega, by omega, by omega⟩
set_option maxRecDepth 20000 in
set_option maxHeartbeats 1600000 in
theorem into_any (n t : Int) (w : World) (ht : 0 < t) (ht2 : t ≤ 1000) : Calls Try.prog 15 #[.int .i64 n, .int .i64 t] w fun e w' => e = .returned (.int .i64 (n % t)) ∧ w' = w := by
  obtain ⟨h1, h2, h3, h4⟩ := tmod_neg_iff (n := n) ht
  have wk : IntKind.i64.wrap (n.tmod t) = n.tmod t := wrap_i64_of (by omega) (by omega)
  have wk2 : IntKind.i64.wrap (n.tmod t + t) = n.tmod t + t := wrap_i64_of (by omega) (by omega)
  have t0 : (t == 0) = false := by simp; omega
  have t0' : ¬ t = 0 := by omega
  obtain ⟨q, hq⟩ : ∃ q, q = n % t := ⟨_, rfl⟩
  rw [← hq] at h1 h2 ⊢
  have HQ := @hideH _ (And.intro h1 h2)
  clear hq h1 h2 ht2
  by_cases c : n.tmod t < 0
  · have hc := HQ.out.1 c
    have HC := @hideH _ hc
    clear hc h3 h4
    go_enter Try.func15, Try.ntmps15
    go_wp2
    go_ret
    exact ⟨by rw [← HC.out]; rfl, rfl⟩
  · have hc := HQ.out.2 c
    have HC := @hideH _ hc
    clear hc h3 h4
    go_enter Try.func15, Try.ntmps15
    go_wp2
    go_ret
    exact ⟨by rw [← HC.out]; rfl, rfl⟩
structure ActAt (w : World) (b o : Nat) (a : ActL) : Prop where
  c0 : w.cell? ⟨b, o, none⟩ = some (.int .i64 a.by_)
  c1 : w.cell? ⟨b, o + 1, none⟩ = some (.int .i64 a.what)
  c2 : w.cell? ⟨b, o + 2, none⟩ = some (.int .i64 a.gap)
/-- v is a slice of these acts -/
def Acts (w : World) (v : Value) (pl : List ActL) : Prop :=
  ∃ (p : Option Addr) (c : Nat), v = .slice p pl.length c ∧ pl.length ≤ c ∧ c ≤ maxLen ∧ ∀ (i : Nat) a, pl[i]? = some a → ∃ b o, p = some ⟨b, o, none⟩ ∧ ActAt w b (o + i * 3) a
theorem Acts.kept {w w' : World} {v : Value} {pl : List ActL} (h : Acts w v pl) (k : Kept [] w w') : Acts w' v pl := by
  obtain ⟨p, c, rfl, h1, h2, h3⟩ := h
  refine ⟨p, c, rfl, h1, h2, fun i a ha => ?_⟩
  obtain ⟨b, o, e, q⟩ := h3 i a ha
  exact ⟨b, o, e, k.cell q.c0 (by simp), k.cell q.c1 (by simp), k.cell q.c2 (by simp)⟩
theorem Acts.shape {w : World} {v : Value} {pl : List ActL} (h : Acts w v pl) : ∃ p c, v = .slice p pl.length c ∧ pl.length ≤ maxLen := by
  obtain ⟨p, c, e, h1, h2, -⟩ := h
  exact ⟨p, c, e, by omega⟩
theorem Acts.at {w : World} {p : Option Addr} {n c : Nat} {pl : List ActL} (h : Acts w (.slice p n c) pl) {k : Nat} {a : ActL} (hk : pl[k]? = some a) : ∃ b o, p = some ⟨b, o, none⟩ ∧ ActAt w b (o + k * 3) a := by
  obtain ⟨p', c', e, h1, h2, h3⟩ := h
  cases e
  exact h3 k a hk
theorem acts_open {H : Type} {enc : TypeId × Value → H} {W : World} {t e : TypeId} {f0 f1 f2 : Field} {ao : Option Addr} {len cap : Nat} {d : DataW H} {p : List MemPlace} (ht : Try.prog.underlying t = some (.slice e)) (he : Try.prog.underlying e = some (.struct #[f0, f1, f2]))
    (ce : Try.prog.cellsOf e = 3) (o0 : f0.offset = 0) (o1 : f1.offset = 1) (o2 : f2.offset = 2)
    (c0 : Try.prog.cellsOf f0.type = 1) (c1 : Try.prog.cellsOf f1.type = 1) (c2 : Try.prog.cellsOf f2.type = 1)
    (t0 : Try.prog.underlying f0.type = some (.int .i64)) (t1 : Try.prog.underlying f1.type = some (.int .i64)) (t2 : Try.prog.underlying f2.type = some (.int .i64))
    (h : DataW.Trod enc Try.prog W 0 (fun _ => true) true t (.slice ao len cap) d p) : ∃ pl : List ActL, pl.length = len ∧ Acts W (.slice ao len cap) pl := by
  obtain ⟨fuel, hf⟩ := h
  rcases open_slice ht hf with ⟨hcs, hx⟩ | ⟨a, l, c, m, n, D, Pl, hcs, hb, hl, hm, hmm, hx, hel⟩
  · simp [Value.cells] at hcs
    obtain ⟨rfl, rfl, rfl⟩ := hcs
    exact ⟨[], rfl, ⟨none, 0, rfl, Nat.le_refl _, by simp [maxLen], fun i a ha => by simp at ha⟩⟩
  · simp [Value.cells] at hcs
    obtain ⟨rfl, rfl, rfl⟩ := hcs
    have hmm' : m = cap := by simpa using hmm
    have each : ∀ i, i < m → ∃ q : ActL, W.cell? ((a.add (i * 3)).add 0) = some (.int .i64 q.by_) ∧ W.cell? ((a.add (i * 3)).add 1) = some (.int .i64 q.what) ∧ W.cell? ((a.add (i * 3)).add 2) = some (.int .i64 q.gap) := by
      intro i hi
      obtain ⟨cs', g1, g2⟩ := hel i hi
      rw [ce] at g1
      obtain ⟨_, hlen, hcell⟩ := World.cells?_some g1
      obtain ⟨xs, k, hk, hxy, _, hxl, hff⟩ := DataW.trod_struct he g2
      obtain ⟨y0, y1, y2, rfl⟩ := list3_of (show xs.length = 3 from hxl)
      obtain ⟨v0, v1, v2, rfl⟩ := list3_of hlen
      have q0 := hff 0 f0 rfl
      have q1 := hff 1 f1 rfl
      have q2 := hff 2 f2 rfl
      simp [o0, o1, o2, c0, c1, c2] at q0 q1 q2
      obtain ⟨z0, e0, -, w0⟩ := DataW.trod_int t0 q0
      obtain ⟨z1, e1, -, w1⟩ := DataW.trod_int t1 q1
      obtain ⟨z2, e2, -, w2⟩ := DataW.trod_int t2 q2
      simp at e0 e1 e2
      subst e0 e1 e2
      have x0 := hcell 0 (by omega)
      have x1 := hcell 1 (by omega)
      have x2 := hcell 2 (by omega)
      exact ⟨⟨z0, z1, z2⟩, by simpa using x0, by simpa using x1, by simpa using x2⟩
    haveI : Inhabited ActL := ⟨⟨0, 0, 0⟩⟩
    obtain ⟨q, hq⟩ := choose_lt12 each
    refine ⟨(List.range len).map q, by simp, ⟨some a, cap, by simp, by simpa using hl, hm, fun i s hs => ?_⟩⟩
    simp only [List.getElem?_map] at hs
    obtain ⟨j, hj, rfl⟩ := Option.map_eq_some_iff.1 hs
    obtain ⟨hj2, rfl⟩ := List.getElem?_eq_some_iff.1 hj
    have hi : i < len := by simpa using hj2
    simp only [List.getElem_range]
    obtain ⟨g0, g1, g2⟩ := hq i (by omega)
    have hs' : a.spot = none := by
      have h0 := (hq 0 (by omega)).1
      clear g0 g1 g2 hq each hel hf
      have hs := spot_of_cell h0
      unfold Addr.add at hs
      split at hs <;> simp_all
    obtain ⟨b, o, sp⟩ := a
    simp only at hs'
    subst hs'
    rw [add_none (a := ⟨b, o, none⟩) rfl, add_none (a := ⟨b, o + i * 3, none⟩) rfl] at g0 g1 g2
    exact ⟨b, o, rfl, g0, g1, g2⟩
end Go.Proofs.Ytinlhojojeabcaa

/-
  OWN WORK (by mkchb.py). Layer 12: what the law's written does.
-/
namespace Go.Proofs.Ytinlhojojeabcaa
open Go.RowKit
set_option linter.unusedVariables false
set_option linter.unusedSimpArgs false

def WrOut (pl : List ActL) (w w' : World) (e : Ending) : Prop := ∃ (n : Nat) (vl vw : Value) (gR : Nat) (rs : List Rv) (wv : List Value), n ≤ pl.length ∧ n ≤ 300 ∧ e = .returned (.tuple #[vl, vw, .agg (flatR rs).toArray]) ∧ Wm (w.heap.size + 1) w' vl vw gR rs wv (wrote pl n).lines (wrote pl n).ways (wrote pl n).runs ∧ Kept [] w w'
def Written : Prop := ∀ (v : Value) (pl : List ActL) (w : World), Acts w v pl → Calls Try.prog 14 #[v] w fun e w' => WrOut pl w w' e
theorem list4_of {α : Type} {l : List α} (h : l.length = 4) : ∃ a0 a1 a2 a3, l = [a0, a1, a2, a3] := by
  match l, h with
  | [a0, a1, a2, a3], _ => exact ⟨a0, a1, a2, a3, rfl⟩
def cells12 (a b c d : Rv) : List Value := [a.a.v, a.l.v, .bool a.b, b.a.v, b.l.v, .bool b.b, c.a.v, c.l.v, .bool c.b, d.a.v, d.l.v, .bool d.b]
theorem flatR_four (a b c d : Rv) : flatR [a, b, c, d] = cells12 a b c d := rfl
/-- an element of a row of one cell each -/
theorem Row.get {w : World} {base n : Nat} {v : Value} {cs : List Value} (h : Row w base 1 v n cs) {i : Nat} {u : Value} (hi : cs[i]? = some u) : ∃ g c, v = .slice (some ⟨g, 0, none⟩) n c ∧ w.cell? ⟨g, i, none⟩ = some u := by
  obtain ⟨h1, h2, p, c, e, h3, h4, h5⟩ := h
  rcases h5 with ⟨rfl, rfl⟩ | ⟨g, rfl, h6, h7, h8, h9⟩
  · have := (List.getElem?_eq_some_iff.1 hi).1
    omega
  · exact ⟨g, c, e, h8 i u hi⟩
end Go.Proofs.Ytinlhojojeabcaa

/-
  OWN WORK. Chains (layer 12): the log that the law writes: one round more; the end.
-/
namespace Go.Proofs.Ytinlhojojeabcaa
open Go.RowKit
set_option linter.unusedVariables false

theorem Blk.fill12 {w : World} {g : Nat} {t : TypeId} {z0 z1 z2 z3 z4 z5 z6 z7 z8 z9 z10 z11 : Value} (h : Blk w g t [z0, z1, z2, z3, z4, z5, z6, z7, z8, z9, z10, z11]) (v0 v1 v2 v3 v4 v5 v6 v7 v8 v9 v10 v11 : Value) : Blk ((((((((((((w.setCell ⟨g, 0, none⟩ v0).setCell ⟨g, 1, none⟩ v1).setCell ⟨g, 2, none⟩ v2).setCell ⟨g, 3, none⟩ v3).setCell ⟨g, 4, none⟩ v4).setCell ⟨g, 5, none⟩ v5).setCell ⟨g, 6, none⟩ v6).setCell ⟨g, 7, none⟩ v7).setCell ⟨g, 8, none⟩ v8).setCell ⟨g, 9, none⟩ v9).setCell ⟨g, 10, none⟩ v10).setCell ⟨g, 11, none⟩ v11) g t [v0, v1, v2, v3, v4, v5, v6, v7, v8, v9, v10, v11] ∧ Kept [g] w ((((((((((((w.setCell ⟨g, 0, none⟩ v0).setCell ⟨g, 1, none⟩ v1).setCell ⟨g, 2, none⟩ v2).setCell ⟨g, 3, none⟩ v3).setCell ⟨g, 4, none⟩ v4).setCell ⟨g, 5, none⟩ v5).setCell ⟨g, 6, none⟩ v6).setCell ⟨g, 7, none⟩ v7).setCell ⟨g, 8, none⟩ v8).setCell ⟨g, 9, none⟩ v9).setCell ⟨g, 10, none⟩ v10).setCell ⟨g, 11, none⟩ v11) := by
  obtain ⟨b0, k0⟩ := h.set 0 v0
  obtain ⟨b1, k1⟩ := b0.set 1 v1
  obtain ⟨b2, k2⟩ := b1.set 2 v2
  obtain ⟨b3, k3⟩ := b2.set 3 v3
  obtain ⟨b4, k4⟩ := b3.set 4 v4
  obtain ⟨b5, k5⟩ := b4.set 5 v5
  obtain ⟨b6, k6⟩ := b5.set 6 v6
  obtain ⟨b7, k7⟩ := b6.set 7 v7
  obtain ⟨b8, k8⟩ := b7.set 8 v8
  obtain ⟨b9, k9⟩ := b8.set 9 v9
  obtain ⟨b10, k10⟩ := b9.set 10 v10
  obtain ⟨b11, k11⟩ := b10.set 11 v11
  exact ⟨b11, (((((((((((k0.trans k1 (fun x hx => .inl hx)).trans k2 (fun x hx => .inl hx)).trans k3 (fun x hx => .inl hx)).trans k4 (fun x hx => .inl hx)).trans k5 (fun x hx => .inl hx)).trans k6 (fun x hx => .inl hx)).trans k7 (fun x hx => .inl hx)).trans k8 (fun x hx => .inl hx)).trans k9 (fun x hx => .inl hx)).trans k10 (fun x hx => .inl hx)).trans k11 (fun x hx => .inl hx))⟩
theorem wrel_next {w w' : World} {pl : List ActL} {i k : Nat} {M : Int} {r : Lv} {al : List Int} {v5 v6 : Value} {rs : List Rv} {wv : List Value} {X : RunL} (hstep : wrote pl (i + 1) = ⟨M, (wrote pl i).lines ++ [⟨M, r⟩], (wrote pl i).ways ++ [al.reverse], (wrote pl i).runs.set k X⟩) (hi : i < 300) (h : Wm (w.heap.size + 1) w' v5 v6 (w.heap.size + 1) rs wv ((wrote pl i).lines ++ [⟨M, r⟩]) ((wrote pl i).ways ++ [al.reverse]) ((wrote pl i).runs.set k X)) (hB : Blk w' w.heap.size 35 [.slice none 0 0, .slice none 0 0, .bool false, .slice none 0 0, .slice none 0 0, .bool false, .slice none 0 0, .slice none 0 0, .bool false, .slice none 0 0, .slice none 0 0, .bool false]) (hK : Kept [] w w') :
    i + 1 ≤ 300 ∧ M = (wrote pl (i + 1)).lsn ∧ (∃ rs wv, Wm (w.heap.size + 1) w' v5 v6 (w.heap.size + 1) rs wv (wrote pl (i + 1)).lines (wrote pl (i + 1)).ways (wrote pl (i + 1)).runs) ∧ Blk w' w.heap.size 35 [.slice none 0 0, .slice none 0 0, .bool false, .slice none 0 0, .slice none 0 0, .bool false, .slice none 0 0, .slice none 0 0, .bool false, .slice none 0 0, .slice none 0 0, .bool false] ∧ Kept [] w w' := by
  rw [hstep]
  exact ⟨by omega, rfl, ⟨_, _, h⟩, hB, hK⟩
section
variable {base : Nat} {w w' : World} {vl vw : Value} {gR : Nat} {rs : List Rv} {wv : List Value} {lines : List Ln} {ways : List (List Int)} {runs : List RunL}
theorem Still.keptLow {base : Nat} {w w' : World} {F S : List Nat} {v : Value} {l : List Int} (h : Still w base F v l) (k : Kept S w w') (hS : ∀ y ∈ S, y < base) : Still w' base F v l :=
  ⟨h.1.kept k fun y hy hm => by have e1 := (h.1.lt hy).1; have e2 := hS y hm; omega, h.2⟩
theorem Wm.keptLow {S : List Nat} (h : Wm base w vl vw gR rs wv lines ways runs) (k : Kept S w w') (hS : ∀ y ∈ S, y < base) : Wm base w' vl vw gR rs wv lines ways runs :=
  ⟨h.lines.kept k (fun y hy hm => by have e1 := (Row.lt h.lines y hy).1; have e2 := hS y hm; omega), h.ways.kept k (fun y hy hm => by have e1 := (Row.lt h.ways y hy).1; have e2 := hS y hm; omega), fun i l hl => by
    obtain ⟨v, h1, h2⟩ := h.wayl i l hl
    exact ⟨v, h1, h2.keptLow k hS⟩, h.box.kept k (fun hm => by have e1 := h.low; have e2 := hS _ hm; omega), h.rlen, fun i r x hr hx => by
    obtain ⟨h1, h2, h3⟩ := h.runs i r x hr hx
    exact ⟨h1.keptLow k hS, h2.keptLow k hS, h3⟩, h.apt, h.gl, h.gw, h.low⟩
end
theorem cut_tight_int (w : World) (p : Option Addr) (n c m : Nat) (h : m ≤ c) : (Instr.slice 24 (.slice p n c) none (some (.int .i64 (m : Int))) (some (.int .i64 (m : Int)))).run Try.prog w = .ok (.slice p m m) w := run_cut_tight (P := Try.prog) w 24 3 1 Try.underlying24 (by kernel_rfl) p n c m h
end Go.Proofs.Ytinlhojojeabcaa

/-
  OWN WORK. Chains (layer 12): a log one of whose records is spoilt; what the law ChainFresh has in hand.
-/
namespace Go.Proofs.Ytinlhojojeabcaa
open Go.RowKit
set_option linter.unusedVariables false

theorem wrote_up (plan : List ActL) : ∀ i, i ≤ plan.length → i ≤ 300 → (wrote plan i).lines.Pairwise (fun a b => a.lsn < b.lsn)
  | 0, _, _ => List.Pairwise.nil
  | i + 1, h1, h2 => by
    have ih := wrote_up plan i (by omega) (by omega)
    have ok := wrote_ok plan i (by omega) (by omega)
    obtain ⟨a, ha⟩ : ∃ a, plan[i]? = some a := ⟨_, List.getElem?_eq_getElem (by omega)⟩
    rw [wrote_next ha]
    have hg : 0 ≤ a.gap % 50 := Int.emod_nonneg _ (by omega)
    unfold wstep
    refine List.pairwise_append.2 ⟨ih, List.pairwise_singleton _ _, fun x hx y hy => ?_⟩
    simp at hy
    subst hy
    have := (ok.in_ x hx).2
    simp only
    omega
def spoil (l : Ln) : Ln := ⟨l.lsn, { l.r with prev := l.lsn }⟩
theorem spoil_fits {l : Ln} (h : l.fits) : (spoil l).fits := ⟨h.1, h.2.1, h.2.2.1, h.1, h.2.2.2.2⟩
theorem back_spoilt {ls : List Ln} {k : Nat} {l : Ln} (hk : ls[k]? = some l) (hu : ls.Pairwise (fun a b => a.lsn < b.lsn)) (h1 : 1 ≤ l.lsn) (hkd : l.r.kind ≠ 1) : (backL (rdr (ls.set k (spoil l)) false) l.lsn).2.1 = 120 := by
  have hkl := (List.getElem?_eq_some_iff.1 hk).1
  have hR : rdr (ls.set k (spoil l)) false l.lsn = (0, (spoil l).r.rc) := by
    unfold rdr
    rw [readL_at (lsn := l.lsn) (k := k) (l := spoil l) false (by rw [List.getElem?_set_self hkl]) rfl (fun j m hj hm => ?_)]
    rw [List.getElem?_set_ne (by omega)] at hm
    obtain ⟨hj2, e⟩ := List.getElem?_eq_some_iff.1 hm
    obtain ⟨_, e2⟩ := List.getElem?_eq_some_iff.1 hk
    have := List.pairwise_iff_getElem.1 hu j k hj2 hkl hj
    rw [e, e2] at this
    omega
  unfold backL
  rw [if_neg (by omega), if_neg (by omega), show (4096 : Nat) = 4095 + 1 from rfl]
  rw [backF_no hR]
  by_cases hh : hangs (spoil l).r.rc l.lsn (bornAt true 0 (spoil l).r.rc l.lsn)
  · exact backStep_prev hkd (.inr (Int.le_refl _))
  · exact backStep_hang hh
theorem flatL_spoil : ∀ (ls : List Ln) (k : Nat) (l : Ln), ls[k]? = some l → (flatL ls).set (k * 12 + 3) (.int .i64 l.lsn) = flatL (ls.set k (spoil l))
  | [], k, l, h => by simp at h
  | m :: ls, 0, l, h => by
    simp at h
    subst h
    simp [flatL, Ln.cells, Lv.cells, spoil]
  | m :: ls, k + 1, l, h => by
    have ih := flatL_spoil ls k l (by simpa using h)
    have hl : m.cells.length = 12 := rfl
    rw [List.set_cons_succ]
    show (m.cells ++ flatL ls).set ((k + 1) * 12 + 3) _ = m.cells ++ flatL (ls.set k (spoil l))
    rw [List.set_append_right _ _ (by omega), hl, show (k + 1) * 12 + 3 - 12 = k * 12 + 3 by omega, ih]
theorem lines_of_row {w : World} {base : Nat} {v : Value} {ls : List Ln} (h : Row w base 12 v ls.length (flatL ls)) (hf : ∀ l ∈ ls, l.fits) : Lines w v ls := by
  obtain ⟨h1, h2, p, c, e, h3, h4, h5⟩ := h
  subst e
  refine ⟨hf, p, c, rfl, h3, h4, fun hn => ?_⟩
  rcases h5 with ⟨rfl, rfl⟩ | ⟨g, rfl, h6, h7, h8, h9⟩
  · exact absurd (List.length_eq_zero_iff.1 (by omega)) hn
  · exact ⟨g, 0, rfl, h7, fun i l hl j u hj => by rw [Nat.zero_add]; exact h8 _ u (flatL_at ls i l j u hl hj)⟩
/-- the record's Prev is written over -/
theorem lines_spoil {w : World} {base g n c : Nat} {ls : List Ln} {k : Nat} {l : Ln} (h : Row w base 12 (.slice (some ⟨g, 0, none⟩) n c) ls.length (flatL ls)) (hf : ∀ l ∈ ls, l.fits) (hk : ls[k]? = some l) :
    Lines (w.setCell ⟨g, k * 12 + 3, none⟩ (.int .i64 l.lsn)) (.slice (some ⟨g, 0, none⟩) n c) (ls.set k (spoil l)) ∧ Kept [g] w (w.setCell ⟨g, k * 12 + 3, none⟩ (.int .i64 l.lsn)) := by
  have hkl := (List.getElem?_eq_some_iff.1 hk).1
  have hn : n = ls.length := by obtain ⟨_, _, p, c', e, _⟩ := h; cases e; rfl
  subst hn
  obtain ⟨r, k1⟩ := h.set (k * 12 + 3) (by omega) (.int .i64 l.lsn) rfl
  rw [flatL_spoil ls k l hk] at r
  refine ⟨lines_of_row (base := base) (by rw [List.length_set]; exact r) (fun m hm => ?_), k1⟩
  rcases List.mem_or_eq_of_mem_set hm with q | q
  · exact hf m q
  · rw [q]; exact spoil_fits (hf l (List.mem_of_getElem? hk))
def four1 {α : Type} (a b c d : α) : Nat → α
  | 0 => a
  | 1 => b
  | 2 => c
  | _ => d
theorem all4' {P : Nat → Prop} (h0 : P 0) (h1 : P 1) (h2 : P 2) (h3 : P 3) : ∀ t, t < 4 → P t := fun t ht => by
  have : t = 0 ∨ t = 1 ∨ t = 2 ∨ t = 3 := by omega
  rcases this with rfl | rfl | rfl | rfl <;> assumption
def mk4 (t : Nat) : Int := -1 - (t : Int)
/-- four lists of numbers, none of which lies in another's block -/
theorem FN.four {w : World} {base : Nat} {a b c d : Value} {la lb lc ld : List Int} (ha : Ns w base a la) (hb : Ns w base b lb) (hc : Ns w base c lc) (hd : Ns w base d ld) (ab : Apt1 a b) (ac : Apt1 a c) (ad : Apt1 a d) (bc : Apt1 b c) (bd : Apt1 b d) (cd : Apt1 c d) :
    FN 4 w base (four1 a b c d) (four1 la.length lb.length lc.length ld.length) (fun _ => 0) mk4 := by
  have sy : ∀ {x y : Value}, Apt1 x y → Apt1 y x := fun h z hz e => h z e hz
  refine ⟨all4' (Mk.start ha _) (Mk.start hb _) (Mk.start hc _) (Mk.start hd _), fun s t hs ht e => ?_⟩
  have hs' : s = 0 ∨ s = 1 ∨ s = 2 ∨ s = 3 := by omega
  have ht' : t = 0 ∨ t = 1 ∨ t = 2 ∨ t = 3 := by omega
  rcases hs' with rfl | rfl | rfl | rfl <;> rcases ht' with rfl | rfl | rfl | rfl <;> first | exact absurd rfl e | assumption | (apply sy; assumption)
theorem Apt1.of {w : World} {b1 b2 : Nat} {u v : Value} {lu lv : List Int} (hu : Ns w b1 u lu) (hv : Ns w b2 v lv) (h : ∀ y, u.ownBlock = some y → y < b2) : Apt1 u v := fun x hx e => by
  have := h x hx
  have := (hv.lt e).1
  omega
end Go.Proofs.Ytinlhojojeabcaa

/-
  OWN WORK. Chains (layer 12): what the law ChainFresh has in hand, loop by loop.
-/
namespace Go.Proofs.Ytinlhojojeabcaa
open Go.RowKit
set_option linter.unusedVariables false

/-- four slices in a block, none of which lies in it -/
structure Al4 (w3 w : World) (gA : Nat) (os : Nat → Value) (ns : Nat → Nat) : Prop where
  cells : ∀ t, t < 4 → w.cell? ⟨gA, t, none⟩ = some (os t)
  far : ∀ t, t < 4 → (os t).ownBlock ≠ some gA
  lt : gA < w.heap.size
  ge : w3.heap.size ≤ gA
  kept : Kept [] w3 w
  len : ∀ t, t < 4 → 0 < ns t ∧ ns t ≤ 300
section
variable {w3 w w' : World} {gA : Nat} {os : Nat → Value} {ns : Nat → Nat} {i j : Nat}
theorem Al4.then {S : List Nat} (h : Al4 w3 w gA os ns) (k : Kept S w w') (hS : ∀ y ∈ S, w3.heap.size ≤ y ∧ y ≠ gA) : Al4 w3 w' gA os ns :=
  ⟨fun t ht => k.cell (h.cells t ht) (fun hm => (hS _ hm).2 rfl), h.far, Nat.lt_of_lt_of_le h.lt k.size, h.ge, h.kept.trans k (fun x hx => .inr (hS x hx).1), h.len⟩
/-- the marking: the lists below i, and the first j of number i -/
def St1 (w3 w : World) (gA : Nat) (os : Nat → Value) (ns : Nat → Nat) (i j : Nat) : Prop :=
  ∃ ks, FN 4 w w3.heap.size os ns ks mk4 ∧ (∀ t, t < i → ks t = ns t) ∧ (i < 4 → ks i = j) ∧ (∀ t, i < t → t < 4 → ks t = 0) ∧ Al4 w3 w gA os ns
theorem St1.start (h : FN 4 w w3.heap.size os ns (fun _ => 0) mk4) (a : Al4 w3 w gA os ns) : St1 w3 w gA os ns 0 0 := ⟨_, h, fun t ht => absurd ht (Nat.not_lt_zero t), fun _ => rfl, fun t _ _ => rfl, a⟩
theorem St1.next (h : St1 w3 w gA os ns i (ns i)) (hi : i < 4) : St1 w3 w gA os ns (i + 1) 0 := by
  obtain ⟨ks, h1, h2, h3, h4, h5⟩ := h
  refine ⟨ks, h1, fun t ht => ?_, fun hq => h4 _ (by omega) hq, fun t q1 q2 => h4 t (by omega) q2, h5⟩
  by_cases e : t = i
  · rw [e]; exact h3 hi
  · exact h2 t (by omega)
theorem St1.at (h : St1 w3 w gA os ns i j) (hi : i < 4) : ∃ g c, os i = .slice (some ⟨g, 0, none⟩) (ns i) c ∧ w.cell? ⟨gA, i, none⟩ = some (.slice (some ⟨g, 0, none⟩) (ns i) c) ∧ ns i ≤ 300 ∧ (j < ns i → (∃ u, w.cell? ⟨g, j, none⟩ = some u) ∧ w.frozen? ⟨g, j, none⟩ = false ∧ St1 w3 (w.setCell ⟨g, j, none⟩ (.int .i64 (mk4 i))) gA os ns i (j + 1)) := by
  obtain ⟨ks, h1, h2, h3, h4, h5⟩ := h
  obtain ⟨g, c, e, q1, q2, -⟩ := (h1.mks i hi).place (h5.len i hi).1
  refine ⟨g, c, e, by rw [← e]; exact h5.cells i hi, (h5.len i hi).2, fun hj => ⟨q1 j hj, q2 j hj, ?_⟩⟩
  have hk := h3 hi
  obtain ⟨f1, k1⟩ := h1.set hi e (by omega)
  rw [hk] at f1 k1
  have hlo := (h1.mks i hi).lo (y := g) (by rw [e]; rfl)
  have hng : g ≠ gA := fun q => h5.far i hi (by rw [e, q]; rfl)
  refine ⟨_, f1, fun t ht => ?_, fun _ => by simp, fun t q3 q4 => ?_, h5.then k1 (fun y hy => by simp at hy; subst hy; exact ⟨hlo.1, hng⟩)⟩
  · rw [if_neg (by omega)]; exact h2 t ht
  · rw [if_neg (by omega)]; exact h4 t q3 q4
/-- the growing: the lists below i have grown by forty and lie in vL (lv); vi is what number i has grown to, by j -/
def St2 (w3 w : World) (gA : Nat) (os : Nat → Value) (ns : Nat → Nat) (i j : Nat) (vi vL : Value) (lv : List Value) : Prop :=
  ∃ vs ms, GN 4 (gA + 1) w w3.heap.size os vs ns ms mk4 ∧ (∀ t, t < i → ms t = ns t + 40) ∧ (i < 4 → vs i = vi ∧ ms i = ns i + j) ∧ (∀ t, i < t → t < 4 → vs t = os t ∧ ms t = ns t) ∧ (lv = (List.range i).map vs ∧ Row w (gA + 1) 1 vL i lv) ∧ (∀ y, vL.ownBlock = some y → ∀ t, t < 4 → ¬ ((os t).ownBlock = some y ∨ (vs t).ownBlock = some y)) ∧ Al4 w3 w gA os ns
variable {vi vL v' vL' : Value} {lv : List Value} {w1 : World}
theorem St2.start (h : St1 w3 w gA os ns 4 0) : St2 w3 w gA os ns 0 0 (os 0) (.slice none 0 0) [] := by
  obtain ⟨ks, h1, h2, h3, h4, h5⟩ := h
  exact ⟨os, ns, GN.start h1 (fun t ht => h2 t ht), fun t ht => absurd ht (Nat.not_lt_zero t), fun _ => ⟨rfl, rfl⟩, fun t _ _ => ⟨rfl, rfl⟩, ⟨rfl, Row.nil _ _ _⟩, (fun y hy => nomatch hy), h5⟩
theorem St2.first (h : St2 w3 w gA os ns i 0 (os i) vL lv) (hi : i < 4) : ∃ g c, os i = .slice (some ⟨g, 0, none⟩) (ns i) c ∧ w.cell? ⟨gA, i, none⟩ = some (.slice (some ⟨g, 0, none⟩) (ns i) c) := by
  obtain ⟨vs, ms, h1, h2, h3, h4, h5, h6, h7⟩ := h
  obtain ⟨e1, e2⟩ := h3 hi
  rw [Nat.add_zero] at e2
  have hr := (h1.gr i hi).row
  rw [e1, e2] at hr
  obtain ⟨g, c, e, -⟩ := hr.place (by have := (h7.len i hi).1; omega)
  exact ⟨g, c, e, by rw [← e]; exact h7.cells i hi⟩
theorem St2.row (h : St2 w3 w gA os ns i j vi vL lv) (hi : i < 4) : ∃ cs, Row w w3.heap.size 1 vi (ns i + j) cs ∧ (∀ s, s < ns i + j → cs[s]? = some (.int .i64 (mk4 i))) ∧ w3.heap.size ≤ w.heap.size ∧ gA + 1 ≤ w.heap.size ∧ ns i ≤ 300 := by
  obtain ⟨vs, ms, h1, h2, h3, h4, h5, h6, h7⟩ := h
  obtain ⟨e1, e2⟩ := h3 hi
  obtain ⟨cs, r, m⟩ := (h1.gr i hi).row
  rw [e1, e2] at r
  rw [e2] at m
  exact ⟨cs, r, m, h7.kept.size, h7.lt, (h7.len i hi).2⟩
theorem St2.far (h : St2 w3 w gA os ns i j vi vL lv) (hi : i < 4) : ∀ y, vi.ownBlock = some y → y ≠ gA ∧ vL.ownBlock ≠ some y := by
  obtain ⟨vs, ms, h1, h2, h3, h4, h5, h6, h7⟩ := h
  intro y hy
  have hy2 : (vs i).ownBlock = some y := by rw [(h3 hi).1]; exact hy
  refine ⟨fun e => ?_, fun e => h6 y e i hi (.inr hy2)⟩
  rcases (h1.gr i hi).nw y hy2 with q | q
  · exact h7.far i hi (by rw [q, e])
  · omega
theorem St2.app {cs : List Value} (h : St2 w3 w gA os ns i j vi vL lv) (hi : i < 4) (hr : Row w w3.heap.size 1 vi (ns i + j) cs) (hm : ∀ s, s < ns i + j → cs[s]? = some (.int .i64 (mk4 i))) (kl : Kept [] w w1) (r : Row w' w3.heap.size 1 v' (ns i + j + 1) (cs ++ [.int .i64 (mk4 i)])) (k : Kept vi.ownBlock.toList w1 w') (hat : v'.ownBlock = vi.ownBlock ∨ (v'.ownBlock = some w1.heap.size ∧ Kept [] w1 w')) : St2 w3 w' gA os ns i (j + 1) v' vL lv := by
  have hfar := h.far hi
  obtain ⟨vs, ms, h1, h2, h3, h4, ⟨h50, h5⟩, h6, h7⟩ := h
  obtain ⟨e1, e2⟩ := h3 hi
  have hlo : ∀ y ∈ vi.ownBlock.toList, w3.heap.size ≤ y ∧ y < w.heap.size := fun y hy => Row.lt hr y (Option.mem_toList.1 hy)
  have hA1 : Al4 w3 w1 gA os ns := h7.then kl (by simp)
  have hG := h1.app hi (by rw [e1, e2]; exact hr) (by rw [e2]; exact hm) kl (by have := hA1.lt; omega) (by rw [e2]; exact r) (by rw [e1]; exact k) (by rw [e1]; exact hat)
  have hLlt : ∀ y, vL.ownBlock = some y → y < w1.heap.size := fun y hy => Nat.lt_of_lt_of_le (Row.lt h5 y hy).2 kl.size
  refine ⟨_, _, hG, fun t ht => ?_, fun _ => ⟨put1_at _ _ _, ?_⟩, fun t q1 q2 => ?_, ⟨?_, ?_⟩, fun y hy t ht hc => ?_, hA1.then k (fun y hy => ⟨(hlo y hy).1, (hfar y (Option.mem_toList.1 hy)).1⟩)⟩
  · rw [put1_ne _ _ (by omega)]; exact h2 t ht
  · rw [put1_at, e2]; omega
  · rw [put1_ne _ _ (by omega), put1_ne _ _ (by omega)]; exact h4 t q1 q2
  · rw [map_put1]; exact h50
  · exact (h5.kept kl (by simp)).kept k (fun y hy hm => (hfar y (Option.mem_toList.1 hm)).2 hy)
  · by_cases e : t = i
    · rw [e, put1_at] at hc
      rcases hc with q | q
      · exact h6 y hy i hi (.inl q)
      · rcases hat with e3 | ⟨e3, -⟩
        · exact (hfar y (by rw [← e3]; exact q)).2 hy
        · rw [e3] at q; have := Option.some.inj q; have := hLlt y hy; omega
    · rw [put1_ne _ _ e] at hc
      exact h6 y hy t ht hc
theorem St2.lrow (h : St2 w3 w gA os ns i j vi vL lv) : Row w (gA + 1) 1 vL i lv ∧ gA + 1 ≤ w.heap.size ∧ w3.heap.size ≤ gA := by
  obtain ⟨vs, ms, h1, h2, h3, h4, ⟨h50, h5⟩, h6, h7⟩ := h
  exact ⟨h5, h7.lt, h7.ge⟩
/-- it comes into the list of lists -/
theorem St2.long (h : St2 w3 w gA os ns i 40 vi vL lv) (hi : i < 4) (kl : Kept [] w w1) (r : Row w' (gA + 1) 1 vL' (i + 1) (lv ++ [vi])) (k : Kept vL.ownBlock.toList w1 w') (hat : vL'.ownBlock = vL.ownBlock ∨ (vL'.ownBlock = some w1.heap.size ∧ Kept [] w1 w')) : St2 w3 w' gA os ns (i + 1) 0 (os (i + 1)) vL' (lv ++ [vi]) := by
  obtain ⟨vs, ms, h1, h2, h3, h4, ⟨h50, h5⟩, h6, h7⟩ := h
  obtain ⟨e1, e2⟩ := h3 hi
  have hA1 : Al4 w3 w1 gA os ns := h7.then kl (by simp)
  have hG1 : GN 4 (gA + 1) w1 w3.heap.size os vs ns ms mk4 := h1.then kl (by simp)
  have hlo : ∀ y ∈ vL.ownBlock.toList, gA + 1 ≤ y := fun y hy => (Row.lt h5 y (Option.mem_toList.1 hy)).1
  have hge := h7.ge
  refine ⟨vs, ms, hG1.then k (fun y hy t ht => h6 y (Option.mem_toList.1 hy) t ht), fun t ht => ?_, fun hq => h4 _ (by omega) hq, fun t q1 q2 => h4 t (by omega) q2, ⟨?_, r⟩, fun y hy t ht hc => ?_, hA1.then k (fun y hy => ⟨by have := hlo y hy; omega, by have := hlo y hy; omega⟩)⟩
  · by_cases e : t = i
    · rw [e]; exact e2
    · exact h2 t (by omega)
  · rw [List.range_succ, List.map_append, ← h50]
    simp [e1]
  · rcases hat with e3 | ⟨e3, -⟩
    · exact h6 y (by rw [← e3]; exact hy) t ht hc
    · rw [e3] at hy
      have e4 := Option.some.inj hy
      have e5 := hG1.below ht hc
      omega
theorem St2.kept0 (h : St2 w3 w gA os ns i j vi vL lv) : Kept [] w3 w ∧ ∀ t, t < 4 → ns t ≤ 300 := by
  obtain ⟨vs, ms, h1, h2, h3, h4, ⟨h50, h5⟩, h6, h7⟩ := h
  exact ⟨h7.kept, fun t ht => (h7.len t ht).2⟩
/-- what is read in the end -/
theorem St2.read (h : St2 w3 w gA os ns 4 j vi vL lv) : ∃ gL cL, vL = .slice (some ⟨gL, 0, none⟩) 4 cL ∧ ∀ t, t < 4 → ∃ gv cv go co, w.cell? ⟨gL, t, none⟩ = some (.slice (some ⟨gv, 0, none⟩) (ns t + 40) cv) ∧ (∀ s, s < ns t + 40 → w.cell? ⟨gv, s, none⟩ = some (.int .i64 (mk4 t))) ∧ w.cell? ⟨gA, t, none⟩ = some (.slice (some ⟨go, 0, none⟩) (ns t) co) ∧ ∀ s, s < ns t → w.cell? ⟨go, s, none⟩ = some (.int .i64 (mk4 t)) := by
  obtain ⟨vs, ms, h1, h2, h3, h4, ⟨h50, h5⟩, h6, h7⟩ := h
  obtain ⟨p, c, hvL, -, -⟩ := h5.shape
  subst hvL
  obtain ⟨gL, rfl, -, -, hc, -⟩ := h5.pos (by omega)
  refine ⟨gL, c, rfl, fun t ht => ?_⟩
  have hm := (h1.gr t ht).row
  rw [h2 t ht] at hm
  obtain ⟨gv, cv, ev, -, -, hv⟩ := hm.place (by omega)
  obtain ⟨po, co, eo, ho⟩ := (h1.gr t ht).orig
  obtain ⟨go, rfl, hg⟩ := ho (h7.len t ht).1
  refine ⟨gv, cv, go, co, ?_, hv, by rw [← eo]; exact h7.cells t ht, hg⟩
  rw [← ev]
  exact hc t _ (by rw [h50, List.getElem?_map, List.getElem?_range ht]; rfl)
end
end Go.Proofs.Ytinlhojojeabcaa

