import Derived.Shelf.Abstract
import Derived.Deep.RegionHeld3
import Derived.Lib.LazyBuf
import Derived.Test.YtmipmiaflompmabC1
/-
  OWN WORK. The program's disk: a loose write is a function that lays its bytes over a place of those that it is handed.
-/
namespace Go.Proofs.Ytmipmiaflompmab
open Go.RowKit
set_option linter.unusedVariables false

/-- 'copy(out[off:..], b)' runs: out a row of one's own -/
theorem run_copy_part {P : Program} (w : World) (t ty e : TypeId) (base : Nat) (hu : P.underlying t = some (.slice e)) (hsz : (P.info? e).map (·.size) = some 1)
    (v : Value) (n : Nat) (L : List UInt8) (hown : w.ownsRow base e 1 v n (u8s L)) (off : Nat) (dp : Option Addr) (dLen dCap : Nat)
    (hdp : 0 < dLen → ∃ g, v.ownBlock = some g ∧ dp = some ⟨g, off, none⟩) (sv : Value) (r : List UInt8) (hb : Bs w sv r) (hr : r.length ≤ dLen) (hfit : off + dLen ≤ n) :
    ∃ w', (Builtin.copy_ #[t, t] ty #[.slice dp dLen dCap, sv]).run P w = .ok (goInt r.length) w' ∧ w'.ownsRow base e 1 v n (u8s (over L off r)) ∧ w.grownBy w' v.ownBlock := by
  obtain ⟨p, c, rfl, h1, h2, h3, h4⟩ := hb
  by_cases h0 : r.length = 0
  · obtain rfl : r = [] := List.eq_nil_of_length_eq_zero h0
    refine ⟨w, run_copy_none w t t ty e dp p dLen dCap 0 c hu hsz (by simp), by rw [over_nil]; exact hown, World.grownBy.refl _ _⟩
  · obtain ⟨g, hgv, rfl⟩ := hdp (by omega)
    cases p with
    | none => have := h3 rfl; omega
    | some ad =>
      have hn : n = L.length := by have := hown.1; rw [u8s_length] at this; omega
      subst hn
      rcases hown.2 with ⟨rfl, hz⟩ | ⟨g', cap, cur, rfl, hbg, hg, hnc, hcm, hcs, htk⟩
      · simp [Value.ownBlock] at hgv
      · have e1 : g' = g := by simpa [Value.ownBlock] using hgv
        subst e1
        have hrun := run_copy_row (P := P) w t t ty e g' off dLen dCap ad r.length c cur e (u8s r) hu hsz hg (by rw [u8s_length]; simp [Nat.min_def]; omega) (fun j u hj => by obtain ⟨y, hy, rfl⟩ := u8s_at hj; exact h4 ad rfl j y hy) (by rw [u8s_length]; omega) (u8s_one r)
        rw [u8s_length, List.append_assoc] at hrun
        have hgl : g' < w.heap.size := (Array.getElem?_eq_some_iff.1 hg).1
        refine ⟨_, hrun, ⟨by rw [u8s_length, over_length _ _ _ (by omega)]; omega, .inr ⟨g', cap, _, rfl, hbg, setRow_heap w g' cur _ e (0, 0) hg, hnc, hcm, ?_, ?_⟩⟩, ⟨rfl, rfl, rfl, by simp [World.setRow], fun k hk hne => setRow_other w g' k _ (by intro e2; subst e2; exact hne rfl)⟩⟩
        · simp [u8s_length]; omega
        · simp only [Nat.mul_one] at htk ⊢
          have hT : cur.toList.take L.length = u8s L := htk
          have hsz' : cur.toList.length = cap := by simp [hcs]
          apply List.ext_getElem?
          intro j
          have hcur : ∀ j, j < L.length → cur.toList[j]? = (u8s L)[j]? := fun j hj => by rw [← hT, List.getElem?_take, if_pos hj]
          by_cases hj : j < L.length
          · rw [List.getElem?_take, if_pos hj]
            have e3 : (u8s (over L off r))[j]? = if off ≤ j ∧ j < off + r.length then (u8s r)[j - off]? else (u8s L)[j]? := by
              simp only [u8s, List.getElem?_map, over_at L off r (by omega) j]
              split <;> rfl
            rw [e3]
            by_cases c1 : j < off
            · rw [List.getElem?_append_left (by simp; omega), List.getElem?_take, if_pos c1, if_neg (by omega), hcur j hj]
            · rw [List.getElem?_append_right (by simp; omega)]
              have e4 : (cur.toList.take off).length = off := by simp; omega
              rw [e4]
              by_cases c2 : j < off + r.length
              · rw [List.getElem?_append_left (by rw [u8s_length]; omega), if_pos ⟨by omega, c2⟩]
              · rw [List.getElem?_append_right (by rw [u8s_length]; omega), List.getElem?_drop, if_neg (by omega), u8s_length, ← hcur j hj]
                congr 1; omega
          · rw [List.getElem?_eq_none (by simp; omega), List.getElem?_eq_none (by rw [u8s_length, over_length _ _ _ (by omega)]; omega)]
/-- the same at a step of a region that draws its order -/
theorem step_copy_part {P : Program} {w : World} {ops : Array Oper} {o : Oper} {a : Act} {K : Act → World → Prop} {Q : Exit → Act → World → Prop} {E : Prop} (hgd : o.guard = none) (d s : Operand) (t : TypeId)
    (ho : o.op = .call { callee := .builtin .copy, args := #[d, s], argTypes := #[t, t] }) (base : Nat) (e : TypeId) (hu : P.underlying t = some (.slice e)) (hsz : (P.info? e).map (·.size) = some 1)
    (v : Value) (n : Nat) (L : List UInt8) (hown : w.ownsRow base e 1 v n (u8s L)) (off : Nat) (dp : Option Addr) (dLen dCap : Nat) (hd : a.eval d = .slice dp dLen dCap)
    (hdp : 0 < dLen → ∃ g, v.ownBlock = some g ∧ dp = some ⟨g, off, none⟩) (sv : Value) (r : List UInt8) (hx : a.eval s = sv) (hb : Bs w sv r) (hr : r.length ≤ dLen) (hfit : off + dLen ≤ n)
    (h : ∀ w', w'.ownsRow base e 1 v n (u8s (over L off r)) → w.grownBy w' v.ownBlock → K (a.put o.dst (goInt r.length)) w') :
    if Region.wanted o (yielded ops a.tmps) = true then Oper.wp P o a w K Q else E := by
  have hw : Region.wanted o (yielded ops a.tmps) = true := by simp [Region.wanted, hgd]
  rw [if_pos hw]
  obtain ⟨w', hrun, h1, h2⟩ := run_copy_part w t o.type e base hu hsz v n L hown off dp dLen dCap hdp sv r hb hr hfit
  unfold Oper.wp
  simp [execOp, ho, resolve, invoke, builtin, hd, hx, hrun, Result.andThen]
  exact h w' h1 h2
theorem step_copy_nothing {P : Program} {w : World} {ops : Array Oper} {o : Oper} {a : Act} {K : Act → World → Prop} {Q : Exit → Act → World → Prop} {E : Prop} (hgd : o.guard = none) (d s : Operand) (t : TypeId)
    (ho : o.op = .call { callee := .builtin .copy, args := #[d, s], argTypes := #[t, t] }) (e : TypeId) (hu : P.underlying t = some (.slice e)) (hsz : (P.info? e).map (·.size) = some 1)
    (dCap sLen sCap : Nat) (dp sp : Option Addr) (hd : a.eval d = .slice dp 0 dCap) (hx : a.eval s = .slice sp sLen sCap) (h : K (a.put o.dst (goInt 0)) w) :
    if Region.wanted o (yielded ops a.tmps) = true then Oper.wp P o a w K Q else E := by
  have hw : Region.wanted o (yielded ops a.tmps) = true := by simp [Region.wanted, hgd]
  rw [if_pos hw]
  have hrun := run_copy_none (P := P) w t t o.type e dp sp 0 dCap sLen sCap hu hsz (by simp)
  unfold Oper.wp
  simp [execOp, ho, resolve, invoke, builtin, hd, hx, hrun, Result.andThen]
  exact h

theorem own_at8 {w : World} {base e n : Nat} {v : Value} {xs : List Value} (h : w.ownsRow base e 1 v n xs) (hn : 0 < n) : ∃ g c, v = .slice (some ⟨g, 0, none⟩) n c ∧ n ≤ c ∧ c ≤ maxLen := by
  rcases h.2 with ⟨-, e0⟩ | ⟨g, cap, cur, rfl, -, h2, h3, h4, -⟩
  · omega
  · exact ⟨g, cap, rfl, h3, h4⟩
/-- the cells that a loose write has: which place it is of, its bytes -/
structure Cap (w : World) (gp gb : Nat) (j : Nat) (vb : Value) (b : List UInt8) : Prop where
  place : w.cell? ⟨gp, 0, none⟩ = some (.int .i64 (j : Int))
  slice : w.cell? ⟨gb, 0, none⟩ = some vb
  bytes : Bs w vb b
def theWrite (gp gb : Nat) : Value := .func (.func 85) #[] #[.pointer (some ⟨gp, 0, none⟩), .pointer (some ⟨gb, 0, none⟩)]
set_option maxHeartbeats 1600000 in
theorem write1_lays (gp gb j : Nat) (vb : Value) (b : List UInt8) (gP n cP base : Nat) (v : Value) (l : List UInt8) (keep : Int) (w : World) (hc : Cap w gp gb j vb b) (hj : j < n) (hn : n ≤ 1000) (hv : w.cell? ⟨gP, j, none⟩ = some v)
    (ho : w.ownsRow base 5 1 v l.length (u8s l)) (hl : b.length = l.length) (hpos : 0 < l.length) (hb : b.length ≤ 1000) (hk : IntKind.i64.wrap keep = keep) (hfar : ∀ x, v.ownBlock = some x → x ≠ gp ∧ x ≠ gP ∧ x ≠ gb) :
    Calls Try.prog 85 #[.slice (some ⟨gP, 0, none⟩) n cP, .int .i64 keep, .pointer (some ⟨gp, 0, none⟩), .pointer (some ⟨gb, 0, none⟩)] w fun e w' => e = .returned (.bool true) ∧ w'.ownsRow base 5 1 v l.length (u8s (over l 0 (b.take (keepN keep b.length)))) ∧ Kept v.ownBlock.toList w w' := by
  obtain ⟨h1, h2, h3⟩ := hc
  obtain ⟨p, c, rfl, h4, h5, -⟩ := id h3
  obtain ⟨g, cv, rfl, -⟩ := own_at8 ho hpos
  obtain ⟨f1, f2, f3⟩ := hfar g rfl
  have hkc := fun w' => pkept_any keep b.length w' hb hk
  have hle := keepN_le keep b.length
  generalize keepN keep b.length = m at *
  have hj0 : (0 : Int) ≤ (j : Int) := by omega
  have hjn : (j : Int) < (n : Int) := by omega
  have hm0 : (0 : Int) ≤ (m : Int) := by omega
  have hmc : (m : Int) ≤ (c : Int) := by omega
  obtain ⟨-, hcut, -, hcb, -⟩ := h3.cuts (P := Try.prog) 25 5 Try.underlying25 (by kernel_rfl) m hle
  have hneq : ∀ (w : World) (a : Option Addr) (n c : Nat), (binOp .neq 25 (.slice a n c) (.slice none 0 0)).run Try.prog w = .ok (.bool (!a.isNone)) w := fun w a n c => run_neq_slice_nil w _ _ a n c Try.underlying25
  have ho' := own_of_kept ho (Kept.refl [] w).drew (by simp)
  have hcb' := hcb.kept (Kept.refl [] w).drew
  have HO : Hid (w.drew.ownsRow base 5 1 (.slice (some ⟨g, 0, none⟩) l.length cv) l.length (u8s l)) := ho'
  have HL : Hid (b.length = l.length ∧ m ≤ b.length) := ⟨hl, hle⟩
  clear hk hb hn h5 h4 hfar ho h3 hcb hl hpos hle ho' hj
  go_enter Try.func85, Try.ntmps85
  go_upto_region 1 with fail
  go_region_held3 (fun w' => w'.cell? ⟨gp, 0, none⟩ = some (.int .i64 (j : Int)) ∧ w'.cell? ⟨gb, 0, none⟩ = some (.slice p b.length c) ∧ w'.cell? ⟨gP, j, none⟩ = some (.slice (some ⟨g, 0, none⟩) l.length cv))
    (first | (exact ⟨h1, h2, hv⟩) | (exact ⟨k6.cell h1 (by simpa using Ne.symm f1), k6.cell h2 (by simpa using Ne.symm f3), k6.cell hv (by simpa using Ne.symm f2)⟩) | go_keep)
    (first
      | (go_at_call 86; refine (hkc _).mono ?_; rintro e w5 ⟨rfl, rfl⟩)
      | (refine step_copy_part (by rfl) (.tmp 10) (.tmp 16) 25 (by rfl) base 5 Try.underlying25 (by kernel_rfl) (.slice (some ⟨g, 0, none⟩) l.length cv) l.length l HO.out 0 (some ⟨g, 0, none⟩) l.length cv (by rfl) (fun _ => ⟨g, rfl, rfl⟩) (.slice p m c) (b.take m) (by rfl) hcb' (by have := HL.out.1; have := HL.out.2; rw [List.length_take]; omega) (by omega) ?_; intro w6 o6 g6; have k6 : Kept [g] w w6 := (Kept.refl [g] w).drew.trans (Kept.ofGrown (S := [g]) g6 (by intro k e _; simp [Value.ownBlock] at e; simp [e])) (fun x hx => .inl hx))
      | fail)
  have q1 := k6.cell h1 (by simpa using Ne.symm f1)
  have q3 := k6.cell hv (by simpa using Ne.symm f2)
  clear h1 h2 hv hkc hcut hcb' HO
  go_wp2
  go_ret
  exact ⟨by simp, o6, k6⟩
set_option maxHeartbeats 1600000 in
theorem write1_none (gp gb j : Nat) (vb : Value) (b : List UInt8) (gP n cP : Nat) (keep : Int) (w : World) (hc : Cap w gp gb j vb b) (hj : j < n) (hv : w.cell? ⟨gP, j, none⟩ = some (.slice none 0 0)) (hb : b.length ≤ 1000) (hk : IntKind.i64.wrap keep = keep) :
    Calls Try.prog 85 #[.slice (some ⟨gP, 0, none⟩) n cP, .int .i64 keep, .pointer (some ⟨gp, 0, none⟩), .pointer (some ⟨gb, 0, none⟩)] w fun e w' => e = .returned (.bool false) ∧ Kept [] w w' := by
  obtain ⟨h1, h2, h3⟩ := hc
  obtain ⟨p, c, rfl, h4, h5, -⟩ := id h3
  have hkc := fun w' => pkept_any keep b.length w' hb hk
  have hle := keepN_le keep b.length
  generalize keepN keep b.length = m at *
  have hj0 : (0 : Int) ≤ (j : Int) := by omega
  have hjn : (j : Int) < (n : Int) := by omega
  have hm0 : (0 : Int) ≤ (m : Int) := by omega
  have hmc : (m : Int) ≤ (c : Int) := by omega
  obtain ⟨-, hcut, -, hcb, -⟩ := h3.cuts (P := Try.prog) 25 5 Try.underlying25 (by kernel_rfl) m hle
  have hneq : ∀ (w : World) (a : Option Addr) (n c : Nat), (binOp .neq 25 (.slice a n c) (.slice none 0 0)).run Try.prog w = .ok (.bool (!a.isNone)) w := fun w a n c => run_neq_slice_nil w _ _ a n c Try.underlying25
  have kd : Kept [] w w.drew := (Kept.refl [] w).drew
  clear hk hb h5 h4 h3 hcb hle hj
  go_enter Try.func85, Try.ntmps85
  go_upto_region 1 with fail
  go_region_held3 (fun w' => w'.cell? ⟨gp, 0, none⟩ = some (.int .i64 (j : Int)) ∧ w'.cell? ⟨gb, 0, none⟩ = some (.slice p b.length c) ∧ w'.cell? ⟨gP, j, none⟩ = some (.slice none 0 0))
    (first | (exact ⟨h1, h2, hv⟩) | go_keep)
    (first
      | (go_at_call 86; refine (hkc _).mono ?_; rintro e w5 ⟨rfl, rfl⟩)
      | (refine step_copy_nothing (by rfl) (.tmp 10) (.tmp 16) 25 (by rfl) 5 Try.underlying25 (by kernel_rfl) 0 m c none p (by rfl) (by rfl) ?_)
      | fail)
  clear hkc hcut
  go_wp2
  go_ret
  exact ⟨by simp, kd⟩
theorem writeOf_any (j : Nat) (vb : Value) (b : List UInt8) (w : World) (hb : Bs w vb b) :
    Calls Try.prog 79 #[.int .i64 (j : Int), vb] w fun e w' => e = .returned (theWrite w.heap.size (w.heap.size + 1)) ∧ Cap w' w.heap.size (w.heap.size + 1) j vb b ∧ Kept [] w w' ∧ w'.heap.size = w.heap.size + 2 := by
  obtain ⟨p, c, rfl, -⟩ := id hb
  have hmf : ∀ (fn : Fn) (first cap : Array Value) (w : World), (Instr.makeFunc fn first cap).run Try.prog w = .ok (.func fn first cap) w := fun _ _ _ _ => rfl
  obtain ⟨w2, hw2⟩ : ∃ w2, w2 = (w.alloc (.cells #[.int .i64 (j : Int)] 3)).alloc (.cells #[.slice p b.length c] 25) := ⟨_, rfl⟩
  have k2 : Kept [] w w2 := by rw [hw2]; exact ((Kept.refl [] w).alloc _).alloc _
  have b1 : Blk w2 w.heap.size 3 [.int .i64 (j : Int)] := by rw [hw2]; exact (Blk.new w _ _).kept ((Kept.refl [] _).alloc _) (by simp)
  have b2 : Blk w2 (w.heap.size + 1) 25 [.slice p b.length c] := by
    rw [hw2]
    have := Blk.new (w.alloc (.cells #[.int .i64 (j : Int)] 3)) 25 [.slice p b.length c]
    rwa [World.size_alloc] at this
  have s2 : w2.heap.size = w.heap.size + 2 := by rw [hw2, World.size_alloc, World.size_alloc]
  have fin : Cap w2 w.heap.size (w.heap.size + 1) j (.slice p b.length c) b := ⟨b1.cell (j := 0) rfl, b2.cell (j := 0) rfl, hb.kept k2⟩
  have FIN : Hid (Cap w2 w.heap.size (w.heap.size + 1) j (.slice p b.length c) b ∧ Kept [] w w2 ∧ w2.heap.size = w.heap.size + 2) := ⟨fin, k2, s2⟩
  have HW : Hid (w2 = (w.alloc (.cells #[.int .i64 (j : Int)] 3)).alloc (.cells #[.slice p b.length c] 25)) := hw2
  clear hb b1 b2 fin k2 s2 hw2
  go_enter Try.func79, Try.ntmps79
  go_wp2
  go_ret
  rw [← HW.out]
  exact ⟨rfl, FIN.out⟩
end Go.Proofs.Ytmipmiaflompmab

/-
  OWN WORK. The program's disk: places of one's own; copied.
-/
namespace Go.Proofs.Ytmipmiaflompmab
open Go.RowKit
set_option linter.unusedVariables false

/-- 'make([][]byte, n)' -/
theorem run_make_sl {P : Program} (w : World) (t e : TypeId) (hu : P.underlying t = some (.slice e)) (hinf : (P.info? e).map (fun i => (i.zero, i.size, i.bytes)) = some (some (.slice none 0 0), 1, 24))
    (n : Nat) (hc : n ≤ 1000) :
    (Instr.makeSlice t (.int .i64 (n : Int)) (.int .i64 (n : Int))).run P w = .ok (.slice (some ⟨w.heap.size, 0, none⟩) n n) (w.alloc (.cells (madeCells #[.slice none 0 0] n) e)) := by
  obtain ⟨i, hi, hz, hsz, hby⟩ := info_parts hinf
  have h := run_make (P := P) w t e i (.slice none 0 0) hu hi hz .i64 .i64 (n : Int) (n : Int) (by omega) (by omega) (by rw [hby]; omega) (by omega)
  rw [h, hsz]
  simp [Value.cells]
def nils (n : Nat) : List Value := List.replicate n (.slice none 0 0)
theorem nils_length (n : Nat) : (nils n).length = n := by simp [nils]
theorem own_made_sl (w : World) (e base n : Nat) (hb : base ≤ w.heap.size) (hc : n ≤ maxLen) :
    (w.alloc (.cells (madeCells #[.slice none 0 0] n) e)).ownsRow base e 1 (.slice (some ⟨w.heap.size, 0, none⟩) n n) n (nils n) := by
  refine ⟨by simp [nils], .inr ⟨w.heap.size, n, _, rfl, hb, heap_alloc_new w _, Nat.le_refl _, hc, by simp [size_madeCells], ?_⟩⟩
  rw [toList_madeCells_one]
  simp [nils]
theorem own_set1 {w : World} {base e b n cap : Nat} {xs : List Value} (ow : w.ownsRow base e 1 (.slice (some ⟨b, 0, none⟩) n cap) n xs) (k : Nat) (hk : k < n) (u : Value) :
    (w.setCell ⟨b, k, none⟩ u).ownsRow base e 1 (.slice (some ⟨b, 0, none⟩) n cap) n (xs.set k u) ∧ Kept [b] w (w.setCell ⟨b, k, none⟩ u) := by
  refine ⟨⟨by rw [List.length_set]; exact ow.1, ?_⟩, (Kept.refl [b] w).setCell (.inl (by simp)) u⟩
  rcases ow.2 with ⟨e1, -⟩ | ⟨g, cap', cur, e1, h2, h3, h4, h5, h6, h7⟩
  · cases e1
  · cases e1
    refine .inr ⟨b, cap, cur.setIfInBounds k u, rfl, h2, ?_, h4, h5, by simpa using h6, ?_⟩
    · simp [World.setCell, Array.getElem?_modify, h3]
    · rw [← h7, Array.toList_setIfInBounds, List.take_set]
theorem own_cell {w : World} {base e b n cap : Nat} {xs : List Value} (ow : w.ownsRow base e 1 (.slice (some ⟨b, 0, none⟩) n cap) n xs) {j : Nat} {u : Value} (hj : xs[j]? = some u) : w.cell? ⟨b, j, none⟩ = some u ∧ w.frozen? ⟨b, j, none⟩ = false := by
  rcases ow.2 with ⟨e1, -⟩ | ⟨g, cap', cur, e1, h2, h3, h4, h5, h6, h7⟩
  · cases e1
  · cases e1
    refine ⟨?_, by simp [World.frozen?, h3]⟩
    rw [← h7, List.getElem?_take] at hj
    split at hj
    · simp [World.cell?, h3]
      simpa using hj
    · cases hj
/-- places of one's own: a row of rows of bytes -/
structure Pls (w : World) (base : Nat) (v : Value) (n : Nat) (pv : List Value) (ls : List (List UInt8)) : Prop where
  row : w.ownsRow base 25 1 v n pv
  fam : Fam w base pv ls
theorem set_snoc {α : Type} (xs : List α) (z y : α) (k n : Nat) (hk : k < n) (hx : xs.length = k) : (xs ++ List.replicate (n - k) z).set k y = (xs ++ [y]) ++ List.replicate (n - (k + 1)) z := by
  rw [List.set_append_right _ _ (by omega), hx, Nat.sub_self, show n - k = (n - (k + 1)) + 1 by omega, List.replicate_succ, List.set_cons_zero]
  simp
set_option maxHeartbeats 1600000 in
theorem pcopied_any (v : Value) (b0 n : Nat) (pv : List Value) (ls : List (List UInt8)) (w : World) (hrow : w.ownsRow b0 25 1 v n pv) (hl : ls.length = n) (hbs : ∀ (i : Nat) u l, pv[i]? = some u → ls[i]? = some l → Bs w u l) (hll : ∀ l ∈ ls, l.length ≤ 140737488355328) (hn : n ≤ 1000) (hn0 : 0 < n) :
    Calls Try.prog 32 #[v] w fun e w' => ∃ v' pv', e = .returned v' ∧ Pls w' w.heap.size v' n pv' ls ∧ Kept [] w w' := by
  have hmk := run_make_sl (P := Try.prog) w 69 25 Try.underlying69 (by kernel_rfl) n hn
  obtain ⟨gP, cP, rfl, -, -⟩ := own_at8 hrow hn0
  have hpl : pv.length = n := by have := hrow.1; omega
  have hown0 := own_made_sl w 25 w.heap.size n (Nat.le_refl _) (by unfold maxLen; omega)
  have hk0 : Kept [] w (w.alloc (.cells (madeCells #[.slice none 0 0] n) 25)) := (Kept.refl [] w).alloc _
  have hf0 : Fam (w.alloc (.cells (madeCells #[.slice none 0 0] n) 25)) w.heap.size [] [] := Fam.nil _ _
  have h63 : (n : Int) < 9223372036854775807 := by omega
  clear hn
  go_enter Try.func32, Try.ntmps32
  go_wp2
  generalize w.alloc (.cells (madeCells #[.slice none 0 0] n) 25) = w1 at *
  go_loopw [11] (fun i wr => ∃ (k : Nat) (qs : List Value), k ≤ n ∧ i = .int .i64 k ∧ qs.length = k ∧ wr.ownsRow w.heap.size 25 1 (.slice (some ⟨w.heap.size, 0, none⟩) n n) n (qs ++ nils (n - k)) ∧ Fam wr w.heap.size qs (ls.take k) ∧ Kept [] w wr) (fun i _ => n - (intOf i).toNat)
  case atStart => exact ⟨0, [], Nat.zero_le _, rfl, rfl, by simpa using hown0, by simpa using hf0, hk0⟩
  case round =>
    obtain ⟨k, qs, hk, rfl, hq, hown, hfam, hkept⟩ := hrel
    by_cases hlt : k < n
    · obtain ⟨u, hu⟩ : ∃ u, pv[k]? = some u := ⟨_, List.getElem?_eq_getElem (by omega)⟩
      obtain ⟨l, hll2⟩ : ∃ l, ls[k]? = some l := ⟨_, List.getElem?_eq_getElem (by omega)⟩
      have hc := hkept.cell (own_cell hrow hu).1 (by simp)
      have hb := (hbs k u l hu hll2).kept hkept
      have hge := own_ge hown w.heap.size rfl
      have hlw := own_lt hown w.heap.size rfl
      have hcall := pown_any u l wr hb (hll l (List.mem_of_getElem? hll2))
      obtain ⟨pu, cu, rfl, -⟩ := id hb
      have hnot : Not8 wr w.heap.size := own_not8 hown (by decide) _ rfl
      have hz : (qs ++ nils (n - k))[k]? = some (.slice none 0 0) := by rw [List.getElem?_append_right (by omega), hq, Nat.sub_self]; unfold nils; rw [List.getElem?_replicate]; rw [if_pos (by omega)]
      have hk' : (k : Int) < (n : Int) := by omega
      have hk0' : (0 : Int) ≤ (k : Int) := by omega
      clear hmk hbs hll hown0 hk0 hf0
      go_wp2_with fail
      refine hcall.mono ?_
      rintro e w3 ⟨u3, rfl, o3, k3⟩
      obtain ⟨p3, c3, rfl⟩ := own_shape2 o3
      have hown3 := own_of_kept hown k3 (by simp)
      obtain ⟨x1, x2⟩ := own_cell hown3 hz
      obtain ⟨o4, k4⟩ := own_set1 hown3 k hlt (.slice p3 l.length c3)
      have e4 : (qs ++ nils (n - k)).set k (.slice p3 l.length c3) = (qs ++ [.slice p3 l.length c3]) ++ nils (n - (k + 1)) := set_snoc qs _ _ k n hlt hq
      rw [e4] at o4
      have k34 : Kept [w.heap.size] wr (w3.setCell ⟨w.heap.size, k, none⟩ (.slice p3 l.length c3)) := (k3.mono (by simp)).trans k4 (fun x hx => .inl hx)
      have o34 := own_of_kept o3 k4 (fun x hx hm => by simp at hm; subst hm; have := own_ge o3 _ hx; omega)
      have f4 := Fam.snoc hfam (Nat.le_of_lt hlw) k34 (fun x hx => by simp at hx; subst hx; exact .inl hnot) o34
      have e5 : ls.take k ++ [l] = ls.take (k + 1) := by rw [List.take_add_one, hll2]; rfl
      rw [e5] at f4
      have k5 := hkept.trans k34 (fun x hx => by simp at hx; subst hx; exact .inr (Nat.le_refl _))
      have FIN : Hid ((w3.setCell ⟨w.heap.size, k, none⟩ (.slice p3 l.length c3)).ownsRow w.heap.size 25 1 (.slice (some ⟨w.heap.size, 0, none⟩) n n) n ((qs ++ [.slice p3 l.length c3]) ++ nils (n - (k + 1))) ∧ Fam (w3.setCell ⟨w.heap.size, k, none⟩ (.slice p3 l.length c3)) w.heap.size (qs ++ [.slice p3 l.length c3]) (ls.take (k + 1)) ∧ Kept [] w (w3.setCell ⟨w.heap.size, k, none⟩ (.slice p3 l.length c3))) := ⟨o4, f4, k5⟩
      clear hcall hown hown3 o3 o34 o4 f4 k5 k34 k4 hb hfam e4 e5 hz
      go_wp2
      go_roundw
      case rel => exact ⟨k + 1, qs ++ [.slice p3 l.length c3], by omega, by go_num, by simp [hq], FIN.out.1, FIN.out.2.1, FIN.out.2.2⟩
      case measure => simp [intOf]; omega
    · obtain rfl : k = n := by omega
      have e1 : qs ++ nils (k - k) = qs := by simp [nils]
      have e2 : ls.take k = ls := List.take_of_length_le (by omega)
      rw [e1] at hown
      rw [e2] at hfam
      clear hmk hbs hll hown0 hk0 hf0 hrow
      go_wp2
      go_ret
      exact ⟨_, _, rfl, ⟨hown, hfam⟩, hkept⟩
end Go.Proofs.Ytmipmiaflompmab

/-
  OWN WORK. The document's disk in memory; act, Halts, SyncLog.
-/
namespace Go.Proofs.Ytmipmiaflompmab
open Go.RowKit
set_option linter.unusedVariables false

structure RDat where
  vp : Value
  pv : List Value
  pair : Value
  m0 : Value
  m1 : Value
  vl : Value
  vloose : Value
  vlog : Value
  lv : List (Int × Int × Value)
def RDat.cells (R : RDat) (d : DS) : List Value := [.int .i64 (d.np : Int), .int .i64 (d.ns : Int), .int .i64 (d.lm : Int), R.vp, R.pair, R.vl, R.m0, R.m1, R.vloose, R.vlog, .int .i64 (d.lasted : Int), .int .i64 d.acts, .int .i64 d.stop, .bool d.dead]
def RDat.tail (R : RDat) : List Value := R.pair :: (R.pv ++ [R.m0, R.m1]) ++ R.lv.map (·.2.2)
def RDat.rows (R : RDat) : List Value := R.vlog :: R.tail
def DS.all (d : DS) : List (List UInt8) := d.log :: (d.rows ++ d.loose.map (·.2))
def lcells (lv : List (Int × Int × Value)) : List Value := lv.flatMap fun x => [.int .i64 x.1, .int .i64 x.2.1, x.2.2]
def RDat.foot (R : RDat) (g : Nat) : List Nat := g :: (R.vp.ownBlock.toList ++ R.vloose.ownBlock.toList ++ blocks R.rows)
structure RD (w : World) (g : Nat) (d : DS) (R : RDat) : Prop where
  ok : d.Ok
  blk : Blk w g 78 (R.cells d)
  fam : Fam w 0 R.rows d.all
  row : w.ownsRow 0 25 1 R.vp d.np R.pv
  vl : ∃ p c, R.vl = .slice p 0 c ∧ c ≤ maxLen ∧ (p = none → c = 0)
  loose : Row w 0 3 R.vloose d.loose.length (lcells R.lv)
  lidx : R.lv.map (fun x => idxOf d.np x.1 x.2.1) = d.loose.map (fun x => some x.1)
  apart : ∀ x, R.vloose.ownBlock = some x → x ≠ g ∧ R.vp.ownBlock ≠ some x ∧ x ∉ blocks R.rows
theorem RD.lt {w : World} {g : Nat} {d : DS} {R : RDat} (h : RD w g d R) {x : Nat} (hx : x ∈ R.foot g) : x < w.heap.size := by
  unfold RDat.foot at hx
  rcases List.mem_cons.1 hx with e | hx
  · subst e; exact h.blk.lt
  · rcases List.mem_append.1 hx with hx | hx
    · rcases List.mem_append.1 hx with hx | hx
      · exact own_lt h.row x (by simpa using hx)
      · exact (h.loose.lt x (by simpa using hx)).2
    · exact (h.fam.not8 hx).2.2
/-- nothing of it is touched -/
theorem RD.kept {w w' : World} {g : Nat} {d : DS} {R : RDat} {S : List Nat} (h : RD w g d R) (k : Kept S w w') (hS : ∀ x ∈ S, x ∉ R.foot g) : RD w' g d R := by
  have n1 : g ∉ S := fun hm => hS g hm (by simp [RDat.foot])
  have n2 : ∀ x, R.vp.ownBlock = some x → x ∉ S := fun x hx hm => hS x hm (by simp [RDat.foot, hx])
  have n3 : ∀ x, R.vloose.ownBlock = some x → x ∉ S := fun x hx hm => hS x hm (by simp [RDat.foot, hx])
  have n4 : ∀ x ∈ blocks R.rows, x ∉ S := fun x hx hm => hS x hm (by simp [RDat.foot, hx])
  refine ⟨h.ok, h.blk.kept k n1, ⟨h.fam.len, fun i v l hv hl => own_of_kept (h.fam.own i v l hv hl) k fun x hx => n4 x (mem_blocks hv hx), h.fam.apart⟩, own_of_kept h.row k n2, h.vl, h.loose.kept k n3, h.lidx, h.apart⟩
/-- a row of bytes, or one of slices, is not the disk's own block -/
theorem RD.far {w : World} {g : Nat} {d : DS} {R : RDat} (h : RD w g d R) : R.vp.ownBlock ≠ some g ∧ R.vloose.ownBlock ≠ some g ∧ g ∉ blocks R.rows := by
  refine ⟨fun e => h.blk.far h.row (by decide) g e rfl, fun e => (h.apart g e).1 rfl, fun hm => (h.fam.not8 hm).1 (h.blk.not8 (by decide))⟩
/-- its own block is written, and nothing else -/
theorem RD.turn {w w' : World} {g : Nat} {d d' : DS} {R : RDat} (h : RD w g d R) (k : Kept [g] w w') (hb : Blk w' g 78 (R.cells d')) (hok : d'.Ok) (e1 : d'.np = d.np) (e2 : d'.rows = d.rows) (e3 : d'.loose = d.loose) (e4 : d'.log = d.log) : RD w' g d' R := by
  obtain ⟨f1, f2, f3⟩ := h.far
  have hall : d'.all = d.all := by unfold DS.all; rw [e2, e3, e4]
  refine ⟨hok, hb, ?_, ?_, h.vl, ?_, ?_, h.apart⟩
  · rw [hall]
    exact ⟨h.fam.len, fun i v l hv hl => own_of_kept (h.fam.own i v l hv hl) k fun x hx hm => f3 (by simp at hm; subst hm; exact mem_blocks hv hx), h.fam.apart⟩
  · rw [e1]
    exact own_of_kept h.row k fun x hx hm => f1 (by simp at hm; subst hm; exact hx)
  · rw [e3]
    exact h.loose.kept k fun x hx hm => f2 (by simp at hm; subst hm; exact hx)
  · rw [e1, e3]; exact h.lidx
theorem act_any (g : Nat) (d : DS) (R : RDat) (w : World) (h : RD w g d R) :
    Calls Try.prog 80 #[.pointer (some ⟨g, 0, none⟩)] w fun e w' => e = .returned (.bool d.alive) ∧ RD w' g d.act R ∧ Kept [g] w w' := by
  have hb := h.blk
  have c11 := hb.cell (j := 11) rfl
  have c12 := hb.cell (j := 12) rfl
  have c13 := hb.cell (j := 13) rfl
  have f11 := hb.free 11
  have f12 := hb.free 12
  have f13 := hb.free 13
  have hok := h.ok.act
  by_cases h1 : d.dead = true
  · have ea : d.alive = false := by simp [DS.alive, h1]
    have ed : d.act = d := by unfold DS.act; rw [if_pos h1]
    rw [ea, ed]
    rw [h1] at c13
    have H : Hid (RD w g d R) := h
    clear h hb hok
    go_enter Try.func80, Try.ntmps80
    go_wp2
    go_ret
    exact ⟨rfl, H.out, Kept.refl _ _⟩
  · have h1' : d.dead = false := by simpa using h1
    rw [h1'] at c13
    by_cases h2 : d.stop = 1
    · have ea : d.alive = false := by simp [DS.alive, h1', h2]
      have ed : d.act = { d with dead := true } := by unfold DS.act; rw [if_neg h1, if_pos h2]
      rw [ea]
      obtain ⟨b2, k2⟩ := hb.set 13 (.bool true)
      have fin : RD _ g d.act R := h.turn k2 (by rw [ed]; exact b2) hok (by rw [d.act_np]) (by rw [d.act_rows]) (by rw [d.act_loose]) (by rw [d.act_log])
      have H : Hid (RD _ g d.act R) := fin
      rw [h2] at c12
      clear h hb hok ed fin h1 h1' b2
      go_enter Try.func80, Try.ntmps80
      go_wp2
      go_ret
      exact ⟨rfl, H.out, k2⟩
    · have ea : d.alive = true := by simp [DS.alive, h1', h2]
      rw [ea]
      obtain ⟨A, hA⟩ : ∃ A, IntKind.i64.wrap (d.acts + 1) = A := ⟨_, rfl⟩
      by_cases h3 : 1 < d.stop
      · have ed : d.act = { d with stop := d.stop - 1, acts := A } := by unfold DS.act; rw [if_neg h1, if_neg h2, if_pos h3, hA]
        have wr := wrap_i64_range h.ok.stopw
        have ew : IntKind.i64.wrap (d.stop - 1) = d.stop - 1 := wrap_i64_of (by omega) (by omega)
        obtain ⟨b2, k2⟩ := hb.set 12 (.int .i64 (d.stop - 1))
        obtain ⟨b3, k3⟩ := b2.set 11 (.int .i64 A)
        have k4 := k2.trans k3 (by simp)
        have fin : RD _ g d.act R := h.turn k4 (by rw [ed]; exact b3) hok (by rw [d.act_np]) (by rw [d.act_rows]) (by rw [d.act_loose]) (by rw [d.act_log])
        have H : Hid (RD _ g d.act R) := fin
        clear h hb hok ed fin h1 h1' b2 b3 wr
        go_enter Try.func80, Try.ntmps80
        go_wp2
        go_ret
        exact ⟨rfl, H.out, k4⟩
      · have ed : d.act = { d with acts := A } := by unfold DS.act; rw [if_neg h1, if_neg h2, if_neg h3, hA]
        obtain ⟨b3, k3⟩ := hb.set 11 (.int .i64 A)
        have fin : RD _ g d.act R := h.turn k3 (by rw [ed]; exact b3) hok (by rw [d.act_np]) (by rw [d.act_rows]) (by rw [d.act_loose]) (by rw [d.act_log])
        have H : Hid (RD _ g d.act R) := fin
        clear h hb hok ed fin h1 h1' b3
        go_enter Try.func80, Try.ntmps80
        go_wp2
        go_ret
        exact ⟨rfl, H.out, k3⟩
theorem halts_any (g : Nat) (d : DS) (R : RDat) (n : Int) (w : World) (h : RD w g d R) (hn : IntKind.i64.wrap n = n) :
    Calls Try.prog 45 #[.pointer (some ⟨g, 0, none⟩), .int .i64 n] w fun e w' => (∃ v, e = .returned v) ∧ RD w' g (d.halts n) R ∧ Kept [g] w w' := by
  have hb := h.blk
  have c12 := hb.cell (j := 12) rfl
  have c13 := hb.cell (j := 13) rfl
  have f12 := hb.free 12
  have hok := h.ok.halts n hn
  by_cases h1 : d.dead = true
  · have ed : d.halts n = d := by unfold DS.halts; rw [if_pos h1]
    rw [ed]
    rw [h1] at c13
    have H : Hid (RD w g d R) := h
    clear h hb hok hn
    go_enter Try.func45, Try.ntmps45
    go_wp2
    go_returns
    exact ⟨⟨_, rfl⟩, H.out, Kept.refl _ _⟩
  · have h1' : d.dead = false := by simpa using h1
    rw [h1'] at c13
    obtain ⟨b2, k2⟩ := hb.set 12 (.int .i64 0)
    by_cases h2 : 1 ≤ n
    · have ed : d.halts n = { d with stop := n } := by unfold DS.halts; rw [if_neg h1, if_pos h2]
      obtain ⟨b3, k3⟩ := b2.set 12 (.int .i64 n)
      have k4 := k2.trans k3 (by simp)
      have fin : RD _ g (d.halts n) R := h.turn k4 (by rw [ed]; exact b3) hok (by rw [ed]) (by rw [ed]) (by rw [ed]) (by rw [ed])
      have H : Hid (RD _ g (d.halts n) R) := fin
      clear h hb hok ed fin h1 h1' b2 b3 hn
      go_enter Try.func45, Try.ntmps45
      go_wp2
      go_returns
      exact ⟨⟨_, rfl⟩, H.out, k4⟩
    · have ed : d.halts n = { d with stop := 0 } := by unfold DS.halts; rw [if_neg h1, if_neg h2]
      have fin : RD _ g (d.halts n) R := h.turn k2 (by rw [ed]; exact b2) hok (by rw [ed]) (by rw [ed]) (by rw [ed]) (by rw [ed])
      have H : Hid (RD _ g (d.halts n) R) := fin
      clear h hb hok ed fin h1 h1' b2 hn
      go_enter Try.func45, Try.ntmps45
      go_wp2
      go_returns
      exact ⟨⟨_, rfl⟩, H.out, k2⟩
theorem RD.shapes {w : World} {g : Nat} {d : DS} {R : RDat} (h : RD w g d R) : ∃ p c, R.vlog = .slice p d.log.length c ∧ Bs w R.vlog d.log := by
  have ho := h.fam.own 0 R.vlog d.log rfl rfl
  obtain ⟨p, c, e⟩ := own_shape2 ho
  exact ⟨p, c, e, Bs.ofOwn ho⟩
theorem syncLog_any (g : Nat) (d : DS) (R : RDat) (w : World) (h : RD w g d R) :
    Calls Try.prog 71 #[.pointer (some ⟨g, 0, none⟩)] w fun e w' => e = .returned (.int .i64 (aliveE d)) ∧ RD w' g d.syncLog R ∧ Kept [g] w w' := by
  have ha := act_any g d R w h
  have hok := h.ok.syncLog
  obtain ⟨z, hz⟩ : ∃ z, z = d.alive := ⟨_, rfl⟩
  rw [← hz] at ha
  cases z with
  | false =>
    have eE : aliveE d = 1 := by unfold aliveE; rw [← hz]; rfl
    have ed : d.syncLog = d.act := by unfold DS.syncLog; rw [← hz]; rfl
    rw [eE, ed]
    clear hz eE ed hok h
    go_enter Try.func71, Try.ntmps71
    go_wp2_with fail
    refine ha.mono ?_
    rintro e w1 ⟨rfl, h1, k1⟩
    go_wp2
    go_ret
    exact ⟨rfl, h1, k1⟩
  | true =>
    have eE : aliveE d = 0 := by unfold aliveE; rw [← hz]; rfl
    have ed : d.syncLog = { d.act with lasted := d.log.length } := by unfold DS.syncLog; rw [← hz]; rfl
    rw [eE]
    have ED : Hid (d.syncLog = { d.act with lasted := d.log.length }) := ed
    clear hz eE ed h
    go_enter Try.func71, Try.ntmps71
    go_wp2_with fail
    refine ha.mono ?_
    rintro e w1 ⟨rfl, h1, k1⟩
    obtain ⟨p, c, e1, -⟩ := h1.shapes
    rw [d.act_log] at e1
    have c9 := h1.blk.cell (j := 9) rfl
    have c10 := h1.blk.cell (j := 10) rfl
    have f10 := h1.blk.free 10
    rw [e1] at c9
    obtain ⟨b2, k2⟩ := h1.blk.set 10 (.int .i64 (d.log.length : Int))
    have fin : RD _ g d.syncLog R := h1.turn k2 (by rw [ED.out]; exact b2) hok (by rw [ED.out]) (by rw [ED.out]) (by rw [ED.out]) (by rw [ED.out])
    have H : Hid (RD _ g d.syncLog R) := fin
    clear fin b2 h1 e1 ha hok
    go_wp2
    go_ret
    exact ⟨rfl, H.out, k1.trans k2 (by simp)⟩
end Go.Proofs.Ytmipmiaflompmab

/-
  OWN WORK. The document's disk: Cut, ReadLog, Append.
-/
namespace Go.Proofs.Ytmipmiaflompmab
open Go.RowKit
set_option linter.unusedVariables false

/-- the first row is another, made just now -/
theorem Fam.head {w w' : World} {base n : Nat} {v0 v : Value} {vs : List Value} {l0 l : List UInt8} {ls : List (List UInt8)} {S : List Nat} (h : Fam w base (v0 :: vs) (l0 :: ls)) (k : Kept S w w') (hS : ∀ x ∈ S, x ∉ blocks vs) (hb : base ≤ w.heap.size)
    (ho : w'.ownsRow w.heap.size 5 1 v n (u8s l)) : Fam w' base (v :: vs) (l :: ls) := by
  have hn : n = l.length := by have := ho.1; rw [u8s_length] at this; omega
  subst hn
  have hlen : vs.length = ls.length := by have := h.len; simpa using this
  refine ⟨by simp [hlen], fun i u m hu hm => ?_, fun i j u u' x hij hu hu' hx => ?_⟩
  · rcases i with _ | i
    · simp at hu hm; subst hu; subst hm; exact own_mono ho hb
    · simp at hu hm
      exact own_of_kept (h.own (i + 1) u m (by simpa using hu) (by simpa using hm)) k fun x hx hs => hS x hs (mem_blocks hu hx)
  · rcases j with _ | j
    · omega
    · simp at hu'
      rcases i with _ | i
      · simp at hu; subst hu
        intro e
        have h1 := own_ge ho x hx
        have h2 := (h.lt (j + 1) u' x (by simpa using hu') e).2
        omega
      · simp at hu
        exact h.apart (i + 1) (j + 1) u u' x (by omega) (by simpa using hu) (by simpa using hu') hx
theorem blocks_cons_ne {v : Value} {vs : List Value} {x : Nat} (h : x ∈ blocks (v :: vs)) : v.ownBlock = some x ∨ x ∈ blocks vs := by
  unfold blocks at h ⊢
  rw [List.mem_filterMap] at h
  obtain ⟨u, hu, hx⟩ := h
  rcases List.mem_cons.1 hu with e | e
  · subst e; exact .inl hx
  · exact .inr (List.mem_filterMap.2 ⟨u, e, hx⟩)
theorem blocks_tail {v : Value} {vs : List Value} {x : Nat} (h : x ∈ blocks vs) : x ∈ blocks (v :: vs) := by
  obtain ⟨u, hu, hx⟩ := List.mem_filterMap.1 h
  exact List.mem_filterMap.2 ⟨u, List.mem_cons_of_mem _ hu, hx⟩
/-- the log is another, made just now; its own block is written besides -/
theorem RD.newLog {w w' : World} {g : Nat} {d d' : DS} {R : RDat} {v : Value} {n : Nat} (h : RD w g d R) (k : Kept [g] w w') (hb : Blk w' g 78 (({ R with vlog := v } : RDat).cells d')) (hok : d'.Ok) (e1 : d'.np = d.np) (e2 : d'.rows = d.rows) (e3 : d'.loose = d.loose)
    (ho : w'.ownsRow w.heap.size 5 1 v n (u8s d'.log)) : RD w' g d' { R with vlog := v } := by
  obtain ⟨f1, f2, f3⟩ := h.far
  refine ⟨hok, hb, ?_, ?_, h.vl, ?_, ?_, fun x hx => ?_⟩
  · unfold DS.all
    rw [e2, e3]
    exact h.fam.head k (fun x hx hm => by simp at hx; subst hx; exact f3 (blocks_tail hm)) (Nat.zero_le _) ho
  · rw [e1]
    exact own_of_kept h.row k fun x hx hm => f1 (by simp at hm; subst hm; exact hx)
  · rw [e3]
    exact h.loose.kept k fun x hx hm => f2 (by simp at hm; subst hm; exact hx)
  · rw [e1, e3]; exact h.lidx
  · obtain ⟨a1, a2, a3⟩ := h.apart x hx
    refine ⟨a1, a2, fun hm => ?_⟩
    rcases blocks_cons_ne (v := v) hm with c | c
    · have := own_ge ho x c
      have := (h.loose.lt x hx).2
      omega
    · exact a3 (blocks_tail c)
/-- the footprint with another log -/
theorem foot_newLog {R : RDat} {v : Value} {g N x : Nat} (hv : ∀ y, v.ownBlock = some y → N ≤ y) (hx : x ∈ ({ R with vlog := v } : RDat).foot g) : x ∈ R.foot g ∨ N ≤ x := by
  unfold RDat.foot at hx ⊢
  rcases List.mem_cons.1 hx with e | hx
  · exact .inl (by simp [e])
  · rcases List.mem_append.1 hx with hx | hx
    · exact .inl (List.mem_cons_of_mem _ (List.mem_append_left _ hx))
    · rcases blocks_cons_ne (v := v) hx with c | c
      · exact .inr (hv x c)
      · exact .inl (List.mem_cons_of_mem _ (List.mem_append_right _ (blocks_tail c)))
set_option maxHeartbeats 800000 in
theorem cut_any (g : Nat) (d : DS) (R : RDat) (n : Int) (w : World) (h : RD w g d R) :
    Calls Try.prog 73 #[.pointer (some ⟨g, 0, none⟩), .int .i64 n] w fun e w' => ∃ R', e = .returned (.int .i64 (cutE d n)) ∧ RD w' g (d.cut n) R' ∧ Kept [g] w w' ∧ ∀ x ∈ R'.foot g, x ∈ R.foot g ∨ w.heap.size ≤ x := by
  have ha := act_any g d R w h
  have hok := h.ok.cut n
  have hl := h.ok.log
  have hlm := h.ok.lm
  obtain ⟨z, hz⟩ : ∃ z, z = d.alive := ⟨_, rfl⟩
  rw [← hz] at ha
  cases z with
  | false =>
    have eE : cutE d n = 1 := by unfold cutE; rw [← hz]; rfl
    have ed : d.cut n = d.act := by unfold DS.cut; rw [eE]; rfl
    rw [eE, ed]
    clear hz eE ed hok h hl hlm
    go_enter Try.func73, Try.ntmps73
    go_wp2_with fail
    refine ha.mono ?_
    rintro e w1 ⟨rfl, h1, k1⟩
    go_wp2
    go_ret
    exact ⟨R, rfl, h1, k1, fun x hx => .inl hx⟩
  | true =>
    by_cases hc : n < 0 ∨ (d.log.length : Int) < n
    · have eE : cutE d n = 61 := by unfold cutE; rw [← hz]; simp [hc]
      have ed : d.cut n = d.act := by unfold DS.cut; rw [eE]; rfl
      rw [eE, ed]
      clear hz eE ed hok h hl hlm
      go_enter Try.func73, Try.ntmps73
      go_wp2_with fail
      refine ha.mono ?_
      rintro e w1 ⟨rfl, h1, k1⟩
      obtain ⟨p, c, e1, -⟩ := h1.shapes
      rw [d.act_log] at e1
      have c9 := h1.blk.cell (j := 9) rfl
      rw [e1] at c9
      have H1 : Hid (RD w1 g d.act R) := h1
      clear h1 e1 ha
      rcases hc with hc | hc
      · go_wp2
        go_ret
        exact ⟨R, rfl, H1.out, k1, fun x hx => .inl hx⟩
      · by_cases hc0 : n < 0
        · omega
        · go_wp2
          go_ret
          exact ⟨R, rfl, H1.out, k1, fun x hx => .inl hx⟩
    · obtain ⟨m, rfl⟩ : ∃ m : Nat, n = (m : Int) := ⟨n.toNat, by omega⟩
      have hm : m ≤ d.log.length := by omega
      have eE : cutE d (m : Int) = 0 := by unfold cutE; rw [← hz]; simp; omega
      have ed : d.cut (m : Int) = { d.act with log := d.log.take m, lasted := min d.lasted m } := by unfold DS.cut; rw [eE]; rfl
      rw [eE]
      have ED : Hid (d.cut (m : Int) = { d.act with log := d.log.take m, lasted := min d.lasted m }) := ed
      have HL : Hid (d.log.length ≤ 65536) := (show d.log.length ≤ 65536 by omega)
      clear hz eE ed h hl hlm hc
      go_enter Try.func73, Try.ntmps73
      go_wp2_with fail
      refine ha.mono ?_
      rintro e w1 ⟨rfl, h1, k1⟩
      obtain ⟨p, c, e1, hbs⟩ := h1.shapes
      rw [d.act_log] at e1 hbs
      rw [e1] at hbs
      have c9 := h1.blk.cell (j := 9) rfl
      rw [e1] at c9
      obtain ⟨p2, hcut, -, hb2, -⟩ := hbs.cuts (P := Try.prog) 25 5 Try.underlying25 (by kernel_rfl) m hm
      have hcp := copied_from _ _ hb2 (by simp; have := HL.out; omega) _ (Kept.refl [] w1)
      have H1 : Hid (RD w1 g d.act R) := h1
      have hlen : (d.log.take m).length = m := by simp; omega
      rw [hlen] at hcp
      clear h1 e1 ha
      go_wp2_with fail
      refine hcp.mono ?_
      rintro e w2 ⟨p3, c3, rfl, o3, -, k2⟩
      have b2 := H1.out.blk.kept k2 (by simp)
      have f9 := b2.free 9
      have c9' := b2.cell (j := 9) rfl
      have c10 := b2.cell (j := 10) rfl
      have f10 := b2.free 10
      rw [show d.act.lasted = d.lasted from d.act_lasted] at c10
      obtain ⟨b3, k3⟩ := b2.set 9 (.slice p3 m c3)
      by_cases hgt : m < d.lasted
      · have hgt' : (m : Int) < (d.lasted : Int) := by omega
        obtain ⟨b4, k4⟩ := b3.set 10 (.int .i64 (m : Int))
        have k5 : Kept [g] w1 _ := (k2.mono (by simp)).trans (k3.trans k4 (by simp)) (by simp)
        have emin : min d.lasted m = m := by omega
        have o5 := own_of_kept o3 (k3.trans k4 (by simp)) (fun x hx hmm => by have := own_ge o3 x hx; have := H1.out.blk.lt; simp at hmm; omega)
        have fin : RD _ g (d.cut (m : Int)) { R with vlog := .slice p3 m c3 } := H1.out.newLog k5 (by rw [ED.out, emin]; exact b4) hok (by rw [ED.out]) (by rw [ED.out]) (by rw [ED.out]) (n := m) (by rw [ED.out]; exact o5)
        have FIN : Hid (RD _ g (d.cut (m : Int)) { R with vlog := .slice p3 m c3 }) := fin
        clear fin b2 b3 b4 hcut hcp hb2 hbs c9
        go_wp2
        go_ret
        exact ⟨_, rfl, FIN.out, k1.trans k5 (by simp), fun x hx => foot_newLog (fun y hy => Nat.le_trans k1.size (own_ge o3 y hy)) hx⟩
      · have hgt' : ¬ (m : Int) < (d.lasted : Int) := by omega
        have k5 : Kept [g] w1 _ := (k2.mono (by simp)).trans k3 (by simp)
        have emin : min d.lasted m = d.lasted := by omega
        have o5 := own_of_kept o3 k3 (fun x hx hmm => by have := own_ge o3 x hx; have := H1.out.blk.lt; simp at hmm; omega)
        have fin : RD _ g (d.cut (m : Int)) { R with vlog := .slice p3 m c3 } := H1.out.newLog k5 (by rw [ED.out, emin, ← d.act_lasted]; exact b3) hok (by rw [ED.out]) (by rw [ED.out]) (by rw [ED.out]) (n := m) (by rw [ED.out]; exact o5)
        have FIN : Hid (RD _ g (d.cut (m : Int)) { R with vlog := .slice p3 m c3 }) := fin
        clear fin b2 b3 hcut hcp hb2 hbs c9
        go_wp2
        go_ret
        exact ⟨_, rfl, FIN.out, k1.trans k5 (by simp), fun x hx => foot_newLog (fun y hy => Nat.le_trans k1.size (own_ge o3 y hy)) hx⟩
end Go.Proofs.Ytmipmiaflompmab

/-
  OWN WORK. The document's disk: ReadLog, Append.
-/
namespace Go.Proofs.Ytmipmiaflompmab
open Go.RowKit
set_option linter.unusedVariables false

set_option maxHeartbeats 800000 in
theorem readLog_any (g : Nat) (d : DS) (R : RDat) (f n : Int) (w : World) (h : RD w g d R) :
    Calls Try.prog 77 #[.pointer (some ⟨g, 0, none⟩), .int .i64 f, .int .i64 n] w fun e w' => ∃ v, e = .returned (.tuple #[v, .int .i64 (readLogE d f n)]) ∧ w'.ownsRow w.heap.size 5 1 v (readLogL d f n).length (u8s (readLogL d f n)) ∧ RD w' g d.act R ∧ Kept [g] w w' := by
  have ha := act_any g d R w h
  have hl := h.ok.log
  have hlm := h.ok.lm
  obtain ⟨z, hz⟩ : ∃ z, z = d.alive := ⟨_, rfl⟩
  rw [← hz] at ha
  cases z with
  | false =>
    have eE : readLogE d f n = 1 := by unfold readLogE; rw [← hz]; rfl
    have eL : readLogL d f n = [] := by unfold readLogL; rw [eE]; rfl
    rw [eE, eL]
    clear hz eE eL h hl hlm
    go_enter Try.func77, Try.ntmps77
    go_wp2_with fail
    refine ha.mono ?_
    rintro e w1 ⟨rfl, h1, k1⟩
    go_wp2
    go_ret2
    exact ⟨_, rfl, by simpa [u8s] using World.ownsRow_nil _ _ _ _, h1, k1⟩
  | true =>
    by_cases hc : f < 0 ∨ (d.log.length : Int) < f ∨ n < 0
    · have eE : readLogE d f n = 61 := by unfold readLogE; rw [← hz]; simp [hc]
      have eL : readLogL d f n = [] := by unfold readLogL; rw [eE]; rfl
      rw [eE, eL]
      clear hz eE eL h hl hlm
      go_enter Try.func77, Try.ntmps77
      go_wp2_with fail
      refine ha.mono ?_
      rintro e w1 ⟨rfl, h1, k1⟩
      obtain ⟨p, c, e1, -⟩ := h1.shapes
      rw [d.act_log] at e1
      have c9 := h1.blk.cell (j := 9) rfl
      rw [e1] at c9
      have H1 : Hid (RD w1 g d.act R) := h1
      clear h1 e1 ha
      by_cases hc0 : f < 0
      · clear hc
        go_wp2
        go_ret2
        exact ⟨_, rfl, by simpa [u8s] using World.ownsRow_nil _ _ _ _, H1.out, k1⟩
      · by_cases hc1 : (d.log.length : Int) < f
        · clear hc
          go_wp2
          go_ret2
          exact ⟨_, rfl, by simpa [u8s] using World.ownsRow_nil _ _ _ _, H1.out, k1⟩
        · have hc2 : n < 0 := by omega
          clear hc
          go_wp2
          go_ret2
          exact ⟨_, rfl, by simpa [u8s] using World.ownsRow_nil _ _ _ _, H1.out, k1⟩
    · obtain ⟨a, rfl⟩ : ∃ a : Nat, f = (a : Int) := ⟨f.toNat, by omega⟩
      obtain ⟨b, rfl⟩ : ∃ b : Nat, n = (b : Int) := ⟨n.toNat, by omega⟩
      have ham : a ≤ d.log.length := by omega
      have eE : readLogE d (a : Int) (b : Int) = 0 := by unfold readLogE; rw [← hz]; simp; omega
      obtain ⟨m, hm⟩ : ∃ m, m = min b (d.log.length - a) := ⟨_, rfl⟩
      have eL : readLogL d (a : Int) (b : Int) = (d.log.drop a).take m := by
        unfold readLogL
        rw [eE, if_pos rfl, Int.toNat_natCast, Int.toNat_natCast, hm, List.take_eq_take_iff]
        simp
      rw [eE, eL]
      have hlen : ((d.log.drop a).take m).length = m := by simp; omega
      rw [hlen]
      have HL : Hid (d.log.length ≤ 65536) := (show d.log.length ≤ 65536 by omega)
      have HM : Hid (m = min b (d.log.length - a)) := hm
      have ham' : ¬ (d.log.length : Int) < (a : Int) := by omega
      have hb0 : ¬ (b : Int) < 0 := by omega
      have ha0 : ¬ (a : Int) < 0 := by omega
      have ws : IntKind.i64.wrap ((d.log.length : Int) - (a : Int)) = (d.log.length : Int) - (a : Int) := wrap_i64_of (by omega) (by omega)
      have wa : IntKind.i64.wrap ((a : Int) + (m : Int)) = (a : Int) + (m : Int) := wrap_i64_of (by omega) (by omega)
      clear hz eE eL h hl hlm hc hm
      go_enter Try.func77, Try.ntmps77
      go_wp2_with fail
      refine ha.mono ?_
      rintro e w1 ⟨rfl, h1, k1⟩
      obtain ⟨p, c, e1, hbs⟩ := h1.shapes
      rw [d.act_log] at e1 hbs
      rw [e1] at hbs
      have c9 := h1.blk.cell (j := 9) rfl
      rw [e1] at c9
      obtain ⟨p2, hcut, hb2⟩ := hbs.mid (P := Try.prog) 25 5 Try.underlying25 (by kernel_rfl) a m (by have := HM.out; omega)
      have hcp := copied_from _ _ hb2 (by rw [hlen]; have := HL.out; have := HM.out; omega) _ (Kept.refl [] w1)
      rw [hlen] at hcp
      clear hlen
      have H1 : Hid (RD w1 g d.act R) := h1
      clear h1 e1 ha hbs hb2
      by_cases hgt : (d.log.length : Int) - (a : Int) < (b : Int)
      · have em : (d.log.length : Int) - (a : Int) = (m : Int) := by have := HM.out; omega
        rw [em] at ws hgt
        go_wp2_with fail
        refine hcp.mono ?_
        rintro e w2 ⟨p3, c3, rfl, o3, -, k2⟩
        have hf := H1.out.kept k2 (by simp)
        clear hcp hcut c9
        go_wp2
        go_ret2
        exact ⟨_, rfl, own_mono o3 k1.size, hf, k1.then k2⟩
      · have em : b = m := by have := HM.out; omega
        subst em
        go_wp2_with fail
        refine hcp.mono ?_
        rintro e w2 ⟨p3, c3, rfl, o3, -, k2⟩
        have hf := H1.out.kept k2 (by simp)
        clear hcp hcut c9
        go_wp2
        go_ret2
        exact ⟨_, rfl, own_mono o3 k1.size, hf, k1.then k2⟩
set_option maxHeartbeats 1600000 in
theorem append_any (g : Nat) (d : DS) (R : RDat) (u : Value) (b : List UInt8) (w : World) (h : RD w g d R) (hu : Bs w u b) (hne : b ≠ [] → u.ownBlock ≠ some g) :
    Calls Try.prog 69 #[.pointer (some ⟨g, 0, none⟩), u] w fun e w' => ∃ R', e = .returned (.int .i64 (appendE d b)) ∧ RD w' g (d.append b) R' ∧ Kept [g] w w' ∧ ∀ x ∈ R'.foot g, x ∈ R.foot g ∨ w.heap.size ≤ x := by
  have ha := act_any g d R w h
  have hok := h.ok.append b
  have hl := h.ok.log
  have hlm := h.ok.lm
  obtain ⟨pu, cu, rfl, hu1, hu2, -⟩ := id hu
  unfold maxLen at hu2
  have HU : Hid (b.length ≤ 9223372036854775807) := (show b.length ≤ 9223372036854775807 by omega)
  clear hu1 hu2
  obtain ⟨z, hz⟩ : ∃ z, z = d.alive := ⟨_, rfl⟩
  rw [← hz] at ha
  cases z with
  | false =>
    have eE : appendE d b = 1 := by unfold appendE; rw [← hz]; rfl
    have ed : d.append b = d.act := by unfold DS.append; rw [eE]; rfl
    rw [eE, ed]
    clear hz eE ed hok h hl hlm
    go_enter Try.func69, Try.ntmps69
    go_wp2_with fail
    refine ha.mono ?_
    rintro e w1 ⟨rfl, h1, k1⟩
    go_wp2
    go_ret
    exact ⟨R, rfl, h1, k1, fun x hx => .inl hx⟩
  | true =>
    have ws : IntKind.i64.wrap ((d.lm : Int) - (d.log.length : Int)) = (d.lm : Int) - (d.log.length : Int) := wrap_i64_of (by omega) (by omega)
    by_cases hc : d.lm < d.log.length + b.length
    · have eE : appendE d b = 63 := by unfold appendE; rw [← hz]; simp [hc]
      have ed : d.append b = d.act := by unfold DS.append; rw [eE]; rfl
      have hc' : (d.lm : Int) - (d.log.length : Int) < (b.length : Int) := by omega
      rw [eE, ed]
      clear hz eE ed hok h hl hlm hc
      go_enter Try.func69, Try.ntmps69
      go_wp2_with fail
      refine ha.mono ?_
      rintro e w1 ⟨rfl, h1, k1⟩
      obtain ⟨p, c, e1, -⟩ := h1.shapes
      rw [d.act_log] at e1
      have c9 := h1.blk.cell (j := 9) rfl
      have c2 := h1.blk.cell (j := 2) rfl
      rw [e1] at c9
      rw [d.act_lm] at c2
      have H1 : Hid (RD w1 g d.act R) := h1
      clear h1 e1 ha
      go_wp2
      go_quiet (fail)
      go_wp2
      go_ret
      exact ⟨R, rfl, H1.out.kept ((Kept.refl [] w1).drewN' _) (by simp), k1.then ((Kept.refl [] w1).drewN' _), fun x hx => .inl hx⟩
    · have eE : appendE d b = 0 := by unfold appendE; rw [← hz]; simp [hc]
      have ed : d.append b = { d.act with log := d.log ++ b } := by unfold DS.append; rw [eE]; rfl
      have hc' : ¬ (d.lm : Int) - (d.log.length : Int) < (b.length : Int) := by omega
      rw [eE]
      have ED : Hid (d.append b = { d.act with log := d.log ++ b }) := ed
      have HL : Hid (d.log.length + b.length ≤ 65536) := (show d.log.length + b.length ≤ 65536 by omega)
      clear hz eE ed h hl hlm hc
      go_enter Try.func69, Try.ntmps69
      go_wp2_with fail
      refine ha.mono ?_
      rintro e w1 ⟨rfl, h1, k1⟩
      obtain ⟨p, c, e1, hbs⟩ := h1.shapes
      rw [d.act_log] at e1 hbs
      rw [e1] at hbs
      have c9 := h1.blk.cell (j := 9) rfl
      have c2 := h1.blk.cell (j := 2) rfl
      rw [e1] at c9
      rw [d.act_lm] at c2
      have H1 : Hid (RD w1 g d.act R) := h1
      clear h1 e1 ha
      have hub : Bs w1 (.slice pu b.length cu) b := hu.keptNe k1 fun h0 x hx hm => hne h0 (by simp at hm; subst hm; exact hx)
      have hcf := copied_from _ _ hbs (by have := HL.out; omega)
      clear hbs hu hne
      go_wp2
      go_quiet (fail)
      go_wp2_with fail
      refine (hcf _ ((Kept.refl [] w1).drewN' nq)).mono ?_
      rintro e w2 ⟨p3, c3, rfl, o3, kA, k2⟩
      have hub2 := hub.kept kA
      have o3 : w2.ownsRow w1.heap.size 5 1 (.slice p3 d.log.length c3) d.log.length (u8s d.log) := o3
      clear hub hcf k2 c9 c2
      go_wp2_with (at_builtin; refine wpList_append_bs rfl (.tmp 27) (.tmp 28) 25 rfl w1.heap.size 5 Try.underlying25 (by kernel_rfl) _ _ _ (by rfl) o3 _ b (by rfl) hub2 (by have := HL.out; omega) kA.size ?_; intro v5 w5 o5 g5 at5; obtain ⟨p5, c5, rfl⟩ := own_shape2 o5; have kE : Kept (Value.slice p3 d.log.length c3).ownBlock.toList w2 w5 := Kept.ofGrown (S := (Value.slice p3 d.log.length c3).ownBlock.toList) g5 (by intro k e _; simp [e]); have ng : g ∉ (Value.slice p3 d.log.length c3).ownBlock.toList := (fun hm => by have := own_ge o3 g (by simpa using hm); have := H1.out.blk.lt; omega); have b5 := (H1.out.blk.kept kA (by simp)).kept kE ng; have f9 := b5.free 9; have c9 := b5.cell (j := 9) rfl)
      obtain ⟨b6, k6⟩ := b5.set 9 (.slice p5 (d.log.length + b.length) c5)
      have k7 : Kept [g] w1 (w5.setCell ⟨g, 9, none⟩ (.slice p5 (d.log.length + b.length) c5)) := ((kA.mono (by simp)).trans kE (by intro x hx; exact .inr (own_ge o3 x (by simpa using hx)))).trans k6 (by simp)
      have o6 := own_of_kept o5 k6 (fun x hx hm => by have := own_ge o5 x hx; have := H1.out.blk.lt; simp at hm; omega)
      rw [← u8s_append] at o6
      have fin : RD _ g (d.append b) { R with vlog := .slice p5 (d.log.length + b.length) c5 } := H1.out.newLog k7 (by rw [ED.out]; exact b6) hok (by rw [ED.out]) (by rw [ED.out]) (by rw [ED.out]) (n := d.log.length + b.length) (by rw [ED.out]; exact o6)
      go_ret
      exact ⟨_, rfl, fin, k1.trans k7 (by simp), fun x hx => foot_newLog (fun y hy => Nat.le_trans k1.size (own_ge o5 y hy)) hx⟩
end Go.Proofs.Ytmipmiaflompmab

/-
  OWN WORK. The document's disk: lay.
-/
namespace Go.Proofs.Ytmipmiaflompmab
open Go.RowKit
set_option linter.unusedVariables false

theorem over0_step (L b : List UInt8) (k : Nat) (h : k < b.length) (hL : k < L.length) : (over L 0 (b.take k)).set k (b[k]'h) = over L 0 (b.take (k + 1)) := by
  unfold over
  simp only [List.take_zero, List.nil_append, Nat.zero_add, List.length_take]
  rw [show min k b.length = k by omega, show min (k + 1) b.length = k + 1 by omega, List.set_append_right _ _ (by simp; omega), List.length_take, show k - min k b.length = 0 by omega, List.drop_eq_getElem_cons hL, List.set_cons_zero, ← List.take_append_getElem h, List.append_assoc]
  rfl
theorem over0_length' (L b : List UInt8) (k : Nat) (h : k ≤ L.length) : (over L 0 (b.take k)).length = L.length := over_length _ _ _ (by simp; omega)
theorem over0_zero (L b : List UInt8) : over L 0 (b.take 0) = L := by simp [over]
/-- the memory that lay works on: the target row, its bytes, and what is read -/
structure LayIn (w : World) (base : Nat) (tv : Value) (L : List UInt8) (vB : Value) (b : List UInt8) (n : Nat) : Prop where
  own : w.ownsRow base 5 1 tv L.length (u8s L)
  bs : Bs w vB b
  nb : n ≤ b.length
  nL : n ≤ L.length
  ne : ∀ x, tv.ownBlock = some x → vB.ownBlock ≠ some x
set_option maxHeartbeats 3200000 in
theorem lay_page (pp : Addr) (np cp : Nat) (pr lg a0 a1 : Option Addr) (ln lc gn gc an ac bn bc : Nat) (j : Nat) (tv vB : Value) (L b : List UInt8) (n base : Nat) (w : World) (h : LayIn w base tv L vB b n) (hj : j < np) (hc : w.cell? (pp.add j) = some tv) (hcn : ∀ x, tv.ownBlock = some x → x ≠ (pp.add j).block) :
    Calls Try.prog 43 #[.agg #[.slice (some pp) np cp, .slice pr ln lc, .slice lg gn gc, .slice a0 an ac, .slice a1 bn bc], .agg #[.int .i64 0, .int .i64 (j : Int), vB], .int .i64 (n : Int)] w fun e w' => (∃ v, e = .returned v) ∧ w'.ownsRow base 5 1 tv L.length (u8s (over L 0 (b.take n))) ∧ Kept tv.ownBlock.toList w w' := by
  obtain ⟨own, hbs, nb, nL, hne⟩ := h
  obtain ⟨tp, tc, rfl⟩ := own_shape2 own
  obtain ⟨bp, bc', rfl, hbm1, hbm2⟩ := hbs.shape
  have HBM : Hid (b.length ≤ 9223372036854775807) := (show b.length ≤ 9223372036854775807 by unfold maxLen at hbm2; omega)
  clear hbm1 hbm2
  have k0 : Kept [] w _ := ((Kept.refl [] w).alloc (.cells #[.slice (some pp) np cp, .slice pr ln lc, .slice lg gn gc, .slice a0 an ac, .slice a1 bn bc] 28)).alloc (.cells #[.int .i64 0, .int .i64 (j : Int), .slice bp b.length bc'] 89)
  obtain ⟨w1, hw1⟩ : ∃ w1, w1 = (w.alloc (.cells #[.slice (some pp) np cp, .slice pr ln lc, .slice lg gn gc, .slice a0 an ac, .slice a1 bn bc] 28)).alloc (.cells #[.int .i64 0, .int .i64 (j : Int), .slice bp b.length bc'] 89) := ⟨_, rfl⟩
  have m0 : w1.cell? ⟨w.heap.size, 0, none⟩ = some (.slice (some pp) np cp) := by rw [hw1]; simp [go_sem]
  have q0 : w1.cell? ⟨w.heap.size + 1, 0, none⟩ = some (.int .i64 0) := by rw [hw1]; simp [go_sem]
  have q1 : w1.cell? ⟨w.heap.size + 1, 1, none⟩ = some (.int .i64 (j : Int)) := by rw [hw1]; simp [go_sem]
  have q2 : w1.cell? ⟨w.heap.size + 1, 2, none⟩ = some (.slice bp b.length bc') := by rw [hw1]; simp [go_sem]
  rw [← hw1] at k0
  have own1 := own_of_kept own k0 (by simp)
  have hc1 := k0.cell hc (by simp)
  have hbs1 := hbs.kept k0
  have hlow : ∀ x, (Value.slice tp L.length tc).ownBlock = some x → x < w.heap.size := fun x hx => own_lt own x hx
  have HW : Hid (w1 = (w.alloc (.cells #[.slice (some pp) np cp, .slice pr ln lc, .slice lg gn gc, .slice a0 an ac, .slice a1 bn bc] 28)).alloc (.cells #[.int .i64 0, .int .i64 (j : Int), .slice bp b.length bc'] 89)) := hw1
  have hj' : (j : Int) < (np : Int) := by omega
  clear hw1 own hc hbs
  go_enter Try.func43, Try.ntmps43
  go_wp2
  rw [← HW.out]
  go_loopw [6] (fun i wr => ∃ k : Nat, k ≤ n ∧ i = .int .i64 k ∧ wr.ownsRow base 5 1 (.slice tp L.length tc) L.length (u8s (over L 0 (b.take k))) ∧ Kept (Value.slice tp L.length tc).ownBlock.toList w1 wr) (fun i _ => n - (intOf i).toNat)
  case atStart => exact ⟨0, Nat.zero_le _, rfl, by rw [over0_zero]; exact own1, Kept.refl _ _⟩
  case round =>
    obtain ⟨k, hk, rfl, hown, hkept⟩ := hrel
    clear own1 HW
    have nm0 : w.heap.size ∉ (Value.slice tp L.length tc).ownBlock.toList := fun hm => by have := hlow _ (by simpa using hm); omega
    have nm1 : w.heap.size + 1 ∉ (Value.slice tp L.length tc).ownBlock.toList := fun hm => by have := hlow _ (by simpa using hm); omega
    have nmp : (pp.add j).block ∉ (Value.slice tp L.length tc).ownBlock.toList := fun hm => hcn _ (by simpa using hm) rfl
    have r0 := hkept.cell q0 nm1
    by_cases hlt : k < n
    · have hlt' : (k : Int) < (n : Int) := by omega
      have wk : IntKind.i64.wrap ((k : Int) + 1) = (k : Int) + 1 := wrap_i64_of (by omega) (by have := HBM.out; omega)
      obtain ⟨bb, bo, bc2, e', -, -, -, hcell⟩ := hbs1.pos (by omega)
      simp only [Value.slice.injEq] at e'
      obtain ⟨rfl, -, rfl⟩ := e'
      have hbc := hkept.cell (hcell k (b[k]'(by omega)) (List.getElem?_eq_getElem (by omega))) (fun hm => hne bb (by simpa using hm) (by simp [Value.ownBlock]))
      obtain ⟨tb, rfl⟩ : ∃ tb, tp = some ⟨tb, 0, none⟩ := by
        rcases hown.2 with ⟨e, hz⟩ | ⟨g', cap, cur, e, -⟩
        · have := hown.1; simp [u8s] at this; exfalso; have h0 : L.length = 0 := by simp at e; omega
          omega
        · cases e; exact ⟨g', rfl⟩
      have hol : (over L 0 (b.take k)).length = L.length := over0_length' L b k (by omega)
      have hcc := hown.cellAt k (by omega)
      rw [show (u8s (over L 0 (b.take k)))[k]? = some (.int .u8 (((over L 0 (b.take k))[k]'(by omega)).toNat : Int)) from by simp only [u8s, List.getElem?_map, List.getElem?_eq_getElem (show k < (over L 0 (b.take k)).length by omega)]; rfl] at hcc
      have hf := hown.frozenAt k
      obtain ⟨ow2, kw2⟩ := set_own hown k (b[k]'(by omega)) _ rfl
      rw [over0_step L b k (by omega) (by omega)] at ow2
      have r1 := hkept.cell q1 nm1
      have r2 := hkept.cell q2 nm1
      have r3 := hkept.cell m0 nm0
      have r4 := hkept.cell hc1 nmp
      have hkb : (k : Int) < (b.length : Int) := by omega
      have hkL : (k : Int) < (L.length : Int) := by omega
      generalize (over L 0 (b.take k))[k]'(by omega) = old at hcc
      have nt0 : w.heap.size ∉ [tb] := by simpa [Value.ownBlock] using nm0
      have nt1 : w.heap.size + 1 ∉ [tb] := by simpa [Value.ownBlock] using nm1
      have ntp : (pp.add j).block ∉ [tb] := by simpa [Value.ownBlock] using nmp
      have ntb : bb ∉ [tb] := fun hm => hne tb (by simp [Value.ownBlock]) (by simp at hm; simp [Value.ownBlock, hm])
      have s1 := kw2.cell r1 nt1
      have s2 := kw2.cell r2 nt1
      have s3 := kw2.cell r3 nt0
      have s4 := kw2.cell r4 ntp
      have s5 := kw2.cell hbc ntb
      have kw3 := hkept.trans kw2 (by intro x hx; simp at hx; subst hx; exact .inl (by simp [Value.ownBlock]))
      clear hcell hown hbs1 hkept kw2
      go_wp2
      go_region_held3 (fun w' => w'.cell? ⟨w.heap.size + 1, 1, none⟩ = some (.int .i64 (j : Int)) ∧ w'.cell? ⟨w.heap.size + 1, 2, none⟩ = some (.slice (some ⟨bb, bo, none⟩) b.length bc') ∧ w'.cell? ⟨w.heap.size, 0, none⟩ = some (.slice (some pp) np cp) ∧ w'.cell? (pp.add j) = some (.slice (some ⟨tb, 0, none⟩) L.length tc) ∧ w'.cell? ⟨bb, bo + k, none⟩ = some (.int .u8 ((b[k]'(by omega)).toNat : Int)))
        (first | (with_reducible exact ⟨r1, r2, r3, r4, hbc⟩) | (with_reducible exact ⟨s1, s2, s3, s4, s5⟩) | go_keep)
        (fail)
      go_wp2
      go_roundw
      case rel => exact ⟨k + 1, by omega, by go_num, ow2, kw3.drew⟩
      case measure => simp [intOf]; omega
    · obtain rfl : k = n := by omega
      clear hbs1
      go_wp2
      go_returns
      exact ⟨⟨_, rfl⟩, hown, (k0.mono (by simp)).trans hkept (by intro x hx; exact .inl hx)⟩
set_option maxHeartbeats 3200000 in
theorem lay_pair (pp lg a0 a1 : Option Addr) (np cp ln lc gn gc an ac bn bc : Nat) (num : Int) (tv vB : Value) (L b : List UInt8) (n base : Nat) (w : World) (h : LayIn w base tv L vB b n) :
    Calls Try.prog 43 #[.agg #[.slice pp np cp, tv, .slice lg gn gc, .slice a0 an ac, .slice a1 bn bc], .agg #[.int .i64 1, .int .i64 num, vB], .int .i64 (n : Int)] w fun e w' => (∃ v, e = .returned v) ∧ w'.ownsRow base 5 1 tv L.length (u8s (over L 0 (b.take n))) ∧ Kept tv.ownBlock.toList w w' := by
  obtain ⟨own, hbs, nb, nL, hne⟩ := h
  obtain ⟨tp, tc, rfl⟩ := own_shape2 own
  obtain ⟨bp, bc', rfl, hbm1, hbm2⟩ := hbs.shape
  have HBM : Hid (b.length ≤ 9223372036854775807) := (show b.length ≤ 9223372036854775807 by unfold maxLen at hbm2; omega)
  clear hbm1 hbm2
  have k0 : Kept [] w _ := ((Kept.refl [] w).alloc (.cells #[.slice pp np cp, .slice tp L.length tc, .slice lg gn gc, .slice a0 an ac, .slice a1 bn bc] 28)).alloc (.cells #[.int .i64 1, .int .i64 num, .slice bp b.length bc'] 89)
  obtain ⟨w1, hw1⟩ : ∃ w1, w1 = (w.alloc (.cells #[.slice pp np cp, .slice tp L.length tc, .slice lg gn gc, .slice a0 an ac, .slice a1 bn bc] 28)).alloc (.cells #[.int .i64 1, .int .i64 num, .slice bp b.length bc'] 89) := ⟨_, rfl⟩
  have m0 : w1.cell? ⟨w.heap.size, 1, none⟩ = some (.slice tp L.length tc) := by rw [hw1]; simp [go_sem]
  have q0 : w1.cell? ⟨w.heap.size + 1, 0, none⟩ = some (.int .i64 1) := by rw [hw1]; simp [go_sem]
  have q1 : w1.cell? ⟨w.heap.size + 1, 1, none⟩ = some (.int .i64 num) := by rw [hw1]; simp [go_sem]
  have q2 : w1.cell? ⟨w.heap.size + 1, 2, none⟩ = some (.slice bp b.length bc') := by rw [hw1]; simp [go_sem]
  rw [← hw1] at k0
  have own1 := own_of_kept own k0 (by simp)
  have hbs1 := hbs.kept k0
  have hlow : ∀ x, (Value.slice tp L.length tc).ownBlock = some x → x < w.heap.size := fun x hx => own_lt own x hx
  have HW : Hid (w1 = (w.alloc (.cells #[.slice pp np cp, .slice tp L.length tc, .slice lg gn gc, .slice a0 an ac, .slice a1 bn bc] 28)).alloc (.cells #[.int .i64 1, .int .i64 num, .slice bp b.length bc'] 89)) := hw1
  clear hw1 own hbs
  go_enter Try.func43, Try.ntmps43
  go_wp2
  rw [← HW.out]
  go_loopw [6] (fun i wr => ∃ k : Nat, k ≤ n ∧ i = .int .i64 k ∧ wr.ownsRow base 5 1 (.slice tp L.length tc) L.length (u8s (over L 0 (b.take k))) ∧ Kept (Value.slice tp L.length tc).ownBlock.toList w1 wr) (fun i _ => n - (intOf i).toNat)
  case atStart => exact ⟨0, Nat.zero_le _, rfl, by rw [over0_zero]; exact own1, Kept.refl _ _⟩
  case round =>
    obtain ⟨k, hk, rfl, hown, hkept⟩ := hrel
    clear own1 HW
    have nm0 : w.heap.size ∉ (Value.slice tp L.length tc).ownBlock.toList := fun hm => by have := hlow _ (by simpa using hm); omega
    have nm1 : w.heap.size + 1 ∉ (Value.slice tp L.length tc).ownBlock.toList := fun hm => by have := hlow _ (by simpa using hm); omega
    have r0 := hkept.cell q0 nm1
    by_cases hlt : k < n
    · have hlt' : (k : Int) < (n : Int) := by omega
      have wk : IntKind.i64.wrap ((k : Int) + 1) = (k : Int) + 1 := wrap_i64_of (by omega) (by have := HBM.out; omega)
      obtain ⟨bb, bo, bc2, e', -, -, -, hcell⟩ := hbs1.pos (by omega)
      simp only [Value.slice.injEq] at e'
      obtain ⟨rfl, -, rfl⟩ := e'
      have hbc := hkept.cell (hcell k (b[k]'(by omega)) (List.getElem?_eq_getElem (by omega))) (fun hm => hne bb (by simpa using hm) (by simp [Value.ownBlock]))
      obtain ⟨tb, rfl⟩ : ∃ tb, tp = some ⟨tb, 0, none⟩ := by
        rcases hown.2 with ⟨e, hz⟩ | ⟨g', cap, cur, e, -⟩
        · have := hown.1; simp [u8s] at this; exfalso; have h0 : L.length = 0 := by simp at e; omega
          omega
        · cases e; exact ⟨g', rfl⟩
      have hol : (over L 0 (b.take k)).length = L.length := over0_length' L b k (by omega)
      have hcc := hown.cellAt k (by omega)
      rw [show (u8s (over L 0 (b.take k)))[k]? = some (.int .u8 (((over L 0 (b.take k))[k]'(by omega)).toNat : Int)) from by simp only [u8s, List.getElem?_map, List.getElem?_eq_getElem (show k < (over L 0 (b.take k)).length by omega)]; rfl] at hcc
      have hf := hown.frozenAt k
      obtain ⟨ow2, kw2⟩ := set_own hown k (b[k]'(by omega)) _ rfl
      rw [over0_step L b k (by omega) (by omega)] at ow2
      have r1 := hkept.cell q1 nm1
      have r2 := hkept.cell q2 nm1
      have r3 := hkept.cell m0 nm0
      have hkb : (k : Int) < (b.length : Int) := by omega
      have hkL : (k : Int) < (L.length : Int) := by omega
      generalize (over L 0 (b.take k))[k]'(by omega) = old at hcc
      have nt0 : w.heap.size ∉ [tb] := by simpa [Value.ownBlock] using nm0
      have nt1 : w.heap.size + 1 ∉ [tb] := by simpa [Value.ownBlock] using nm1
      have ntb : bb ∉ [tb] := fun hm => hne tb (by simp [Value.ownBlock]) (by simp at hm; simp [Value.ownBlock, hm])
      have s1 := kw2.cell r1 nt1
      have s2 := kw2.cell r2 nt1
      have s3 := kw2.cell r3 nt0
      have s5 := kw2.cell hbc ntb
      have kw3 := hkept.trans kw2 (by intro x hx; simp at hx; subst hx; exact .inl (by simp [Value.ownBlock]))
      clear hcell hown hbs1 hkept kw2
      go_wp2
      go_region_held3 (fun w' => w'.cell? ⟨w.heap.size + 1, 1, none⟩ = some (.int .i64 num) ∧ w'.cell? ⟨w.heap.size + 1, 2, none⟩ = some (.slice (some ⟨bb, bo, none⟩) b.length bc') ∧ w'.cell? ⟨w.heap.size, 1, none⟩ = some (.slice (some ⟨tb, 0, none⟩) L.length tc) ∧ w'.cell? ⟨bb, bo + k, none⟩ = some (.int .u8 ((b[k]'(by omega)).toNat : Int)))
        (first | (with_reducible exact ⟨r1, r2, r3, hbc⟩) | (with_reducible exact ⟨s1, s2, s3, s5⟩) | go_keep)
        (fail)
      go_wp2
      go_roundw
      case rel => exact ⟨k + 1, by omega, by go_num, ow2, kw3.drew⟩
      case measure => simp [intOf]; omega
    · obtain rfl : k = n := by omega
      clear hbs1
      go_wp2
      go_returns
      exact ⟨⟨_, rfl⟩, hown, (k0.mono (by simp)).trans hkept (by intro x hx; exact .inl hx)⟩
set_option maxHeartbeats 3200000 in
theorem lay_m0 (pp pr lg a1 : Option Addr) (np cp ln lc gn gc an ac bn bc : Nat) (tv vB : Value) (L b : List UInt8) (n base : Nat) (w : World) (h : LayIn w base tv L vB b n) :
    Calls Try.prog 43 #[.agg #[.slice pp np cp, .slice pr ln lc, .slice lg gn gc, tv, .slice a1 bn bc], .agg #[.int .i64 2, .int .i64 0, vB], .int .i64 (n : Int)] w fun e w' => (∃ v, e = .returned v) ∧ w'.ownsRow base 5 1 tv L.length (u8s (over L 0 (b.take n))) ∧ Kept tv.ownBlock.toList w w' := by
  obtain ⟨own, hbs, nb, nL, hne⟩ := h
  obtain ⟨tp, tc, rfl⟩ := own_shape2 own
  obtain ⟨bp, bc', rfl, hbm1, hbm2⟩ := hbs.shape
  have HBM : Hid (b.length ≤ 9223372036854775807) := (show b.length ≤ 9223372036854775807 by unfold maxLen at hbm2; omega)
  clear hbm1 hbm2
  have k0 : Kept [] w _ := ((Kept.refl [] w).alloc (.cells #[.slice pp np cp, .slice pr ln lc, .slice lg gn gc, .slice tp L.length tc, .slice a1 bn bc] 28)).alloc (.cells #[.int .i64 2, .int .i64 0, .slice bp b.length bc'] 89)
  obtain ⟨w1, hw1⟩ : ∃ w1, w1 = (w.alloc (.cells #[.slice pp np cp, .slice pr ln lc, .slice lg gn gc, .slice tp L.length tc, .slice a1 bn bc] 28)).alloc (.cells #[.int .i64 2, .int .i64 0, .slice bp b.length bc'] 89) := ⟨_, rfl⟩
  have m0 : w1.cell? ⟨w.heap.size, 3, none⟩ = some (.slice tp L.length tc) := by rw [hw1]; simp [go_sem]
  have q0 : w1.cell? ⟨w.heap.size + 1, 0, none⟩ = some (.int .i64 2) := by rw [hw1]; simp [go_sem]
  have q1 : w1.cell? ⟨w.heap.size + 1, 1, none⟩ = some (.int .i64 0) := by rw [hw1]; simp [go_sem]
  have q2 : w1.cell? ⟨w.heap.size + 1, 2, none⟩ = some (.slice bp b.length bc') := by rw [hw1]; simp [go_sem]
  rw [← hw1] at k0
  have own1 := own_of_kept own k0 (by simp)
  have hbs1 := hbs.kept k0
  have hlow : ∀ x, (Value.slice tp L.length tc).ownBlock = some x → x < w.heap.size := fun x hx => own_lt own x hx
  have HW : Hid (w1 = (w.alloc (.cells #[.slice pp np cp, .slice pr ln lc, .slice lg gn gc, .slice tp L.length tc, .slice a1 bn bc] 28)).alloc (.cells #[.int .i64 2, .int .i64 0, .slice bp b.length bc'] 89)) := hw1
  clear hw1 own hbs
  go_enter Try.func43, Try.ntmps43
  go_wp2
  rw [← HW.out]
  go_loopw [6] (fun i wr => ∃ k : Nat, k ≤ n ∧ i = .int .i64 k ∧ wr.ownsRow base 5 1 (.slice tp L.length tc) L.length (u8s (over L 0 (b.take k))) ∧ Kept (Value.slice tp L.length tc).ownBlock.toList w1 wr) (fun i _ => n - (intOf i).toNat)
  case atStart => exact ⟨0, Nat.zero_le _, rfl, by rw [over0_zero]; exact own1, Kept.refl _ _⟩
  case round =>
    obtain ⟨k, hk, rfl, hown, hkept⟩ := hrel
    clear own1 HW
    have nm0 : w.heap.size ∉ (Value.slice tp L.length tc).ownBlock.toList := fun hm => by have := hlow _ (by simpa using hm); omega
    have nm1 : w.heap.size + 1 ∉ (Value.slice tp L.length tc).ownBlock.toList := fun hm => by have := hlow _ (by simpa using hm); omega
    have r0 := hkept.cell q0 nm1
    by_cases hlt : k < n
    · have hlt' : (k : Int) < (n : Int) := by omega
      have wk : IntKind.i64.wrap ((k : Int) + 1) = (k : Int) + 1 := wrap_i64_of (by omega) (by have := HBM.out; omega)
      obtain ⟨bb, bo, bc2, e', -, -, -, hcell⟩ := hbs1.pos (by omega)
      simp only [Value.slice.injEq] at e'
      obtain ⟨rfl, -, rfl⟩ := e'
      have hbc := hkept.cell (hcell k (b[k]'(by omega)) (List.getElem?_eq_getElem (by omega))) (fun hm => hne bb (by simpa using hm) (by simp [Value.ownBlock]))
      obtain ⟨tb, rfl⟩ : ∃ tb, tp = some ⟨tb, 0, none⟩ := by
        rcases hown.2 with ⟨e, hz⟩ | ⟨g', cap, cur, e, -⟩
        · have := hown.1; simp [u8s] at this; exfalso; have h0 : L.length = 0 := by simp at e; omega
          omega
        · cases e; exact ⟨g', rfl⟩
      have hol : (over L 0 (b.take k)).length = L.length := over0_length' L b k (by omega)
      have hcc := hown.cellAt k (by omega)
      rw [show (u8s (over L 0 (b.take k)))[k]? = some (.int .u8 (((over L 0 (b.take k))[k]'(by omega)).toNat : Int)) from by simp only [u8s, List.getElem?_map, List.getElem?_eq_getElem (show k < (over L 0 (b.take k)).length by omega)]; rfl] at hcc
      have hf := hown.frozenAt k
      obtain ⟨ow2, kw2⟩ := set_own hown k (b[k]'(by omega)) _ rfl
      rw [over0_step L b k (by omega) (by omega)] at ow2
      have r1 := hkept.cell q1 nm1
      have r2 := hkept.cell q2 nm1
      have r3 := hkept.cell m0 nm0
      have hkb : (k : Int) < (b.length : Int) := by omega
      have hkL : (k : Int) < (L.length : Int) := by omega
      generalize (over L 0 (b.take k))[k]'(by omega) = old at hcc
      have nt0 : w.heap.size ∉ [tb] := by simpa [Value.ownBlock] using nm0
      have nt1 : w.heap.size + 1 ∉ [tb] := by simpa [Value.ownBlock] using nm1
      have ntb : bb ∉ [tb] := fun hm => hne tb (by simp [Value.ownBlock]) (by simp at hm; simp [Value.ownBlock, hm])
      have s1 := kw2.cell r1 nt1
      have s2 := kw2.cell r2 nt1
      have s3 := kw2.cell r3 nt0
      have s5 := kw2.cell hbc ntb
      have kw3 := hkept.trans kw2 (by intro x hx; simp at hx; subst hx; exact .inl (by simp [Value.ownBlock]))
      clear hcell hown hbs1 hkept kw2
      go_wp2
      go_region_held3 (fun w' => w'.cell? ⟨w.heap.size + 1, 1, none⟩ = some (.int .i64 0) ∧ w'.cell? ⟨w.heap.size + 1, 2, none⟩ = some (.slice (some ⟨bb, bo, none⟩) b.length bc') ∧ w'.cell? ⟨w.heap.size, 3, none⟩ = some (.slice (some ⟨tb, 0, none⟩) L.length tc) ∧ w'.cell? ⟨bb, bo + k, none⟩ = some (.int .u8 ((b[k]'(by omega)).toNat : Int)))
        (first | (with_reducible exact ⟨r1, r2, r3, hbc⟩) | (with_reducible exact ⟨s1, s2, s3, s5⟩) | go_keep)
        (fail)
      go_wp2
      go_roundw
      case rel => exact ⟨k + 1, by omega, by go_num, ow2, kw3.drew⟩
      case measure => simp [intOf]; omega
    · obtain rfl : k = n := by omega
      clear hbs1
      go_wp2
      go_returns
      exact ⟨⟨_, rfl⟩, hown, (k0.mono (by simp)).trans hkept (by intro x hx; exact .inl hx)⟩
set_option maxHeartbeats 3200000 in
theorem lay_m1 (pp pr lg a0 : Option Addr) (np cp ln lc gn gc an ac bn bc : Nat) (tv vB : Value) (L b : List UInt8) (n base : Nat) (w : World) (h : LayIn w base tv L vB b n) :
    Calls Try.prog 43 #[.agg #[.slice pp np cp, .slice pr ln lc, .slice lg gn gc, .slice a0 an ac, tv], .agg #[.int .i64 2, .int .i64 1, vB], .int .i64 (n : Int)] w fun e w' => (∃ v, e = .returned v) ∧ w'.ownsRow base 5 1 tv L.length (u8s (over L 0 (b.take n))) ∧ Kept tv.ownBlock.toList w w' := by
  obtain ⟨own, hbs, nb, nL, hne⟩ := h
  obtain ⟨tp, tc, rfl⟩ := own_shape2 own
  obtain ⟨bp, bc', rfl, hbm1, hbm2⟩ := hbs.shape
  have HBM : Hid (b.length ≤ 9223372036854775807) := (show b.length ≤ 9223372036854775807 by unfold maxLen at hbm2; omega)
  clear hbm1 hbm2
  have k0 : Kept [] w _ := ((Kept.refl [] w).alloc (.cells #[.slice pp np cp, .slice pr ln lc, .slice lg gn gc, .slice a0 an ac, .slice tp L.length tc] 28)).alloc (.cells #[.int .i64 2, .int .i64 1, .slice bp b.length bc'] 89)
  obtain ⟨w1, hw1⟩ : ∃ w1, w1 = (w.alloc (.cells #[.slice pp np cp, .slice pr ln lc, .slice lg gn gc, .slice a0 an ac, .slice tp L.length tc] 28)).alloc (.cells #[.int .i64 2, .int .i64 1, .slice bp b.length bc'] 89) := ⟨_, rfl⟩
  have m0 : w1.cell? ⟨w.heap.size, 4, none⟩ = some (.slice tp L.length tc) := by rw [hw1]; simp [go_sem]
  have q0 : w1.cell? ⟨w.heap.size + 1, 0, none⟩ = some (.int .i64 2) := by rw [hw1]; simp [go_sem]
  have q1 : w1.cell? ⟨w.heap.size + 1, 1, none⟩ = some (.int .i64 1) := by rw [hw1]; simp [go_sem]
  have q2 : w1.cell? ⟨w.heap.size + 1, 2, none⟩ = some (.slice bp b.length bc') := by rw [hw1]; simp [go_sem]
  rw [← hw1] at k0
  have own1 := own_of_kept own k0 (by simp)
  have hbs1 := hbs.kept k0
  have hlow : ∀ x, (Value.slice tp L.length tc).ownBlock = some x → x < w.heap.size := fun x hx => own_lt own x hx
  have HW : Hid (w1 = (w.alloc (.cells #[.slice pp np cp, .slice pr ln lc, .slice lg gn gc, .slice a0 an ac, .slice tp L.length tc] 28)).alloc (.cells #[.int .i64 2, .int .i64 1, .slice bp b.length bc'] 89)) := hw1
  clear hw1 own hbs
  go_enter Try.func43, Try.ntmps43
  go_wp2
  rw [← HW.out]
  go_loopw [6] (fun i wr => ∃ k : Nat, k ≤ n ∧ i = .int .i64 k ∧ wr.ownsRow base 5 1 (.slice tp L.length tc) L.length (u8s (over L 0 (b.take k))) ∧ Kept (Value.slice tp L.length tc).ownBlock.toList w1 wr) (fun i _ => n - (intOf i).toNat)
  case atStart => exact ⟨0, Nat.zero_le _, rfl, by rw [over0_zero]; exact own1, Kept.refl _ _⟩
  case round =>
    obtain ⟨k, hk, rfl, hown, hkept⟩ := hrel
    clear own1 HW
    have nm0 : w.heap.size ∉ (Value.slice tp L.length tc).ownBlock.toList := fun hm => by have := hlow _ (by simpa using hm); omega
    have nm1 : w.heap.size + 1 ∉ (Value.slice tp L.length tc).ownBlock.toList := fun hm => by have := hlow _ (by simpa using hm); omega
    have r0 := hkept.cell q0 nm1
    by_cases hlt : k < n
    · have hlt' : (k : Int) < (n : Int) := by omega
      have wk : IntKind.i64.wrap ((k : Int) + 1) = (k : Int) + 1 := wrap_i64_of (by omega) (by have := HBM.out; omega)
      obtain ⟨bb, bo, bc2, e', -, -, -, hcell⟩ := hbs1.pos (by omega)
      simp only [Value.slice.injEq] at e'
      obtain ⟨rfl, -, rfl⟩ := e'
      have hbc := hkept.cell (hcell k (b[k]'(by omega)) (List.getElem?_eq_getElem (by omega))) (fun hm => hne bb (by simpa using hm) (by simp [Value.ownBlock]))
      obtain ⟨tb, rfl⟩ : ∃ tb, tp = some ⟨tb, 0, none⟩ := by
        rcases hown.2 with ⟨e, hz⟩ | ⟨g', cap, cur, e, -⟩
        · have := hown.1; simp [u8s] at this; exfalso; have h0 : L.length = 0 := by simp at e; omega
          omega
        · cases e; exact ⟨g', rfl⟩
      have hol : (over L 0 (b.take k)).length = L.length := over0_length' L b k (by omega)
      have hcc := hown.cellAt k (by omega)
      rw [show (u8s (over L 0 (b.take k)))[k]? = some (.int .u8 (((over L 0 (b.take k))[k]'(by omega)).toNat : Int)) from by simp only [u8s, List.getElem?_map, List.getElem?_eq_getElem (show k < (over L 0 (b.take k)).length by omega)]; rfl] at hcc
      have hf := hown.frozenAt k
      obtain ⟨ow2, kw2⟩ := set_own hown k (b[k]'(by omega)) _ rfl
      rw [over0_step L b k (by omega) (by omega)] at ow2
      have r1 := hkept.cell q1 nm1
      have r2 := hkept.cell q2 nm1
      have r3 := hkept.cell m0 nm0
      have hkb : (k : Int) < (b.length : Int) := by omega
      have hkL : (k : Int) < (L.length : Int) := by omega
      generalize (over L 0 (b.take k))[k]'(by omega) = old at hcc
      have nt0 : w.heap.size ∉ [tb] := by simpa [Value.ownBlock] using nm0
      have nt1 : w.heap.size + 1 ∉ [tb] := by simpa [Value.ownBlock] using nm1
      have ntb : bb ∉ [tb] := fun hm => hne tb (by simp [Value.ownBlock]) (by simp at hm; simp [Value.ownBlock, hm])
      have s1 := kw2.cell r1 nt1
      have s2 := kw2.cell r2 nt1
      have s3 := kw2.cell r3 nt0
      have s5 := kw2.cell hbc ntb
      have kw3 := hkept.trans kw2 (by intro x hx; simp at hx; subst hx; exact .inl (by simp [Value.ownBlock]))
      clear hcell hown hbs1 hkept kw2
      go_wp2
      go_region_held3 (fun w' => w'.cell? ⟨w.heap.size + 1, 1, none⟩ = some (.int .i64 1) ∧ w'.cell? ⟨w.heap.size + 1, 2, none⟩ = some (.slice (some ⟨bb, bo, none⟩) b.length bc') ∧ w'.cell? ⟨w.heap.size, 4, none⟩ = some (.slice (some ⟨tb, 0, none⟩) L.length tc) ∧ w'.cell? ⟨bb, bo + k, none⟩ = some (.int .u8 ((b[k]'(by omega)).toNat : Int)))
        (first | (with_reducible exact ⟨r1, r2, r3, hbc⟩) | (with_reducible exact ⟨s1, s2, s3, s5⟩) | go_keep)
        (fail)
      go_wp2
      go_roundw
      case rel => exact ⟨k + 1, by omega, by go_num, ow2, kw3.drew⟩
      case measure => simp [intOf]; omega
    · obtain rfl : k = n := by omega
      clear hbs1
      go_wp2
      go_returns
      exact ⟨⟨_, rfl⟩, hown, (k0.mono (by simp)).trans hkept (by intro x hx; exact .inl hx)⟩
end Go.Proofs.Ytmipmiaflompmab

/-
  OWN WORK. The document's disk: size, Lasts.
-/
namespace Go.Proofs.Ytmipmiaflompmab
open Go.RowKit
set_option linter.unusedVariables false

def RDat.iv (R : RDat) : IV := ⟨R.vp, R.pv, R.pair, R.vl, R.m0, R.m1⟩
/-- the rows of a disk, one by one -/
theorem RD.rowAt {w : World} {g : Nat} {d : DS} {R : RDat} (h : RD w g d R) {k : Nat} {v : Value} {l : List UInt8} (hv : (R.pair :: (R.pv ++ [R.m0, R.m1]))[k]? = some v) (hl : d.rows[k]? = some l) : w.ownsRow 0 5 1 v l.length (u8s l) := by
  have hpv : R.pv.length = d.np := by simpa using h.row.1
  have hlen := h.ok.len
  have hk : k < d.np + 3 := by have := (List.getElem?_eq_some_iff.1 hl).1; omega
  refine h.fam.own (k + 1) v l ?_ ?_
  · show (R.pair :: (R.pv ++ [R.m0, R.m1]) ++ R.lv.map (·.2.2))[k]? = some v
    rw [List.getElem?_append_left (by simp; omega)]
    exact hv
  · show (d.rows ++ d.loose.map (·.2))[k]? = some l
    rw [List.getElem?_append_left (by omega)]
    exact hl
theorem RD.pvLen {w : World} {g : Nat} {d : DS} {R : RDat} (h : RD w g d R) : R.pv.length = d.np := by simpa using h.row.1
theorem getD_some {l : List (List UInt8)} {k : Nat} (h : k < l.length) : l[k]? = some (l.getD k []) := by simp [List.getD, List.getElem?_eq_getElem h]
theorem RD.pairOwn {w : World} {g : Nat} {d : DS} {R : RDat} (h : RD w g d R) : w.ownsRow 0 5 1 R.pair (d.rows.getD 0 []).length (u8s (d.rows.getD 0 [])) := h.rowAt (k := 0) rfl (getD_some (by have := h.ok.len; omega))
theorem RD.m0Own {w : World} {g : Nat} {d : DS} {R : RDat} (h : RD w g d R) : w.ownsRow 0 5 1 R.m0 (d.rows.getD (d.np + 1) []).length (u8s (d.rows.getD (d.np + 1) [])) := h.rowAt (k := d.np + 1) (by rw [← h.pvLen]; simp) (getD_some (by have := h.ok.len; omega))
theorem RD.m1Own {w : World} {g : Nat} {d : DS} {R : RDat} (h : RD w g d R) : w.ownsRow 0 5 1 R.m1 (d.rows.getD (d.np + 2) []).length (u8s (d.rows.getD (d.np + 2) [])) := h.rowAt (k := d.np + 2) (by rw [← h.pvLen, List.getElem?_cons_succ, List.getElem?_append_right (by omega)]; simp) (getD_some (by have := h.ok.len; omega))
/-- the image that lasts, as it is read -/
theorem RD.see {w : World} {g : Nat} {d : DS} {R : RDat} (h : RD w g d R) : SeeIm w R.iv (imOf d.np d.rows []) := by
  have hpv := h.pvLen
  have hlen := h.ok.len
  obtain ⟨pl, cl, e, hc, hn⟩ := h.vl
  refine ⟨?_, ?_, fun i v l hv hl => ?_, Bs.ofOwn h.pairOwn, ⟨pl, cl, e, Nat.zero_le _, hc, hn, fun a _ i x hx => by have h0 : ([] : List UInt8)[i]? = some x := hx; simp at h0⟩, Bs.ofOwn h.m0Own, Bs.ofOwn h.m1Own⟩
  · have key : ∃ p c, R.vp = .slice p d.np c ∧ d.np ≤ c ∧ c ≤ maxLen ∧ (∀ a, p = some a → ∀ (i : Nat) v, R.pv[i]? = some v → w.cell? (a.add i) = some v) ∧ (p = none → d.np = 0) := by
      rcases h.row.2 with ⟨e, hz⟩ | ⟨g', cap, cur, e, h1, h2, h3, h4, h5⟩
      · exact ⟨none, 0, by rw [e, hz], by omega, by unfold maxLen; omega, (fun a ha => by cases ha), fun _ => hz⟩
      · refine ⟨some ⟨g', 0, none⟩, cap, e, h3, h4, fun a ha i v hv => ?_, (fun hh => by cases hh)⟩
        cases ha
        exact h.row.cells (g := g') (by rw [e]; rfl) i v hv
    rw [← hpv] at key
    exact key
  · show R.pv.length = ((d.rows.drop 1).take d.np).length
    rw [hpv]; simp; omega
  · have hv' : R.pv[i]? = some v := hv
    have hi : i < d.np := by rw [← hpv]; exact (List.getElem?_eq_some_iff.1 hv').1
    have hl' : ((d.rows.drop 1).take d.np)[i]? = some l := hl
    rw [List.getElem?_take, if_pos hi, List.getElem?_drop] at hl'
    refine Bs.ofOwn (h.rowAt (k := i + 1) ?_ (by rw [Nat.add_comm]; exact hl'))
    rw [List.getElem?_cons_succ, List.getElem?_append_left (by omega)]
    exact hv'
theorem OwnIm.shapes {w : World} {base : Nat} {V : IV} {m : IM} (h : OwnIm w base V m) : ∃ p0 c0 p1 c1 p2 c2 p3 c3 p4 c4, V.vp = .slice p0 V.pv.length c0 ∧ V.pair = .slice p1 m.pair.length c1 ∧ V.log = .slice p2 m.log.length c2 ∧ V.m0 = .slice p3 m.m0.length c3 ∧ V.m1 = .slice p4 m.m1.length c4 := by
  obtain ⟨p0, c0, e0⟩ := own_shape2 h.row
  obtain ⟨p2, c2, e2⟩ := own_shape2 (h.fam.own 0 V.log m.log rfl rfl)
  obtain ⟨p1, c1, e1⟩ := own_shape2 (h.fam.own 1 V.pair m.pair rfl rfl)
  have hl := h.len
  obtain ⟨p3, c3, e3⟩ := own_shape2 (h.fam.own (2 + V.pv.length) V.m0 m.m0 (by simp [IV.rows, Nat.add_comm 2]) (by rw [hl]; simp [IM.all, Nat.add_comm 2]))
  obtain ⟨p4, c4, e4⟩ := own_shape2 (h.fam.own (3 + V.pv.length) V.m1 m.m1 (by rw [show 3 + V.pv.length = (V.pv.length + 1) + 1 + 1 by omega]; simp [IV.rows]) (by rw [hl, show 3 + m.ps.length = (m.ps.length + 1) + 1 + 1 by omega]; simp [IM.all]))
  exact ⟨p0, c0, p1, c1, p2, c2, p3, c3, p4, c4, e0, e1, e2, e3, e4⟩
/-- another log, made just now -/
theorem OwnIm.newLog {w w' : World} {base n : Nat} {V : IV} {m : IM} {v : Value} {l : List UInt8} {S : List Nat} (h : OwnIm w base V m) (hb : base ≤ w.heap.size) (k : Kept S w w') (hS : ∀ x ∈ S, Not8 w x) (hS2 : ∀ x ∈ S, V.vp.ownBlock ≠ some x) (ho : w'.ownsRow w.heap.size 5 1 v n (u8s l)) : OwnIm w' base { V with log := v } { m with log := l } :=
  ⟨h.fam.head k (fun x hx hm => (h.fam.not8 (blocks_tail hm)).1 (hS x hx)) hb ho, own_of_kept h.row k (fun x hx hm => hS2 x hm hx), h.len⟩
def sizeI (d : DS) (place number : Int) : Int := match idxOf d.np place number with
  | none => 0
  | some k => (sizeK d.np d.ns k : Int)
theorem size_any (g : Nat) (d : DS) (R : RDat) (p n : Int) (w : World) (h : RD w g d R) :
    Calls Try.prog 81 #[.pointer (some ⟨g, 0, none⟩), .int .i64 p, .int .i64 n] w fun e w' => e = .returned (.int .i64 (sizeI d p n)) ∧ Kept [] w w' := by
  have hb := h.blk
  have c0 := hb.cell (j := 0) rfl
  have c1 := hb.cell (j := 1) rfl
  have c2 := hb.cell (j := 2) rfl
  have hns := h.ok.ns
  have hnp := h.ok.np
  have hpb := pageBytes_any (d.np : Int) (d.ns : Int) (d.lm : Int) w (wrap16 hns.2) (wrap24 hns.2)
  have w16 : IntKind.i64.wrap (16 + (24 + 16 * (d.ns : Int))) = 16 + (24 + 16 * (d.ns : Int)) := wrap_i64_of (by omega) (by omega)
  by_cases hp0 : p = 0
  · subst hp0
    by_cases h1 : 0 ≤ n
    · by_cases h2 : n < (d.np : Int)
      · have e : sizeI d 0 n = 24 + 16 * (d.ns : Int) := by
          unfold sizeI
          rw [idxOf_page, pageIx, if_pos ⟨h1, h2⟩]
          show (sizeK d.np d.ns (1 + n.toNat) : Int) = _
          unfold sizeK pgB
          rw [if_neg (by omega), if_pos (by omega)]
          omega
        rw [e]
        clear h hb e hns hnp
        go_enter Try.func81, Try.ntmps81
        go_wp2_with fail
        refine hpb.mono ?_
        rintro e w' ⟨rfl, k⟩
        go_wp2
        go_ret
        exact ⟨rfl, k⟩
      · have e : sizeI d 0 n = 0 := by
          unfold sizeI
          rw [idxOf_page, pageIx, if_neg (by omega)]
        rw [e]
        clear h hb e hns hnp
        go_enter Try.func81, Try.ntmps81
        go_wp2
        go_ret
        exact ⟨rfl, Kept.refl _ _⟩
    · have e : sizeI d 0 n = 0 := by
        unfold sizeI
        rw [idxOf_page, pageIx, if_neg (by omega)]
      rw [e]
      clear h hb e hns hnp
      go_enter Try.func81, Try.ntmps81
      go_wp2
      go_ret
      exact ⟨rfl, Kept.refl _ _⟩
  · by_cases hp1 : p = 1
    · subst hp1
      have e : sizeI d 1 n = 16 + (24 + 16 * (d.ns : Int)) := by
        unfold sizeI
        rw [idxOf_pair]
        show (sizeK d.np d.ns 0 : Int) = _
        unfold sizeK pgB
        rw [if_pos rfl]
        omega
      rw [e]
      clear h hb e hns hnp
      go_enter Try.func81, Try.ntmps81
      go_wp2_with fail
      refine hpb.mono ?_
      rintro e w' ⟨rfl, k⟩
      go_wp2
      go_ret
      exact ⟨rfl, k⟩
    · by_cases hp2 : p = 2
      · subst hp2
        by_cases h1 : 0 ≤ n
        · by_cases h2 : n < 2
          · have e : sizeI d 2 n = 40 := by
              unfold sizeI
              rw [idxOf_master, masterIx, if_pos ⟨h1, h2⟩]
              show (sizeK d.np d.ns (d.np + 1 + n.toNat) : Int) = _
              unfold sizeK pgB
              rw [if_neg (by omega), if_neg (by omega)]
              rfl
            rw [e]
            clear h hb e hns hnp
            go_enter Try.func81, Try.ntmps81
            go_wp2
            go_ret
            exact ⟨rfl, Kept.refl _ _⟩
          · have e : sizeI d 2 n = 0 := by
              unfold sizeI
              rw [idxOf_master, masterIx, if_neg (by omega)]
            rw [e]
            clear h hb e hns hnp
            go_enter Try.func81, Try.ntmps81
            go_wp2
            go_ret
            exact ⟨rfl, Kept.refl _ _⟩
        · have e : sizeI d 2 n = 0 := by
            unfold sizeI
            rw [idxOf_master, masterIx, if_neg (by omega)]
          rw [e]
          clear h hb e hns hnp
          go_enter Try.func81, Try.ntmps81
          go_wp2
          go_ret
          exact ⟨rfl, Kept.refl _ _⟩
      · have e : sizeI d p n = 0 := by
          unfold sizeI
          have : idxOf d.np p n = none := by unfold idxOf; rw [if_neg (fun c => hp0 c.1), if_neg hp1, if_neg (fun c => hp2 c.1)]
          rw [this]
        rw [e]
        clear h hb e hns hnp
        go_enter Try.func81, Try.ntmps81
        go_wp2
        go_ret
        exact ⟨rfl, Kept.refl _ _⟩
end Go.Proofs.Ytmipmiaflompmab

/-
  OWN WORK. The document's disk: Lasts.
-/
namespace Go.Proofs.Ytmipmiaflompmab
open Go.RowKit
set_option linter.unusedVariables false

theorem imOf_small {d : DS} (h : d.Ok) {rows : List (List UInt8)} (hs : Sized d.np d.ns rows) (l : List UInt8) (hl : l.length ≤ 65536) : (imOf d.np rows l).ps.length ≤ 16 ∧ ∀ x ∈ (imOf d.np rows l).all, x.length ≤ 65536 := by
  have hns := h.ns
  have hnp := h.np
  have hk : ∀ (k : Nat) r, rows[k]? = some r → r.length ≤ 65536 := fun k r hr => by
    rw [hs k r hr]
    have := sizeK_le d.np d.ns k hns.2
    omega
  have hg : ∀ k, (rows.getD k []).length ≤ 65536 := fun k => by
    by_cases c : k < rows.length
    · exact hk k _ (getD_some c)
    · simp [List.getD, List.getElem?_eq_none (by omega : rows.length ≤ k)]
  refine ⟨by simp [imOf]; omega, fun x hx => ?_⟩
  simp only [IM.all, imOf, List.mem_cons, List.mem_append] at hx
  rcases hx with e | e | e | e | e | e
  · rw [e]; exact hl
  · rw [e]; exact hg _
  · obtain ⟨k, hk'⟩ := List.getElem?_of_mem (List.mem_of_mem_take e)
    rw [List.getElem?_drop] at hk'
    exact hk _ _ hk'
  · rw [e]; exact hg _
  · rw [e]; exact hg _
  · cases e
theorem OwnIm.mono {w : World} {b b' : Nat} {V : IV} {m : IM} (h : OwnIm w b V m) (hb : b' ≤ b) : OwnIm w b' V m := ⟨h.fam.mono hb, own_mono h.row hb, h.len⟩
set_option maxHeartbeats 3200000 in
theorem lasts_any (g : Nat) (d : DS) (R : RDat) (w : World) (h : RD w g d R) :
    Calls Try.prog 40 #[.pointer (some ⟨g, 0, none⟩)] w fun e w' => ∃ V, e = .returned V.agg ∧ OwnIm w' w.heap.size V d.lasts ∧ Kept [] w w' := by
  have k0 := (Kept.refl [] w).alloc (.cells #[.slice none 0 0, .slice none 0 0, .slice none 0 0, .slice none 0 0, .slice none 0 0] 28)
  obtain ⟨w0, hw0⟩ : ∃ w0, w0 = w.alloc (.cells #[.slice none 0 0, .slice none 0 0, .slice none 0 0, .slice none 0 0, .slice none 0 0] 28) := ⟨_, rfl⟩
  have bR : Blk w0 w.heap.size 28 nil5 := by rw [hw0]; exact Blk.new w _ _
  rw [← hw0] at k0
  have h0 := h.kept k0 (by simp)
  have hsm := imOf_small h.ok h.ok.row [] (by simp)
  have him := images_any R.iv _ w0 h0.see hsm.1 hsm.2
  have hll := h.ok.lasted
  have hl2 := h.ok.log
  have hlm := h.ok.lm
  have HL : Hid (d.lasted ≤ d.log.length ∧ d.log.length ≤ 65536) := (show d.lasted ≤ d.log.length ∧ d.log.length ≤ 65536 from ⟨hll, by omega⟩)
  have HW : Hid (w0 = w.alloc (.cells #[.slice none 0 0, .slice none 0 0, .slice none 0 0, .slice none 0 0, .slice none 0 0] 28)) := hw0
  have hb := h.blk
  have hglt := hb.lt
  have c3 := hb.cell (j := 3) rfl
  have c4 := hb.cell (j := 4) rfl
  have c5 := hb.cell (j := 5) rfl
  have c6 := hb.cell (j := 6) rfl
  have c7 := hb.cell (j := 7) rfl
  obtain ⟨pp, cp, ep⟩ := own_shape2 h0.row
  obtain ⟨p1, q1, e1⟩ := own_shape2 h0.pairOwn
  obtain ⟨p3, q3, e3⟩ := own_shape2 h0.m0Own
  obtain ⟨p4, q4, e4⟩ := own_shape2 h0.m1Own
  obtain ⟨p2, q2, e2, -⟩ := h0.vl
  have H0 : Hid (RD w0 g d R) := h0
  unfold IV.agg RDat.iv at him
  simp only at him
  rw [ep, e1, e2, e3, e4] at him
  rw [ep] at c3
  rw [e1] at c4
  rw [e2] at c5
  rw [e3] at c6
  rw [e4] at c7
  rw [hw0] at him
  clear h0 h hb hsm hll hl2 hlm ep e1 e2 e3 e4 hw0
  go_enter Try.func40, Try.ntmps40
  go_wp2_with fail
  refine him.mono ?_
  rintro e w2 ⟨V, rfl, hV, k2⟩
  rw [← HW.out] at k2
  have s0 : w0.heap.size = w.heap.size + 1 := by rw [HW.out]; simp
  have hV : OwnIm w2 w0.heap.size V (imOf d.np d.rows []) := by rw [HW.out]; exact hV
  obtain ⟨vp, pv, pair, log, m0, m1⟩ := V
  obtain ⟨u0, v0, u1, v1, u2, v2, u3, v3, u4, v4, x0, x1, x2, x3, x4⟩ := hV.shapes
  simp only at x0 x1 x2 x3 x4
  subst x0 x1 x2 x3 x4
  have H2 := H0.out.kept k2 (by simp)
  generalize (imOf d.np d.rows []).pair.length = lp at *
  generalize (imOf d.np d.rows []).m0.length = la at *
  generalize (imOf d.np d.rows []).m1.length = lb at *
  generalize (imOf d.np d.rows []).log.length = lg at *
  obtain ⟨w3, hw3⟩ : ∃ w3, w3 = w2.alloc (.cells #[.slice u0 pv.length v0, .slice u1 lp v1, .slice u2 lg v2, .slice u3 la v3, .slice u4 lb v4] 28) := ⟨_, rfl⟩
  have k3 : Kept [] w2 w3 := by rw [hw3]; exact (Kept.refl [] w2).alloc _
  have b3 : Blk w3 w2.heap.size 28 [.slice u0 pv.length v0, .slice u1 lp v1, .slice u2 lg v2, .slice u3 la v3, .slice u4 lb v4] := by rw [hw3]; exact Blk.new w2 _ _
  have s3 : w3.heap.size = w2.heap.size + 1 := by rw [hw3]; simp
  have H3 := H2.kept k3 (by simp)
  have hg2 : g < w2.heap.size := H2.blk.lt
  have c9 := H3.blk.cell (j := 9) rfl
  have c10 := H3.blk.cell (j := 10) rfl
  obtain ⟨pl, cl, el, hbs⟩ := H3.shapes
  rw [el] at c9 hbs
  obtain ⟨p9, hcut, -, hb9, -⟩ := hbs.cuts (P := Try.prog) 25 5 Try.underlying25 (by kernel_rfl) d.lasted HL.out.1
  have hlen : (d.log.take d.lasted).length = d.lasted := by have := HL.out.1; simp; omega
  have hcf := copied_from _ _ hb9 (by rw [hlen]; have := HL.out; omega)
  rw [hlen] at hcf
  have bR3 := (bR.kept k2 (by simp)).kept k3 (by simp)
  have HW3 : Hid (w3 = w2.alloc (.cells #[.slice u0 pv.length v0, .slice u1 lp v1, .slice u2 lg v2, .slice u3 la v3, .slice u4 lb v4] 28)) := hw3
  have HB3 : Hid (Blk w3 w2.heap.size 28 [.slice u0 pv.length v0, .slice u1 lp v1, .slice u2 lg v2, .slice u3 la v3, .slice u4 lb v4]) := b3
  have HV : Hid (OwnIm w3 w0.heap.size ⟨.slice u0 pv.length v0, pv, .slice u1 lp v1, .slice u2 lg v2, .slice u3 la v3, .slice u4 lb v4⟩ (imOf d.np d.rows [])) := (show OwnIm w3 w0.heap.size ⟨.slice u0 pv.length v0, pv, .slice u1 lp v1, .slice u2 lg v2, .slice u3 la v3, .slice u4 lb v4⟩ (imOf d.np d.rows []) from ⟨hV.fam.kept k3 (by simp), own_of_kept hV.row k3 (by simp), hV.len⟩)
  have HR : Hid (Blk w3 w.heap.size 28 nil5) := bR3
  clear him c3 c4 c5 c6 c7 hglt hbs hb9 hlen el bR bR3 b3 hw3 hV H2 H3
  have S0 : Hid (w0.heap.size = w.heap.size + 1) := s0
  have S3 : Hid (w3.heap.size = w2.heap.size + 1) := s3
  clear s0 s3
  go_wp2_with fail
  rw [← HW3.out]
  have ng : g ∉ [w2.heap.size] := by simp; omega
  go_region_held3 (fun w' => w'.cell? ⟨g, 9, none⟩ = some (.slice pl d.log.length cl) ∧ w'.cell? ⟨g, 10, none⟩ = some (.int .i64 (d.lasted : Int)))
    (first | (with_reducible exact ⟨c9, c10⟩) | (with_reducible exact ⟨kA.cell c9 (by simp), kA.cell c10 (by simp)⟩) | (with_reducible exact ⟨k6.cell (kA.cell c9 (by simp)) ng, k6.cell (kA.cell c10 (by simp)) ng⟩) | go_keep)
    (first
      | (go_at_call 42; refine (hcf _ (by first | (with_reducible exact Kept.refl _ _) | (with_reducible exact (Kept.refl _ _).drew))).mono ?_; clear hcf; rintro e w4 ⟨p5, q5, rfl, o5, kA, kA2⟩
         have b4 := HB3.out.kept kA (by simp)
         obtain ⟨b5, k6⟩ := b4.set 2 (.slice p5 d.lasted q5)
         have t2 := b4.cell (j := 2) rfl
         have f2 := b4.free 2)
      | fail)
  have nr : w.heap.size ∉ [w2.heap.size] := by have := k2.size; have := S0.out; simp; omega
  have bR5 := (HR.out.kept kA (by simp)).kept k6 nr
  obtain ⟨⟨r0, r1, r2, r3, r4⟩, y0, y1, y2, y3, y4⟩ := Blk.five (show Blk _ w.heap.size 28 [.slice none 0 0, .slice none 0 0, .slice none 0 0, .slice none 0 0, .slice none 0 0] from bR5)
  obtain ⟨⟨i0, i1, i2, i3, i4⟩, -⟩ := Blk.five (show Blk _ w2.heap.size 28 [.slice u0 pv.length v0, .slice u1 lp v1, .slice p5 d.lasted q5, .slice u3 la v3, .slice u4 lb v4] from b5)
  obtain ⟨bF, kF⟩ := Blk.set5 (a' := .slice u0 pv.length v0) (b' := .slice u1 lp v1) (c' := .slice p5 d.lasted q5) (d' := .slice u3 la v3) (e' := .slice u4 lb v4) (show Blk _ w.heap.size 28 [.slice none 0 0, .slice none 0 0, .slice none 0 0, .slice none 0 0, .slice none 0 0] from bR5)
  obtain ⟨⟨j0, j1, j2, j3, j4⟩, -⟩ := bF.five
  have kAll : Kept [w2.heap.size, w.heap.size] w3 _ := ((kA.mono (by simp)).trans (k6.mono (T := [w2.heap.size, w.heap.size]) (by simp)) (by intro x hx; exact .inl hx)).trans (kF.mono (T := [w2.heap.size, w.heap.size]) (by simp)) (by intro x hx; exact .inl hx)
  have o5 : w4.ownsRow w3.heap.size 5 1 (.slice p5 d.lasted q5) d.lasted (u8s (d.log.take d.lasted)) := o5
  have o6 := own_of_kept o5 ((k6.mono (T := [w2.heap.size, w.heap.size]) (by simp)).trans (kF.mono (T := [w2.heap.size, w.heap.size]) (by simp)) (by intro x hx; exact .inl hx)) (fun x hx hm => by have := own_ge o5 x hx; have := S3.out; have := S0.out; have := k2.size; simp at hm; omega)
  have fin := HV.out.newLog (by have := S3.out; have := k2.size; omega) kAll (by intro x hx; simp at hx; rcases hx with rfl | rfl; exact HB3.out.not8 (by decide); exact HR.out.not8 (by decide)) (by intro x hx e; simp at hx; rcases hx with rfl | rfl; exact HB3.out.far HV.out.row (by decide) _ e rfl; exact HR.out.far HV.out.row (by decide) _ e rfl) o6
  have fin2 := fin.mono (b' := w.heap.size) (by have := S0.out; omega)
  have kfin : Kept [] w _ := (((k0.then k2).then k3).then kA).trans (k6.mono (T := [w2.heap.size, w.heap.size]) (by simp)) (by intro x hx; simp at hx; have := S0.out; have := k2.size; exact .inr (by omega)) |>.trans kF (by simp)
  have FIN : Hid (OwnIm _ w.heap.size ⟨.slice u0 pv.length v0, pv, .slice u1 lp v1, .slice p5 d.lasted q5, .slice u3 la v3, .slice u4 lb v4⟩ d.lasts) := fin2
  clear fin fin2 bR5 b5 bF kF kAll o6 b4 t2 f2
  go_wp2
  refine bodyPost_ret (by simp [results, Try.results40, go_sem, j0, j1, j2, j3, j4]; try rfl) rfl ?_
  exact ⟨_, rfl, FIN.out, kfin⟩
end Go.Proofs.Ytmipmiaflompmab

/-
  OWN WORK. lay on an image of one's own.
-/
namespace Go.Proofs.Ytmipmiaflompmab
open Go.RowKit
set_option linter.unusedVariables false

theorem im_all {np : Nat} {rows : List (List UInt8)} (h : rows.length = np + 3) (lg : List UInt8) : (imOf np rows lg).all = lg :: rows := by
  show lg :: rows.getD 0 [] :: ((rows.drop 1).take np ++ [rows.getD (np + 1) [], rows.getD (np + 2) []]) = lg :: rows
  congr 1
  apply List.ext_getElem?
  intro i
  rcases i with _ | i
  · simp [List.getD, List.getElem?_eq_getElem (show 0 < rows.length by omega)]
  · rw [List.getElem?_cons_succ, List.getElem?_append]
    have hl : ((rows.drop 1).take np).length = np := by simp; omega
    rw [hl]
    by_cases c : i < np
    · rw [if_pos c, List.getElem?_take, if_pos c, List.getElem?_drop, Nat.add_comm]
    · rw [if_neg c]
      rcases (by omega : i = np ∨ i = np + 1 ∨ np + 2 ≤ i) with e | e | e
      · subst e
        rw [Nat.sub_self, getD_some (show i + 1 < rows.length by omega)]; rfl
      · subst e
        rw [show np + 1 - np = 1 by omega, getD_some (show np + 1 + 1 < rows.length by omega)]; rfl
      · rw [List.getElem?_eq_none (by simp; omega), List.getElem?_eq_none (by omega)]
/-- the values of the rows of an image, without its log -/
def IV.tail (V : IV) : List Value := V.pair :: (V.pv ++ [V.m0, V.m1])
theorem OwnIm.ofRows {w : World} {base np : Nat} {V : IV} {rows : List (List UInt8)} {lg : List UInt8} (h : OwnIm w base V (imOf np rows lg)) (hr : rows.length = np + 3) : Fam w base (V.log :: V.tail) (lg :: rows) ∧ V.pv.length = np := by
  have h1 := h.fam
  rw [im_all hr] at h1
  refine ⟨h1, ?_⟩
  rw [h.len]
  show ((rows.drop 1).take np).length = np
  simp; omega
theorem OwnIm.toRows {w : World} {base np : Nat} {V : IV} {rows : List (List UInt8)} {lg : List UInt8} (h : Fam w base (V.log :: V.tail) (lg :: rows)) (hr : rows.length = np + 3) (hp : V.pv.length = np) (ho : w.ownsRow base 25 1 V.vp V.pv.length V.pv) : OwnIm w base V (imOf np rows lg) :=
  ⟨by rw [im_all hr]; exact h, ho, by rw [hp]; show np = ((rows.drop 1).take np).length; simp; omega⟩
set_option maxHeartbeats 1600000 in
theorem lay_im (V : IV) (np base : Nat) (rows : List (List UInt8)) (lg b : List UInt8) (vB : Value) (place number : Int) (k n : Nat) (w : World) (h : OwnIm w base V (imOf np rows lg)) (hr : rows.length = np + 3) (hk : idxOf np place number = some k) (hB : Bs w vB b) (hbl : b.length = (rows.getD k []).length) (hn : n ≤ b.length)
    (hne : ∀ x, x ∈ blocks (V.log :: V.tail) → vB.ownBlock ≠ some x) :
    Calls Try.prog 43 #[V.agg, .agg #[.int .i64 place, .int .i64 number, vB], .int .i64 (n : Int)] w fun e w' => (∃ v, e = .returned v) ∧ OwnIm w' base V (imOf np (layR rows k b n) lg) ∧ Kept (blocks (V.log :: V.tail)) w w' := by
  obtain ⟨hf, hpv⟩ := h.ofRows hr
  have hkl := idxOf_lt hk
  obtain ⟨tv, htv⟩ : ∃ tv, V.tail[k]? = some tv := ⟨_, List.getElem?_eq_getElem (by simp [IV.tail, hpv]; omega)⟩
  have hL := getD_some (l := rows) (k := k) (by omega)
  have hown := hf.own (k + 1) tv _ htv hL
  have hin : ∀ x, tv.ownBlock = some x → x ∈ blocks (V.log :: V.tail) := fun x hx => mem_blocks (k := k + 1) htv hx
  have hlay : LayIn w base tv (rows.getD k []) vB b n := ⟨hown, hB, hn, by omega, fun x hx => hne x (hin x hx)⟩
  have fin : ∀ (e : Ending) (w' : World), ((∃ v, e = .returned v) ∧ w'.ownsRow base 5 1 tv (rows.getD k []).length (u8s (over (rows.getD k []) 0 (b.take n))) ∧ Kept tv.ownBlock.toList w w') → ((∃ v, e = .returned v) ∧ OwnIm w' base V (imOf np (layR rows k b n) lg) ∧ Kept (blocks (V.log :: V.tail)) w w') := by
    rintro e w' ⟨hv, ho, kk⟩
    have hlen : (over (rows.getD k []) 0 (b.take n)).length = (rows.getD k []).length := over0_length' _ _ _ (by omega)
    have hs := hf.set (k + 1) tv (over (rows.getD k []) 0 (b.take n)) htv kk (by rw [hlen]; exact ho)
    refine ⟨hv, OwnIm.toRows hs (by rw [layR_length]; exact hr) hpv (own_of_kept h.row kk fun x hx hm => ?_), kk.mono fun x hx => hin x (by simpa using hx)⟩
    exact own_is8 hown x (by simpa using hm) (own_not8 h.row (by decide) x hx)
  obtain ⟨vp, pv, pair, log, m0, m1⟩ := V
  obtain ⟨u0, v0, u1, v1, u2, v2, u3, v3, u4, v4, x0, x1, x2, x3, x4⟩ := h.shapes
  simp only at x0 x1 x2 x3 x4 hpv
  subst x0 x1 x2 x3 x4
  unfold IV.agg
  simp only
  unfold idxOf at hk
  split at hk
  · rename_i hc
    obtain ⟨rfl, hc1, hc2⟩ := hc
    obtain ⟨j, rfl⟩ : ∃ j : Nat, number = (j : Int) := ⟨number.toNat, by omega⟩
    have e : k = 1 + j := by simpa using hk.symm
    subst e
    have hj : j < pv.length := by omega
    have htv' : pv[j]? = some tv := by
      have h1 : ((Value.slice u1 (imOf np rows lg).pair.length v1) :: (pv ++ [Value.slice u3 (imOf np rows lg).m0.length v3, Value.slice u4 (imOf np rows lg).m1.length v4]))[1 + j]? = some tv := htv
      rw [Nat.add_comm, List.getElem?_cons_succ, List.getElem?_append_left hj] at h1
      exact h1
    obtain ⟨gv, rfl⟩ : ∃ gv, u0 = some ⟨gv, 0, none⟩ := by
      rcases h.row.2 with ⟨e, hz⟩ | ⟨g', cap, cur, e, -⟩
      · simp only at hz; omega
      · cases e; exact ⟨g', rfl⟩
    have hc := h.row.cells (g := gv) rfl j tv htv'
    refine (lay_page ⟨gv, 0, none⟩ pv.length v0 u1 u2 u3 u4 _ v1 _ v2 _ v3 _ v4 j tv vB _ b n base w hlay hj hc (fun x hx e => ?_)).mono fin
    rw [add_block] at e
    simp at e
    subst e
    exact own_is8 hown _ hx (own_not8 h.row (by decide) _ rfl)
  · split at hk
    · rename_i hc
      subst hc
      have e : k = 0 := by simpa using hk.symm
      subst e
      have e : tv = .slice u1 (imOf np rows lg).pair.length v1 := (Option.some.inj (show some (Value.slice u1 (imOf np rows lg).pair.length v1) = some tv from htv)).symm
      subst e
      exact (lay_pair u0 u2 u3 u4 pv.length v0 0 0 _ v2 _ v3 _ v4 number _ vB _ b n base w hlay).mono fin
    · split at hk
      · rename_i hc
        obtain ⟨rfl, hc1, hc2⟩ := hc
        rcases (by omega : number = 0 ∨ number = 1) with rfl | rfl
        · have e : k = np + 1 := by simpa using hk.symm
          subst e
          have e : tv = .slice u3 (imOf np rows lg).m0.length v3 := by
            have h1 : ((Value.slice u1 (imOf np rows lg).pair.length v1) :: (pv ++ [Value.slice u3 (imOf np rows lg).m0.length v3, Value.slice u4 (imOf np rows lg).m1.length v4]))[np + 1]? = some tv := htv
            rw [List.getElem?_cons_succ, List.getElem?_append_right (by omega), hpv, Nat.sub_self] at h1
            simpa using h1.symm
          subst e
          exact (lay_m0 u0 u1 u2 u4 pv.length v0 _ v1 _ v2 0 0 _ v4 _ vB _ b n base w hlay).mono fin
        · have e : k = np + 1 + 1 := by simpa using hk.symm
          subst e
          have e : tv = .slice u4 (imOf np rows lg).m1.length v4 := by
            have h1 : ((Value.slice u1 (imOf np rows lg).pair.length v1) :: (pv ++ [Value.slice u3 (imOf np rows lg).m0.length v3, Value.slice u4 (imOf np rows lg).m1.length v4]))[np + 1 + 1]? = some tv := htv
            rw [List.getElem?_cons_succ, List.getElem?_append_right (by omega), hpv, show np + 1 - np = 1 by omega] at h1
            simpa using h1.symm
          subst e
          exact (lay_m1 u0 u1 u2 u3 pv.length v0 _ v1 _ v2 _ v3 0 0 _ vB _ b n base w hlay).mono fin
      · cases hk
end Go.Proofs.Ytmipmiaflompmab

/-
  OWN WORK. The document's disk: Image.
-/
namespace Go.Proofs.Ytmipmiaflompmab
open Go.RowKit
set_option linter.unusedVariables false

theorem lcells_at (lv : List (Int × Int × Value)) (i : Nat) (x : Int × Int × Value) (h : lv[i]? = some x) : (lcells lv)[i * 3]? = some (.int .i64 x.1) ∧ (lcells lv)[i * 3 + 1]? = some (.int .i64 x.2.1) ∧ (lcells lv)[i * 3 + 2]? = some x.2.2 := by
  induction lv generalizing i with
  | nil => simp at h
  | cons y ys ih =>
    rcases i with _ | i
    · simp at h; subst h
      exact ⟨rfl, rfl, rfl⟩
    · have := ih i (by simpa using h)
      rw [show (i + 1) * 3 = (i * 3) + 3 by omega]
      exact this
/-- a loose write, where it lies -/
theorem RD.looseAt {w : World} {g : Nat} {d : DS} {R : RDat} (h : RD w g d R) {i : Nat} (hi : i < d.loose.length) :
    ∃ (lb c : Nat) (pl nu : Int) (vB : Value) (k : Nat) (b : List UInt8), R.vloose = .slice (some ⟨lb, 0, none⟩) d.loose.length c ∧ w.cell? ⟨lb, i * 3, none⟩ = some (.int .i64 pl) ∧ w.cell? ⟨lb, i * 3 + 1, none⟩ = some (.int .i64 nu) ∧ w.cell? ⟨lb, i * 3 + 2, none⟩ = some vB ∧
      d.loose[i]? = some (k, b) ∧ idxOf d.np pl nu = some k ∧ w.ownsRow 0 5 1 vB b.length (u8s b) ∧ k < d.np + 3 ∧ b.length = sizeK d.np d.ns k ∧ (∀ x, vB.ownBlock = some x → x ∈ blocks R.rows) := by
  obtain ⟨x, hx⟩ : ∃ x, d.loose[i]? = some x := ⟨_, List.getElem?_eq_getElem hi⟩
  obtain ⟨k, b⟩ := x
  have hll : R.lv.length = d.loose.length := by simpa using congrArg List.length h.lidx
  obtain ⟨y, hy⟩ : ∃ y, R.lv[i]? = some y := ⟨_, List.getElem?_eq_getElem (by omega)⟩
  obtain ⟨pl, nu, vB⟩ := y
  have he := congrArg (fun l => l[i]?) h.lidx
  simp [hx, hy] at he
  obtain ⟨pp, c, e, -, -⟩ := h.loose.shape
  have hpos := (show Row w 0 3 (.slice pp d.loose.length c) d.loose.length (lcells R.lv) by rw [← e]; exact h.loose).pos (by omega)
  obtain ⟨lb, rfl, -, -, hc, -⟩ := hpos
  obtain ⟨a1, a2, a3⟩ := lcells_at R.lv i _ hy
  have hm := h.ok.loose (k, b) (List.mem_of_getElem? hx)
  have hpv := h.pvLen
  have hlen := h.ok.len
  have ho := h.fam.own (d.np + 4 + i) vB b (by
    show (R.vlog :: (R.pair :: (R.pv ++ [R.m0, R.m1]) ++ R.lv.map (·.2.2)))[d.np + 4 + i]? = some vB
    rw [show d.np + 4 + i = (d.np + 3 + i) + 1 by omega, List.getElem?_cons_succ, List.getElem?_append_right (by simp; omega)]
    simp [hpv, hy, show d.np + 3 + i - (d.np + 2 + 1) = i by omega]) (by
    show (d.log :: (d.rows ++ d.loose.map (·.2)))[d.np + 4 + i]? = some b
    rw [show d.np + 4 + i = (d.np + 3 + i) + 1 by omega, List.getElem?_cons_succ, List.getElem?_append_right (by omega)]
    simp [hlen, hx])
  refine ⟨lb, c, pl, nu, vB, k, b, e, hc _ _ a1, hc _ _ a2, hc _ _ a3, hx, he, ho, hm.1, hm.2, fun x hx => ?_⟩
  refine mem_blocks (k := d.np + 4 + i) ?_ hx
  show (R.vlog :: (R.pair :: (R.pv ++ [R.m0, R.m1]) ++ R.lv.map (·.2.2)))[d.np + 4 + i]? = some vB
  rw [show d.np + 4 + i = (d.np + 3 + i) + 1 by omega, List.getElem?_cons_succ, List.getElem?_append_right (by simp; omega)]
  simp [hpv, hy, show d.np + 3 + i - (d.np + 2 + 1) = i by omega]
theorem OwnIm.kept0 {w w' : World} {b : Nat} {V : IV} {m : IM} (h : OwnIm w b V m) (k : Kept [] w w') : OwnIm w' b V m := ⟨h.fam.kept k (by simp), own_of_kept h.row k (by simp), h.len⟩
theorem laid_take {rows : List (List UInt8)} {xs : List (Nat × List UInt8)} {i : Nat} {x : Nat × List UInt8} (h : xs[i]? = some x) : laid rows (xs.take (i + 1)) = layR (laid rows (xs.take i)) x.1 x.2 x.2.length := by
  obtain ⟨hi, rfl⟩ := List.getElem?_eq_some_iff.1 h
  rw [← List.take_append_getElem hi, laid_snoc]
set_option maxHeartbeats 3200000 in
theorem image_any (g : Nat) (d : DS) (R : RDat) (w : World) (h : RD w g d R) :
    Calls Try.prog 55 #[.pointer (some ⟨g, 0, none⟩)] w fun e w' => ∃ V, e = .returned V.agg ∧ OwnIm w' w.heap.size V d.image ∧ Kept [] w w' := by
  have k0 := (Kept.refl [] w).alloc (.cells #[.slice none 0 0, .slice none 0 0, .slice none 0 0, .slice none 0 0, .slice none 0 0] 28)
  obtain ⟨w0, hw0⟩ : ∃ w0, w0 = w.alloc (.cells #[.slice none 0 0, .slice none 0 0, .slice none 0 0, .slice none 0 0, .slice none 0 0] 28) := ⟨_, rfl⟩
  have bR : Blk w0 w.heap.size 28 nil5 := by rw [hw0]; exact Blk.new w _ _
  rw [← hw0] at k0
  have h0 := h.kept k0 (by simp)
  have hsm := imOf_small h.ok h.ok.row [] (by simp)
  have him := images_any R.iv _ w0 h0.see hsm.1 hsm.2
  have hl2 := h.ok.log
  have hlm := h.ok.lm
  have HL : Hid (d.log.length ≤ 65536) := (show d.log.length ≤ 65536 by omega)
  clear hl2 hlm
  have HW : Hid (w0 = w.alloc (.cells #[.slice none 0 0, .slice none 0 0, .slice none 0 0, .slice none 0 0, .slice none 0 0] 28)) := hw0
  have hb := h.blk
  have hglt := hb.lt
  have c3 := hb.cell (j := 3) rfl
  have c4 := hb.cell (j := 4) rfl
  have c5 := hb.cell (j := 5) rfl
  have c6 := hb.cell (j := 6) rfl
  have c7 := hb.cell (j := 7) rfl
  obtain ⟨pp, cp, ep⟩ := own_shape2 h0.row
  obtain ⟨p1, q1, e1⟩ := own_shape2 h0.pairOwn
  obtain ⟨p3, q3, e3⟩ := own_shape2 h0.m0Own
  obtain ⟨p4, q4, e4⟩ := own_shape2 h0.m1Own
  obtain ⟨p2, q2, e2, -⟩ := h0.vl
  have H0 : Hid (RD w0 g d R) := h0
  have HRD0 := h
  unfold IV.agg RDat.iv at him
  simp only at him
  rw [ep, e1, e2, e3, e4] at him
  rw [ep] at c3
  rw [e1] at c4
  rw [e2] at c5
  rw [e3] at c6
  rw [e4] at c7
  rw [hw0] at him
  clear h0 h hb hsm ep e1 e2 e3 e4 hw0
  go_enter Try.func55, Try.ntmps55
  go_wp2_with fail
  refine him.mono ?_
  rintro e w2 ⟨V, rfl, hV, k2⟩
  rw [← HW.out] at k2
  have s0 : w0.heap.size = w.heap.size + 1 := by rw [HW.out]; simp
  have hV : OwnIm w2 w0.heap.size V (imOf d.np d.rows []) := by rw [HW.out]; exact hV
  obtain ⟨vp, pv, pair, log, m0, m1⟩ := V
  obtain ⟨u0, v0, u1, v1, u2, v2, u3, v3, u4, v4, x0, x1, x2, x3, x4⟩ := hV.shapes
  simp only at x0 x1 x2 x3 x4
  subst x0 x1 x2 x3 x4
  have H2 := H0.out.kept k2 (by simp)
  generalize (imOf d.np d.rows []).pair.length = lp at *
  generalize (imOf d.np d.rows []).m0.length = la at *
  generalize (imOf d.np d.rows []).m1.length = lb at *
  generalize (imOf d.np d.rows []).log.length = lg at *
  obtain ⟨w3, hw3⟩ : ∃ w3, w3 = w2.alloc (.cells #[.slice u0 pv.length v0, .slice u1 lp v1, .slice u2 lg v2, .slice u3 la v3, .slice u4 lb v4] 28) := ⟨_, rfl⟩
  have k3 : Kept [] w2 w3 := by rw [hw3]; exact (Kept.refl [] w2).alloc _
  have b3 : Blk w3 w2.heap.size 28 [.slice u0 pv.length v0, .slice u1 lp v1, .slice u2 lg v2, .slice u3 la v3, .slice u4 lb v4] := by rw [hw3]; exact Blk.new w2 _ _
  have s3 : w3.heap.size = w2.heap.size + 1 := by rw [hw3]; simp
  have H3 := H2.kept k3 (by simp)
  have S0 : Hid (w0.heap.size = w.heap.size + 1) := s0
  have S3 : Hid (w3.heap.size = w2.heap.size + 1) := s3
  have HW3 : Hid (w3 = w2.alloc (.cells #[.slice u0 pv.length v0, .slice u1 lp v1, .slice u2 lg v2, .slice u3 la v3, .slice u4 lb v4] 28)) := hw3
  have HR : Hid (Blk w3 w.heap.size 28 nil5) := (bR.kept k2 (by simp)).kept k3 (by simp)
  have HB3 : Hid (Blk w3 w2.heap.size 28 [.slice u0 pv.length v0, .slice u1 lp v1, .slice u2 lg v2, .slice u3 la v3, .slice u4 lb v4]) := b3
  have HV : Hid (OwnIm w3 w0.heap.size ⟨.slice u0 pv.length v0, pv, .slice u1 lp v1, .slice u2 lg v2, .slice u3 la v3, .slice u4 lb v4⟩ (imOf d.np d.rows [])) := (show OwnIm w3 w0.heap.size ⟨.slice u0 pv.length v0, pv, .slice u1 lp v1, .slice u2 lg v2, .slice u3 la v3, .slice u4 lb v4⟩ (imOf d.np d.rows []) from ⟨hV.fam.kept k3 (by simp), own_of_kept hV.row k3 (by simp), hV.len⟩)
  have K3 : Hid (Kept [] w w3) := (k0.then k2).then k3
  have HRD : Hid (RD w g d R) := HRD0
  have hw2 : w.heap.size < w2.heap.size := by have := k2.size; omega
  clear him c3 c4 c5 c6 c7 hglt bR b3 hw3 hV H2 H3 s0 s3 H0 k0 k2 k3
  go_wp2_with fail
  rw [← HW3.out]
  go_loopw [4] (fun i wr => ∃ k : Nat, k ≤ d.loose.length ∧ i = .int .i64 k ∧ OwnIm wr w0.heap.size ⟨.slice u0 pv.length v0, pv, .slice u1 lp v1, .slice u2 lg v2, .slice u3 la v3, .slice u4 lb v4⟩ (imOf d.np (laid d.rows (d.loose.take k)) []) ∧ Kept [] w wr ∧ Blk wr w.heap.size 28 nil5 ∧ Blk wr w2.heap.size 28 [.slice u0 pv.length v0, .slice u1 lp v1, .slice u2 lg v2, .slice u3 la v3, .slice u4 lb v4]) (fun i _ => d.loose.length - (intOf i).toNat)
  case atStart => exact ⟨0, Nat.zero_le _, rfl, HV.out, K3.out, HR.out, HB3.out⟩
  case round =>
    obtain ⟨k, hk, rfl, hV, kr, bR, bB⟩ := hrel
    have hrd := HRD.out.kept kr (by simp)
    have c8 := hrd.blk.cell (j := 8) rfl
    obtain ⟨pz, cz, ez, hz1, hz2⟩ := hrd.loose.shape
    rw [ez] at c8
    by_cases hlt : k < d.loose.length
    · obtain ⟨lbk, cc, pl, nu, vB, ix, b, e1, d0, d1, d2, hx, hix, hob, hk1, hk2, hin⟩ := hrd.looseAt hlt
      rw [ez] at e1
      cases e1
      obtain ⟨bp, bc, rfl⟩ := own_shape2 hob
      obtain ⟨⟨i0, i1, i2, i3, i4⟩, -⟩ := bB.five
      have hok := HRD.out.ok
      have hr : (laid d.rows (d.loose.take k)).length = d.np + 3 := (laid_length _ _).trans hok.len
      have hsz : Sized d.np d.ns (laid d.rows (d.loose.take k)) := Sized.laid _ hok.row fun x hx => (hok.loose x (List.mem_of_mem_take hx)).2
      have hbl : b.length = ((laid d.rows (d.loose.take k)).getD ix []).length := by rw [hsz ix _ (getD_some (by omega))]; exact hk2
      have hVge : ∀ x, x ∈ blocks (Value.slice u2 lg v2 :: IV.tail ⟨.slice u0 pv.length v0, pv, .slice u1 lp v1, .slice u2 lg v2, .slice u3 la v3, .slice u4 lb v4⟩) → w.heap.size < x := fun x hx => by
        obtain ⟨q, vv, hq, hqx⟩ := blocks_mem hx
        have := (hV.fam.lt q vv x hq hqx).1
        have := S0.out
        omega
      have hl := fun (w' : World) (kk : Kept [] wr w') => lay_im ⟨.slice u0 pv.length v0, pv, .slice u1 lp v1, .slice u2 lg v2, .slice u3 la v3, .slice u4 lb v4⟩ d.np w0.heap.size (laid d.rows (d.loose.take k)) [] b (.slice bp b.length bc) pl nu ix b.length w' (hV.kept0 kk) hr hix ((Bs.ofOwn hob).kept kk) hbl (Nat.le_refl _) (fun x hx e => by have := hVge x hx; have := (HRD.out.fam.not8 (hin x e)).2.2; omega)
      have nB : w2.heap.size ∉ blocks (Value.slice u2 lg v2 :: IV.tail ⟨.slice u0 pv.length v0, pv, .slice u1 lp v1, .slice u2 lg v2, .slice u3 la v3, .slice u4 lb v4⟩) := fun hm => (hV.fam.not8 hm).1 (bB.not8 (by decide))
      have ng : g ∉ blocks (Value.slice u2 lg v2 :: IV.tail ⟨.slice u0 pv.length v0, pv, .slice u1 lp v1, .slice u2 lg v2, .slice u3 la v3, .slice u4 lb v4⟩) := fun hm => by have := hVge _ hm; have := HRD.out.blk.lt; omega
      have nR : w.heap.size ∉ blocks (Value.slice u2 lg v2 :: IV.tail ⟨.slice u0 pv.length v0, pv, .slice u1 lp v1, .slice u2 lg v2, .slice u3 la v3, .slice u4 lb v4⟩) := fun hm => by have := hVge _ hm; omega
      have hlt2 : lbk < w.heap.size := (HRD.out.loose.lt lbk (by rw [ez]; rfl)).2
      have nl : lbk ∉ blocks (Value.slice u2 lg v2 :: IV.tail ⟨.slice u0 pv.length v0, pv, .slice u1 lp v1, .slice u2 lg v2, .slice u3 la v3, .slice u4 lb v4⟩) := fun hm => by have := hVge _ hm; omega
      have hnext := laid_take (rows := d.rows) hx
      simp only at hnext
      have HN : Hid (laid d.rows (d.loose.take (k + 1)) = layR (laid d.rows (d.loose.take k)) ix b b.length) := hnext
      have HVG : Hid (∀ x, x ∈ blocks (Value.slice u2 lg v2 :: IV.tail ⟨.slice u0 pv.length v0, pv, .slice u1 lp v1, .slice u2 lg v2, .slice u3 la v3, .slice u4 lb v4⟩) → w.heap.size < x) := hVge
      have HBR : Hid (Blk wr w.heap.size 28 nil5) := bR
      have HBB : Hid (Blk wr w2.heap.size 28 [.slice u0 pv.length v0, .slice u1 lp v1, .slice u2 lg v2, .slice u3 la v3, .slice u4 lb v4]) := bB
      have hlt' : (k : Int) < (d.loose.length : Int) := by omega
      have wk : IntKind.i64.wrap ((k : Int) + 1) = (k : Int) + 1 := wrap_i64_of (by omega) (by unfold maxLen at hz2; omega)
      unfold IV.agg at hl
      simp only at hl
      generalize blocks (Value.slice u2 lg v2 :: IV.tail ⟨.slice u0 pv.length v0, pv, .slice u1 lp v1, .slice u2 lg v2, .slice u3 la v3, .slice u4 lb v4⟩) = bl at *
      clear hok hr hsz hbl hVge hnext bR bB hV hob hin hk2 hk1 hix hz1 hz2 ez hrd HV HB3 HR HW3 K3
      go_wp2
      go_region_held3 (fun w' => w'.cell? ⟨w2.heap.size, 0, none⟩ = some (.slice u0 pv.length v0) ∧ w'.cell? ⟨w2.heap.size, 1, none⟩ = some (.slice u1 lp v1) ∧ w'.cell? ⟨w2.heap.size, 2, none⟩ = some (.slice u2 lg v2) ∧ w'.cell? ⟨w2.heap.size, 3, none⟩ = some (.slice u3 la v3) ∧ w'.cell? ⟨w2.heap.size, 4, none⟩ = some (.slice u4 lb v4) ∧
          w'.cell? ⟨g, 8, none⟩ = some (.slice (some ⟨lbk, 0, none⟩) d.loose.length cz) ∧ w'.cell? ⟨lbk, k * 3, none⟩ = some (.int .i64 pl) ∧ w'.cell? ⟨lbk, k * 3 + 1, none⟩ = some (.int .i64 nu) ∧ w'.cell? ⟨lbk, k * 3 + 2, none⟩ = some (.slice bp b.length bc))
        (first | (with_reducible exact ⟨i0, i1, i2, i3, i4, c8, d0, d1, d2⟩) | (with_reducible exact ⟨kN.cell i0 nB, kN.cell i1 nB, kN.cell i2 nB, kN.cell i3 nB, kN.cell i4 nB, kN.cell c8 ng, kN.cell d0 nl, kN.cell d1 nl, kN.cell d2 nl⟩) | go_keep)
        (first
          | (go_at_call 43; refine (hl _ (by first | (with_reducible exact Kept.refl _ _) | (with_reducible exact (Kept.refl _ _).drew))).mono ?_; rintro e w5 ⟨⟨vv, rfl⟩, hV5, kL⟩
             have kN : Kept bl wr w5 := ⟨kL.os, kL.tape, kL.output, kL.size, kL.block⟩)
          | fail)
      rw [← HN.out] at hV5
      have k6 : Kept [] w w5 := kr.trans kN (fun x hx => .inr (by have := HVG.out x hx; omega))
      have bR6 := HBR.out.kept kN nR
      have bB6 := HBB.out.kept kN nB
      clear hl i0 i1 i2 i3 i4 c8 d0 d1 d2 kL
      go_wp2
      go_roundw
      case rel => exact ⟨k + 1, by omega, by go_num, hV5, k6, bR6, bB6⟩
      case measure => simp [intOf]; omega
    · obtain rfl : k = d.loose.length := by omega
      rw [List.take_length] at hV
      obtain ⟨pl, cl, el, hbs⟩ := hrd.shapes
      have c9 := hrd.blk.cell (j := 9) rfl
      rw [el] at c9 hbs
      have hcf := copied_from _ _ hbs (by have := HL.out; omega) _ (Kept.refl [] wr)
      have HBR : Hid (Blk wr w.heap.size 28 nil5) := bR
      have HBB : Hid (Blk wr w2.heap.size 28 [.slice u0 pv.length v0, .slice u1 lp v1, .slice u2 lg v2, .slice u3 la v3, .slice u4 lb v4]) := bB
      have HVV : Hid (OwnIm wr w0.heap.size ⟨.slice u0 pv.length v0, pv, .slice u1 lp v1, .slice u2 lg v2, .slice u3 la v3, .slice u4 lb v4⟩ (imOf d.np (laid d.rows d.loose) [])) := hV
      have hs0 : w0.heap.size ≤ wr.heap.size := by have := S0.out; have := bB.lt; omega
      clear hV bR bB hbs el hrd ez hz1 hz2 HV HB3 HR HW3 K3
      go_wp2_with fail
      refine hcf.mono ?_
      rintro e w4 ⟨p5, q5, rfl, o5, -, kA⟩
      have b4 := HBB.out.kept kA (by simp)
      obtain ⟨b5, k6⟩ := b4.set 2 (.slice p5 d.log.length q5)
      have t2 := b4.cell (j := 2) rfl
      have f2 := b4.free 2
      have nr : w.heap.size ∉ [w2.heap.size] := by simp; omega
      have bR5 := (HBR.out.kept kA (by simp)).kept k6 nr
      obtain ⟨⟨r0, r1, r2, r3, r4⟩, y0, y1, y2, y3, y4⟩ := Blk.five (show Blk _ w.heap.size 28 [.slice none 0 0, .slice none 0 0, .slice none 0 0, .slice none 0 0, .slice none 0 0] from bR5)
      obtain ⟨⟨i0, i1, i2, i3, i4⟩, -⟩ := Blk.five (show Blk _ w2.heap.size 28 [.slice u0 pv.length v0, .slice u1 lp v1, .slice p5 d.log.length q5, .slice u3 la v3, .slice u4 lb v4] from b5)
      obtain ⟨bF, kF⟩ := Blk.set5 (a' := .slice u0 pv.length v0) (b' := .slice u1 lp v1) (c' := .slice p5 d.log.length q5) (d' := .slice u3 la v3) (e' := .slice u4 lb v4) (show Blk _ w.heap.size 28 [.slice none 0 0, .slice none 0 0, .slice none 0 0, .slice none 0 0, .slice none 0 0] from bR5)
      obtain ⟨⟨j0, j1, j2, j3, j4⟩, -⟩ := bF.five
      have kAll : Kept [w2.heap.size, w.heap.size] wr _ := ((kA.mono (by simp)).trans (k6.mono (T := [w2.heap.size, w.heap.size]) (by simp)) (by intro x hx; exact .inl hx)).trans (kF.mono (T := [w2.heap.size, w.heap.size]) (by simp)) (by intro x hx; exact .inl hx)
      have o6 := own_of_kept o5 ((k6.mono (T := [w2.heap.size, w.heap.size]) (by simp)).trans (kF.mono (T := [w2.heap.size, w.heap.size]) (by simp)) (by intro x hx; exact .inl hx)) (fun x hx hm => by have := own_ge o5 x hx; have := HBB.out.lt; have := HBR.out.lt; simp at hm; omega)
      have fin := HVV.out.newLog hs0 kAll (by intro x hx; simp at hx; rcases hx with rfl | rfl; exact HBB.out.not8 (by decide); exact HBR.out.not8 (by decide)) (by intro x hx e; simp at hx; rcases hx with rfl | rfl; exact HBB.out.far HVV.out.row (by decide) _ e rfl; exact HBR.out.far HVV.out.row (by decide) _ e rfl) o6
      have fin2 := fin.mono (b' := w.heap.size) (by have := S0.out; omega)
      have kfin : Kept [] w _ := kr.trans kAll (by intro x hx; simp at hx; exact .inr (by omega))
      have FIN : Hid (OwnIm _ w.heap.size ⟨.slice u0 pv.length v0, pv, .slice u1 lp v1, .slice p5 d.log.length q5, .slice u3 la v3, .slice u4 lb v4⟩ d.image) := fin2
      clear fin fin2 bR5 b5 bF kF kAll o6 b4 hcf c9 c8
      go_wp2
      refine bodyPost_ret (by simp [results, Try.results55, go_sem, j0, j1, j2, j3, j4]; try rfl) rfl ?_
      exact ⟨_, rfl, FIN.out, kfin⟩
end Go.Proofs.Ytmipmiaflompmab

/-
  OWN WORK. The document's disk: Read.
-/
namespace Go.Proofs.Ytmipmiaflompmab
open Go.RowKit
set_option linter.unusedVariables false

theorem sizeI_none {d : DS} {p n : Int} (h : idxOf d.np p n = none) : sizeI d p n = 0 := by unfold sizeI; rw [h]
theorem sizeI_some {d : DS} {p n : Int} {k : Nat} (h : idxOf d.np p n = some k) : sizeI d p n = (sizeK d.np d.ns k : Int) := by unfold sizeI; rw [h]
theorem DS.Ok.seenAt {d : DS} (h : d.Ok) {k : Nat} (hk : k < d.np + 3) : d.seen[k]? = some (d.seen.getD k []) := getD_some (by have := h.seenLen; omega)
set_option maxHeartbeats 1600000 in
theorem read_any (g : Nat) (d : DS) (R : RDat) (p n : Int) (w : World) (h : RD w g d R) :
    Calls Try.prog 74 #[.pointer (some ⟨g, 0, none⟩), .int .i64 p, .int .i64 n] w fun e w' => ∃ v, e = .returned (.tuple #[v, .int .i64 (readE d (idxOf d.np p n))]) ∧ w'.ownsRow w.heap.size 5 1 v (readL d (idxOf d.np p n)).length (u8s (readL d (idxOf d.np p n))) ∧ RD w' g d.act R ∧ Kept [g] w w' := by
  have ha := act_any g d R w h
  have hok := h.ok
  obtain ⟨z, hz⟩ : ∃ z, z = d.alive := ⟨_, rfl⟩
  rw [← hz] at ha
  cases z with
  | false =>
    have eE : readE d (idxOf d.np p n) = 1 := by unfold readE; rw [← hz]; rfl
    have eL : readL d (idxOf d.np p n) = [] := by unfold readL; rw [← hz]; rfl
    rw [eE, eL]
    clear hz eE eL h hok
    go_enter Try.func74, Try.ntmps74
    go_wp2_with fail
    refine ha.mono ?_
    rintro e w1 ⟨rfl, h1, k1⟩
    go_wp2
    go_ret2
    exact ⟨_, rfl, by simpa [u8s] using World.ownsRow_nil _ _ _ _, h1, k1⟩
  | true =>
    cases hix : idxOf d.np p n with
    | none =>
      have eE : readE d none = 61 := by unfold readE; rw [← hz]; rfl
      have eL : readL d none = [] := by unfold readL; rw [← hz]; rfl
      have es : sizeI d.act p n = 0 := sizeI_none (by rw [d.act_np]; exact hix)
      rw [eE, eL]
      clear hz eE eL h hok hix
      go_enter Try.func74, Try.ntmps74
      go_wp2_with fail
      refine ha.mono ?_
      rintro e w1 ⟨rfl, h1, k1⟩
      have hs := size_any g d.act R p n w1 h1
      rw [es] at hs
      have H1 : Hid (RD w1 g d.act R) := h1
      clear h1 ha es
      go_wp2_with fail
      refine hs.mono ?_
      rintro e w2 ⟨rfl, k2⟩
      clear hs
      go_wp2
      go_ret2
      exact ⟨_, rfl, by simpa [u8s] using World.ownsRow_nil _ _ _ _, H1.out.kept k2 (by simp), k1.then k2⟩
    | some k =>
      have eE : readE d (some k) = 0 := by unfold readE; rw [← hz]; rfl
      have eL : readL d (some k) = d.seen.getD k [] := by unfold readL; rw [← hz]; rfl
      have es : sizeI d.act p n = (sizeK d.np d.ns k : Int) := by rw [sizeI_some (k := k) (by rw [d.act_np]; exact hix), d.act_np, d.act_ns]
      have hpos := sizeK_pos d.np d.ns k
      have hkl := idxOf_lt hix
      have hsl := hok.seenLen
      have hsk := hok.seenAt hkl
      obtain ⟨sz, hsz⟩ : ∃ sz, sz = sizeK d.np d.ns k := ⟨_, rfl⟩
      rw [← hsz] at es hpos
      have hne : ¬ (sz : Int) = 0 := by omega
      rw [eE, eL]
      have HS : Hid (d.seen.length = d.np + 3) := hsl
      have HK : Hid (d.seen[k]? = some (d.seen.getD k [])) := hsk
      generalize d.seen.getD k [] = L at *
      clear hz eE eL h hok hsz hsl hsk hpos
      go_enter Try.func74, Try.ntmps74
      go_wp2_with fail
      refine ha.mono ?_
      rintro e w1 ⟨rfl, h1, k1⟩
      have hs := size_any g d.act R p n w1 h1
      rw [es] at hs
      have H1 : Hid (RD w1 g d.act R) := h1
      clear h1 ha es
      go_wp2_with fail
      refine hs.mono ?_
      rintro e w2 ⟨rfl, k2⟩
      have H2 := H1.out.kept k2 (by simp)
      have him := image_any g d.act R w2 H2
      have HH2 : Hid (RD w2 g d.act R) := H2
      have e0 : d.act.image = imOf d.np d.seen d.log := by unfold DS.image; rw [d.act_np, d.act_seen, d.act_log]
      rw [e0] at him
      clear hs H2 e0
      go_wp2_with fail
      refine him.mono ?_
      rintro e w3 ⟨V, rfl, hV, k3⟩
      obtain ⟨hf, hpv⟩ := hV.ofRows HS.out
      obtain ⟨tv, htv⟩ : ∃ tv, V.tail[k]? = some tv := ⟨_, List.getElem?_eq_getElem (by simp [IV.tail, hpv]; omega)⟩
      have hown := hf.own (k + 1) tv L htv HK.out
      obtain ⟨vp, pv, pair, log, m0, m1⟩ := V
      obtain ⟨u0, v0, u1, v1, u2, v2, u3, v3, u4, v4, x0, x1, x2, x3, x4⟩ := hV.shapes
      simp only at x0 x1 x2 x3 x4 hpv
      subst x0 x1 x2 x3 x4
      have kk : Kept [g] w w3 := (k1.then k2).then k3
      have HF : Hid (RD w3 g d.act R) := HH2.out.kept k3 (by simp)
      have HO : Hid (w3.ownsRow w.heap.size 5 1 tv L.length (u8s L)) := own_mono hown (k1.then k2).size
      obtain ⟨tp, tc, etv⟩ := own_shape2 hown
      unfold IV.agg
      simp only
      have HIX := hix
      unfold idxOf at hix
      split at hix
      · rename_i hc
        obtain ⟨rfl, hc1, hc2⟩ := hc
        obtain ⟨j, rfl⟩ : ∃ j : Nat, n = (j : Int) := ⟨n.toNat, by omega⟩
        have e : k = 1 + j := by simpa using hix.symm
        subst e
        have hj : j < pv.length := by omega
        have htv' : pv[j]? = some tv := by
          have h1 : ((Value.slice u1 (imOf d.np d.seen d.log).pair.length v1) :: (pv ++ [Value.slice u3 (imOf d.np d.seen d.log).m0.length v3, Value.slice u4 (imOf d.np d.seen d.log).m1.length v4]))[1 + j]? = some tv := htv
          rw [Nat.add_comm, List.getElem?_cons_succ, List.getElem?_append_left hj] at h1
          exact h1
        obtain ⟨gv, rfl⟩ : ∃ gv, u0 = some ⟨gv, 0, none⟩ := by
          rcases hV.row.2 with ⟨e, hz⟩ | ⟨g', cap, cur, e, -⟩
          · simp only at hz; omega
          · cases e; exact ⟨g', rfl⟩
        have hc := hV.row.cells (g := gv) rfl j tv htv'
        rw [add_none rfl, etv] at hc
        simp only [Nat.zero_add] at hc
        have hj' : (j : Int) < (pv.length : Int) := by omega
        rw [etv] at HO
        have hgl := lt_of_cell hc
        simp only at hgl
        clear hV hf htv hown htv' HIX hix him HH2 H1 k1 k2 k3 HK HS hc1 hc2
        go_wp2
        go_ret2
        exact ⟨_, rfl, own_of_kept HO.out ((Kept.refl [] w3).alloc _) (by simp), HF.out.kept ((Kept.refl [] w3).alloc _) (by simp), kk.alloc _⟩
      · split at hix
        · rename_i hc
          subst hc
          have e : k = 0 := by simpa using hix.symm
          subst e
          have e : tv = .slice u1 (imOf d.np d.seen d.log).pair.length v1 := (Option.some.inj (show some (Value.slice u1 (imOf d.np d.seen d.log).pair.length v1) = some tv from htv)).symm
          rw [e] at HO
          clear hV hf htv hown HIX hix him HH2 H1 k1 k2 k3 HK HS etv
          go_wp2
          go_ret2
          exact ⟨_, rfl, own_of_kept HO.out ((Kept.refl [] w3).alloc _) (by simp), HF.out.kept ((Kept.refl [] w3).alloc _) (by simp), kk.alloc _⟩
        · split at hix
          · rename_i hc
            obtain ⟨rfl, hc1, hc2⟩ := hc
            rcases (by omega : n = 0 ∨ n = 1) with rfl | rfl
            · have e : k = d.np + 1 := by simpa using hix.symm
              subst e
              have e : tv = .slice u3 (imOf d.np d.seen d.log).m0.length v3 := by
                have h1 : ((Value.slice u1 (imOf d.np d.seen d.log).pair.length v1) :: (pv ++ [Value.slice u3 (imOf d.np d.seen d.log).m0.length v3, Value.slice u4 (imOf d.np d.seen d.log).m1.length v4]))[d.np + 1]? = some tv := htv
                rw [List.getElem?_cons_succ, List.getElem?_append_right (by omega), hpv, Nat.sub_self] at h1
                simpa using h1.symm
              rw [e] at HO
              clear hV hf htv hown HIX hix him HH2 H1 k1 k2 k3 HK HS etv hc1 hc2
              go_wp2
              go_ret2
              exact ⟨_, rfl, own_of_kept HO.out ((Kept.refl [] w3).alloc _) (by simp), HF.out.kept ((Kept.refl [] w3).alloc _) (by simp), kk.alloc _⟩
            · have e : k = d.np + 1 + 1 := by simpa using hix.symm
              subst e
              have e : tv = .slice u4 (imOf d.np d.seen d.log).m1.length v4 := by
                have h1 : ((Value.slice u1 (imOf d.np d.seen d.log).pair.length v1) :: (pv ++ [Value.slice u3 (imOf d.np d.seen d.log).m0.length v3, Value.slice u4 (imOf d.np d.seen d.log).m1.length v4]))[d.np + 1 + 1]? = some tv := htv
                rw [List.getElem?_cons_succ, List.getElem?_append_right (by omega), hpv, show d.np + 1 - d.np = 1 by omega] at h1
                simpa using h1.symm
              rw [e] at HO
              clear hV hf htv hown HIX hix him HH2 H1 k1 k2 k3 HK HS etv hc1 hc2
              go_wp2
              go_ret2
              exact ⟨_, rfl, own_of_kept HO.out ((Kept.refl [] w3).alloc _) (by simp), HF.out.kept ((Kept.refl [] w3).alloc _) (by simp), kk.alloc _⟩
          · cases hix
end Go.Proofs.Ytmipmiaflompmab

/-
  OWN WORK. The document's disk: Write.
-/
namespace Go.Proofs.Ytmipmiaflompmab
open Go.RowKit
set_option linter.unusedVariables false

/-- one row more, made just now; what is touched besides is none of the family's -/
theorem Fam.snocB {w w' : World} {base n : Nat} {vs : List Value} {ls : List (List UInt8)} {S : List Nat} {v : Value} {l : List UInt8} (h : Fam w base vs ls) (k : Kept S w w') (hS : ∀ x ∈ S, x ∉ blocks vs) (hb : base ≤ w.heap.size)
    (ho : w'.ownsRow w.heap.size 5 1 v n (u8s l)) : Fam w' base (vs ++ [v]) (ls ++ [l]) := by
  have hn : n = l.length := by have := ho.1; rw [u8s_length] at this; omega
  subst hn
  refine ⟨by simp [h.len], fun i u m hu hm => ?_, fun i j u u' x hij hu hu' hx => ?_⟩
  · rw [List.getElem?_append] at hu hm
    by_cases hi : i < vs.length
    · rw [if_pos hi] at hu
      rw [if_pos (by rw [← h.len]; exact hi)] at hm
      exact own_of_kept (h.own i u m hu hm) k fun x hx hs => hS x hs (mem_blocks hu hx)
    · rw [if_neg hi] at hu
      rw [if_neg (by rw [← h.len]; exact hi), ← h.len] at hm
      rcases hd : i - vs.length with _ | q
      · rw [hd] at hu hm
        simp at hu hm
        subst hu; subst hm
        exact own_mono ho hb
      · rw [hd] at hu; simp at hu
  · rw [List.getElem?_append] at hu hu'
    by_cases hj : j < vs.length
    · rw [if_pos hj] at hu'
      rw [if_pos (by omega)] at hu
      exact h.apart i j u u' x hij hu hu' hx
    · rw [if_neg hj] at hu'
      rcases hd : j - vs.length with _ | q
      · rw [hd] at hu'
        simp at hu'
        subst hu'
        rw [if_pos (by omega)] at hu
        intro hy
        have h1 := (h.lt i u x hu hx).2
        have h2 := own_ge ho x hy
        omega
      · rw [hd] at hu'; simp at hu'
theorem blocks_snoc {vs : List Value} {v : Value} {x : Nat} (h : x ∈ blocks (vs ++ [v])) : x ∈ blocks vs ∨ v.ownBlock = some x := by
  obtain ⟨u, hu, hx⟩ := List.mem_filterMap.1 h
  rcases List.mem_append.1 hu with c | c
  · exact .inl (List.mem_filterMap.2 ⟨u, c, hx⟩)
  · simp at c; subst c; exact .inr hx
/-- another loose write -/
def RDat.more (R : RDat) (v : Value) (p n : Int) (vC : Value) : RDat := { R with vloose := v, lv := R.lv ++ [(p, n, vC)] }
theorem more_rows (R : RDat) (v : Value) (p n : Int) (vC : Value) : (R.more v p n vC).rows = R.rows ++ [vC] := by
  unfold RDat.rows RDat.tail RDat.more
  simp
theorem lcells_snoc (lv : List (Int × Int × Value)) (p n : Int) (v : Value) : lcells (lv ++ [(p, n, v)]) = lcells lv ++ [.int .i64 p, .int .i64 n, v] := by simp [lcells]
theorem RD.newLoose {w w' : World} {g : Nat} {d d' : DS} {R : RDat} {v vC : Value} {p n : Int} {k : Nat} {b : List UInt8} (h : RD w g d R) (kk : Kept (g :: R.vloose.ownBlock.toList) w w') (hb : Blk w' g 78 ((R.more v p n vC).cells d')) (hok : d'.Ok) (e1 : d'.np = d.np) (e2 : d'.rows = d.rows) (e3 : d'.loose = d.loose ++ [(k, b)]) (e4 : d'.log = d.log)
    (hix : idxOf d.np p n = some k) (ho : w'.ownsRow w.heap.size 5 1 vC b.length (u8s b)) (hrow : Row w' 0 3 v (d.loose.length + 1) (lcells R.lv ++ [.int .i64 p, .int .i64 n, vC])) (hv : v.ownBlock = R.vloose.ownBlock ∨ ∃ x, v.ownBlock = some x ∧ w.heap.size ≤ x ∧ vC.ownBlock ≠ some x) : RD w' g d' (R.more v p n vC) := by
  obtain ⟨f1, f2, f3⟩ := h.far
  have hS : ∀ x ∈ g :: R.vloose.ownBlock.toList, x ∉ blocks R.rows := fun x hx => by
    rcases List.mem_cons.1 hx with e | e
    · subst e; exact f3
    · exact (h.apart x (by simpa using e)).2.2
  refine ⟨hok, hb, ?_, ?_, h.vl, ?_, ?_, fun x hx => ?_⟩
  · rw [more_rows]
    have e : d'.all = d.all ++ [b] := by unfold DS.all; rw [e2, e3, e4]; simp
    rw [e]
    exact h.fam.snocB kk hS (Nat.zero_le _) ho
  · rw [e1]
    exact own_of_kept h.row kk fun x hx hm => by
      rcases List.mem_cons.1 hm with e | e
      · subst e; exact f1 hx
      · exact (h.apart x (by simpa using e)).2.1 hx
  · show Row w' 0 3 v d'.loose.length (lcells (R.lv ++ [(p, n, vC)]))
    rw [e3, lcells_snoc, List.length_append]
    exact hrow
  · show (R.lv ++ [(p, n, vC)]).map (fun x => idxOf d'.np x.1 x.2.1) = d'.loose.map (fun x => some x.1)
    rw [e1, e3, List.map_append, List.map_append, h.lidx]
    simp [hix]
  · rw [more_rows]
    rcases hv with hv | ⟨y, hy, hy1, hy2⟩
    · have hx' : R.vloose.ownBlock = some x := by rw [← hv]; exact hx
      obtain ⟨a1, a2, a3⟩ := h.apart x hx'
      refine ⟨a1, a2, fun hm => ?_⟩
      rcases blocks_snoc hm with c | c
      · exact a3 c
      · have := own_ge ho x c
        have := (h.loose.lt x hx').2
        omega
    · have e : y = x := Option.some.inj (hy.symm.trans hx)
      subst e
      refine ⟨fun e => ?_, fun e => ?_, fun hm => ?_⟩
      · have := h.blk.lt; omega
      · have := own_lt h.row y e; omega
      · rcases blocks_snoc hm with c | c
        · have := (h.fam.not8 c).2.2; omega
        · exact hy2 c
theorem foot_more {R : RDat} {v vC : Value} {p n : Int} {g N x : Nat} (hv : v.ownBlock = R.vloose.ownBlock ∨ ∃ y, v.ownBlock = some y ∧ N ≤ y) (hC : ∀ y, vC.ownBlock = some y → N ≤ y) (hx : x ∈ (R.more v p n vC).foot g) : x ∈ R.foot g ∨ N ≤ x := by
  unfold RDat.foot at hx ⊢
  rw [more_rows] at hx
  rcases List.mem_cons.1 hx with e | hx
  · exact .inl (by simp [e])
  · rcases List.mem_append.1 hx with hx | hx
    · rcases List.mem_append.1 hx with hx | hx
      · exact .inl (List.mem_cons_of_mem _ (List.mem_append_left _ (List.mem_append_left _ hx)))
      · have hx : v.ownBlock = some x := by simpa [RDat.more] using hx
        rcases hv with hv | ⟨y, hy, hy1⟩
        · exact .inl (List.mem_cons_of_mem _ (List.mem_append_left _ (List.mem_append_right _ (by rw [← hv]; simp [hx]))))
        · have e : y = x := Option.some.inj (hy.symm.trans hx)
          exact .inr (by omega)
    · rcases blocks_snoc hx with c | c
      · exact .inl (List.mem_cons_of_mem _ (List.mem_append_right _ c))
      · exact .inr (hC x c)
theorem src_write {P : Program} (w : World) (t e : TypeId) (ht : P.underlying t = some (.slice e)) (p n : Int) (pc : Option Addr) (m c : Nat) : Src P 3 t (.slice (some ⟨w.heap.size, 0, none⟩) 1 1) 1 [.int .i64 p, .int .i64 n, .slice pc m c] (w.alloc (.cells #[.int .i64 p, .int .i64 n, .slice pc m c] e)) := by
  refine Src.ofSlice _ ht _ _ _ _ rfl (fun j u hj => ?_) (by intro u hu; simp at hu; rcases hu with rfl | rfl | rfl <;> rfl)
  rw [add_none rfl]
  show (w.alloc (.cells #[.int .i64 p, .int .i64 n, .slice pc m c] e)).cell? ⟨w.heap.size, 0 + j, none⟩ = some u
  rw [Nat.zero_add, World.cell?_alloc_new]
  simpa using hj
theorem writeEnd {w2 w3 w5 : World} {g : Nat} {d : DS} {R : RDat} {p n : Int} {k : Nat} {b : List UInt8} {pz p3 p5 : Option Addr} {cz ll c3 c5 : Nat} (H2 : RD w2 g d.act R) (EZ : R.vloose = .slice pz ll cz) (hll : ll = d.loose.length) (hix : idxOf d.np p n = some k) (ED : d.write (some k) b = { d.act with loose := d.loose ++ [(k, b)] }) (hok : (d.write (some k) b).Ok)
    (o3 : w3.ownsRow w2.heap.size 5 1 (.slice p3 b.length c3) b.length (u8s b)) (kA : Kept [] w2 w3) (r5 : Row w5 0 3 (.slice p5 (ll + 1) c5) (ll + 1) (lcells R.lv ++ [.int .i64 p, .int .i64 n, .slice p3 b.length c3]))
    (k5 : Kept (Value.slice pz ll cz).ownBlock.toList (w3.alloc (.cells #[.int .i64 p, .int .i64 n, .slice p3 b.length c3] 89)) w5) (at5 : (Value.slice p5 (ll + 1) c5).ownBlock = (Value.slice pz ll cz).ownBlock ∨ (Value.slice p5 (ll + 1) c5).ownBlock = some (w3.alloc (.cells #[.int .i64 p, .int .i64 n, .slice p3 b.length c3] 89)).heap.size) :
    RD (w5.setCell ⟨g, 8, none⟩ (.slice p5 (ll + 1) c5)) g (d.write (some k) b) (R.more (.slice p5 (ll + 1) c5) p n (.slice p3 b.length c3)) ∧ Kept (g :: R.vloose.ownBlock.toList) w2 (w5.setCell ⟨g, 8, none⟩ (.slice p5 (ll + 1) c5)) ∧ ∀ x ∈ (R.more (.slice p5 (ll + 1) c5) p n (.slice p3 b.length c3)).foot g, x ∈ R.foot g ∨ w2.heap.size ≤ x := by
  rw [← EZ] at k5 at5
  have ngl : g ∉ R.vloose.ownBlock.toList := fun hm => (H2.apart g (by simpa using hm)).1 rfl
  have kE : Kept R.vloose.ownBlock.toList w2 w5 := ((kA.alloc (.cells #[.int .i64 p, .int .i64 n, .slice p3 b.length c3] 89)).mono (by simp)).trans k5 (by intro x hx; exact .inl hx)
  have b5 := H2.blk.kept kE ngl
  obtain ⟨b6, k6⟩ := b5.set 8 (.slice p5 (ll + 1) c5)
  have kF : Kept (g :: R.vloose.ownBlock.toList) w2 (w5.setCell ⟨g, 8, none⟩ (.slice p5 (ll + 1) c5)) := (kE.mono (by intro x hx; simp [hx])).trans k6 (by simp)
  have hgl := H2.blk.lt
  have hlow : ∀ x ∈ R.vloose.ownBlock.toList, x < w2.heap.size := fun x hx => (H2.loose.lt x (by simpa using hx)).2
  have o4 := own_of_kept o3 ((((Kept.refl [] w3).alloc (.cells #[.int .i64 p, .int .i64 n, .slice p3 b.length c3] 89)).mono (T := R.vloose.ownBlock.toList) (by simp)).trans k5 (by intro x hx; exact .inl hx)) (fun x hx hm => by have := own_ge o3 x hx; have := hlow x hm; omega)
  have o5 := own_of_kept o4 k6 (fun x hx hm => by have := own_ge o3 x hx; simp at hm; omega)
  have hs := kA.size
  have hv : (Value.slice p5 (ll + 1) c5).ownBlock = R.vloose.ownBlock ∨ ∃ x, (Value.slice p5 (ll + 1) c5).ownBlock = some x ∧ w2.heap.size ≤ x ∧ (Value.slice p3 b.length c3).ownBlock ≠ some x := by
    rcases at5 with e | e
    · exact .inl e
    · refine .inr ⟨_, e, by simp; omega, fun e2 => ?_⟩
      have := own_lt o3 _ e2
      simp at this
      omega
  have r6 : Row (w5.setCell ⟨g, 8, none⟩ (.slice p5 (ll + 1) c5)) 0 3 (.slice p5 (ll + 1) c5) (ll + 1) (lcells R.lv ++ [.int .i64 p, .int .i64 n, .slice p3 b.length c3]) := r5.kept k6 fun x hx hm => by
    simp at hm
    subst hm
    rcases hv with e | ⟨y, e, h1, -⟩
    · exact ngl (by rw [← e]; simp [hx])
    · have : y = x := Option.some.inj (e.symm.trans hx)
      omega
  refine ⟨H2.newLoose kF (by rw [ED]; exact b6) hok (by rw [ED]) (by rw [ED]) (by rw [ED, d.act_loose]) (by rw [ED]) (by rw [d.act_np]; exact hix) o5 (by rw [d.act_loose, ← hll]; exact r6) hv, kF, fun x hx => foot_more (by rcases hv with e | ⟨y, e, h1, -⟩; exact .inl e; exact .inr ⟨y, e, h1⟩) (fun y hy => own_ge o3 y hy) hx⟩
set_option maxHeartbeats 3200000 in
theorem write_any (g : Nat) (d : DS) (R : RDat) (p n : Int) (u : Value) (b : List UInt8) (w : World) (h : RD w g d R) (hu : Bs w u b) (hne : b ≠ [] → u.ownBlock ≠ some g) (hcap : (d.loose.length + 1) * 40 ≤ 140737488355328) :
    Calls Try.prog 63 #[.pointer (some ⟨g, 0, none⟩), .int .i64 p, .int .i64 n, u] w fun e w' => ∃ R', e = .returned (.int .i64 (writeE d (idxOf d.np p n) b)) ∧ RD w' g (d.write (idxOf d.np p n) b) R' ∧ Kept (g :: R.vloose.ownBlock.toList) w w' ∧ ∀ x ∈ R'.foot g, x ∈ R.foot g ∨ w.heap.size ≤ x := by
  have ha := act_any g d R w h
  have hok := h.ok.write (idxOf d.np p n) b (fun k hk => idxOf_lt hk)
  have hns := h.ok.ns
  obtain ⟨pu, cu, rfl, -, -, -⟩ := id hu
  have HC : Hid ((d.loose.length + 1) * 40 ≤ 140737488355328) := hcap
  clear hcap
  obtain ⟨z, hz⟩ : ∃ z, z = d.alive := ⟨_, rfl⟩
  rw [← hz] at ha
  cases z with
  | false =>
    have eE : writeE d (idxOf d.np p n) b = 1 := by unfold writeE; rw [← hz]; rfl
    have ed : d.write (idxOf d.np p n) b = d.act := by
      unfold DS.write
      cases idxOf d.np p n with
      | none => rfl
      | some k => simp [← hz]
    rw [eE, ed]
    clear hz eE ed hok h hns
    go_enter Try.func63, Try.ntmps63
    go_wp2_with fail
    refine ha.mono ?_
    rintro e w1 ⟨rfl, h1, k1⟩
    go_wp2
    go_ret
    exact ⟨R, rfl, h1, k1.mono (by simp), fun x hx => .inl hx⟩
  | true =>
    cases hix : idxOf d.np p n with
    | none =>
      have eE : writeE d none b = 61 := by unfold writeE; rw [← hz]; rfl
      have es : sizeI d.act p n = 0 := sizeI_none (by rw [d.act_np]; exact hix)
      rw [eE]
      clear hz eE h hok hix hns
      go_enter Try.func63, Try.ntmps63
      go_wp2_with fail
      refine ha.mono ?_
      rintro e w1 ⟨rfl, h1, k1⟩
      have hs := size_any g d.act R p n w1 h1
      rw [es] at hs
      have H1 : Hid (RD w1 g d.act R) := h1
      clear h1 ha es
      go_wp2_with fail
      refine hs.mono ?_
      rintro e w2 ⟨rfl, k2⟩
      clear hs
      go_wp2
      go_ret
      exact ⟨R, rfl, H1.out.kept k2 (by simp), (k1.mono (by simp)).then k2, fun x hx => .inl hx⟩
    | some k =>
      have es : sizeI d.act p n = (sizeK d.np d.ns k : Int) := by rw [sizeI_some (k := k) (by rw [d.act_np]; exact hix), d.act_np, d.act_ns]
      have hpos := sizeK_pos d.np d.ns k
      have hle := sizeK_le d.np d.ns k hns.2
      obtain ⟨sz, hsz⟩ : ∃ sz, sz = sizeK d.np d.ns k := ⟨_, rfl⟩
      rw [← hsz] at es hpos hle
      have hne0 : ¬ (sz : Int) = 0 := by omega
      by_cases hbl : b.length = sz
      · have eE : writeE d (some k) b = 0 := by unfold writeE; rw [← hz]; simp [hbl, hsz]
        have ed : d.write (some k) b = { d.act with loose := d.loose ++ [(k, b)] } := by
          show (if d.alive = true ∧ b.length = sizeK d.np d.ns k then _ else _) = _
          rw [if_pos ⟨hz.symm, by rw [hbl, hsz]⟩]
        rw [eE]
        rw [hix] at hok
        have ED : Hid (d.write (some k) b = { d.act with loose := d.loose ++ [(k, b)] }) := ed
        have HIX : Hid (idxOf d.np p n = some k) := hix
        have HSZ : Hid (b.length ≤ 140737488355328) := (show b.length ≤ 140737488355328 by omega)
        rw [← hbl] at es hne0
        clear hz eE ed h hix hsz hle hpos hns hbl
        go_enter Try.func63, Try.ntmps63
        go_wp2_with fail
        refine ha.mono ?_
        rintro e w1 ⟨rfl, h1, k1⟩
        have hs := size_any g d.act R p n w1 h1
        rw [es] at hs
        have hu1 := hu.keptNe k1 (fun h0 x hx hm => hne h0 (by simp at hm; subst hm; exact hx))
        have H1 : Hid (RD w1 g d.act R) := h1
        clear h1 ha es hu hne
        go_wp2_with fail
        refine hs.mono ?_
        rintro e w2 ⟨rfl, k2⟩
        have h2 := H1.out.kept k2 (by simp)
        have hu2 := hu1.kept k2
        have c8 := h2.blk.cell (j := 8) rfl
        obtain ⟨pz, cz, ez, hz1, hz2⟩ := h2.loose.shape
        rw [ez] at c8
        have hcc := copied_from _ _ hu2 HSZ.out
        have H2 : Hid (RD w2 g d.act R) := h2
        have EZ : Hid (R.vloose = .slice pz d.act.loose.length cz) := ez
        obtain ⟨inf, hin1, hin2, hin3, hin4⟩ := info_parts3 (show (Try.prog.info? 89).map (fun i => (i.zero, i.size, i.bytes)) = some (some (.agg #[.int .i64 0, .int .i64 0, .slice none 0 0]), 3, 40) by kernel_rfl)
        have HRW : Hid (Row w2 0 3 (.slice pz d.act.loose.length cz) d.act.loose.length (lcells R.lv)) := (show Row w2 0 3 (.slice pz d.act.loose.length cz) d.act.loose.length (lcells R.lv) by rw [← ez]; exact h2.loose)
        have HCN : Hid (d.act.loose.length = d.loose.length) := (show d.act.loose.length = d.loose.length by rw [d.act_loose])
        have ngl : g ∉ (Value.slice pz d.act.loose.length cz).ownBlock.toList := fun hm => (h2.apart g (by rw [ez]; simpa using hm)).1 rfl
        clear h2 hs ez hz1 hz2 hu1 hu2
        generalize d.act.loose.length = ll at *
        have HOK : Hid ((d.write (some k) b).Ok) := hok
        have HI : Hid (Try.prog.info? 89 = some inf ∧ inf.zero = some (.agg #[.int .i64 0, .int .i64 0, .slice none 0 0]) ∧ inf.size = 3 ∧ inf.bytes = 40) := ⟨hin1, hin2, hin3, hin4⟩
        clear hok hin1 hin2 hin3 hin4
        go_wp2
        go_region_law
          (first
            | (go_simp; go_at_call 42; refine (hcc _ (by first | (with_reducible exact Kept.refl _ _) | (with_reducible exact (Kept.refl _ _).drew))).mono ?_; rintro e w3 ⟨p3, c3, rfl, o3, kA, k3⟩; have d3 := kA.cell c8 (by simp); have d4 := (kA.alloc (.cells #[.int .i64 p, .int .i64 n, .slice p3 b.length c3] 89)).cell c8 (by simp); dsimp only)
            | (refine step_append_row (by rfl) (.tmp 27) (.tmp 33) 76 (by rfl) 0 89 inf (.agg #[.int .i64 0, .int .i64 0, .slice none 0 0]) 3 40 Try.underlying76 HI.out.1 HI.out.2.1 HI.out.2.2.1 HI.out.2.2.2 rfl _ _ _ (by rfl) (by exact (HRW.out.kept kA (by simp)).kept ((Kept.refl [] w3).alloc _) (by simp)) _ 1 [.int .i64 p, .int .i64 n, .slice p3 b.length c3] (by rfl) (by exact src_write w3 _ _ Try.underlying76 p n p3 b.length c3) (by have := HC.out; have := HCN.out; omega) (by have := HC.out; have := HCN.out; unfold maxLen; omega) (by have := HC.out; have := HCN.out; omega) (Nat.zero_le _) ?_; intro v5 w5 r5 k5 at5
               obtain ⟨p5, c5, rfl, -, -⟩ := r5.shape
               have kE : Kept (Value.slice pz ll cz).ownBlock.toList w2 w5 := ((kA.alloc (.cells #[.int .i64 p, .int .i64 n, .slice p3 b.length c3] 89)).mono (by simp)).trans k5 (by intro x hx; exact .inl hx)
               have b5 := H2.out.blk.kept kE ngl
               have e0 := b5.cell (j := 8) rfl
               have y0 := b5.free 8)
            | fail)
        all_goals
          have o3 : w3.ownsRow w2.heap.size 5 1 (.slice p3 b.length c3) b.length (u8s b) := o3
          obtain ⟨f1, f2, f3⟩ := writeEnd H2.out EZ.out HCN.out HIX.out ED.out HOK.out o3 kA r5 k5 at5
          have F1 : Hid (RD (w5.setCell ⟨g, 8, none⟩ (.slice p5 (ll + 1) c5)) g (d.write (some k) b) (R.more (.slice p5 (ll + 1) c5) p n (.slice p3 b.length c3))) := f1
          clear f1 hcc c8 d3 d4 b5 e0 y0 kE r5 k5 at5 o3
          go_wp2
          go_ret
          exact ⟨_, rfl, F1.out, ((k1.mono (by simp)).then k2).trans f2 (by intro x hx; exact .inl hx), fun x hx => by have := (k1.then k2).size; rcases f3 x hx with c | c; exact .inl c; exact .inr (by omega)⟩
      · have eE : writeE d (some k) b = 62 := by unfold writeE; rw [← hz]; simp [← hsz, hbl]
        have ed : d.write (some k) b = d.act := by
          show (if d.alive = true ∧ b.length = sizeK d.np d.ns k then _ else _) = _
          rw [if_neg (fun c => hbl (by rw [c.2, hsz]))]
        have hbl' : ¬ (b.length : Int) = (sz : Int) := by omega
        rw [eE, ed]
        clear hz eE ed h hok hix hsz hle hpos hns hbl
        go_enter Try.func63, Try.ntmps63
        go_wp2_with fail
        refine ha.mono ?_
        rintro e w1 ⟨rfl, h1, k1⟩
        have hs := size_any g d.act R p n w1 h1
        rw [es] at hs
        have H1 : Hid (RD w1 g d.act R) := h1
        clear h1 ha es
        go_wp2_with fail
        refine hs.mono ?_
        rintro e w2 ⟨rfl, k2⟩
        clear hs
        go_wp2
        go_ret
        exact ⟨R, rfl, H1.out.kept k2 (by simp), (k1.mono (by simp)).then k2, fun x hx => .inl hx⟩
end Go.Proofs.Ytmipmiaflompmab

/-
  OWN WORK. The document's disk: Blank.
-/
namespace Go.Proofs.Ytmipmiaflompmab
open Go.RowKit
set_option linter.unusedVariables false

def blankIm (np ns : Nat) : IM := ⟨List.replicate np (zer (pgB ns)), zer (16 + pgB ns), [], zer 40, zer 40⟩
theorem blankIm_eq (np ns : Nat) : imOf np (blankRows np ns) [] = blankIm np ns := by
  have h1 : (List.replicate np (zer (pgB ns)) ++ [zer 40, zer 40]).take np = List.replicate np (zer (pgB ns)) := List.take_left' (by simp)
  unfold imOf blankIm blankRows
  simp [h1, List.getD]
theorem zer_length (n : Nat) : (zer n).length = n := by simp [zer]
theorem made_zer {w : World} (n : Nat) (hn : n ≤ 1000) : (w.alloc (.cells (madeCells #[.int .u8 0] n) 5)).ownsRow w.heap.size 5 1 (.slice (some ⟨w.heap.size, 0, none⟩) n n) (zer n).length (u8s (zer n)) := by
  rw [zer_length]
  exact own_made w 5 w.heap.size n n (Nat.le_refl _) (Nat.le_refl _) (by unfold maxLen; omega)
set_option maxHeartbeats 3200000 in
theorem blank_any (np ns lm : Nat) (w : World) (hnp : 1 ≤ np ∧ np ≤ 16) (hns : 1 ≤ ns ∧ ns ≤ 8) :
    Calls Try.prog 37 #[.agg #[.int .i64 (np : Int), .int .i64 (ns : Int), .int .i64 (lm : Int)]] w fun e w' => ∃ V, e = .returned V.agg ∧ OwnIm w' w.heap.size V (imOf np (blankRows np ns) []) ∧ V.log = .slice none 0 0 ∧ Kept [] w w' := by
  rw [blankIm_eq]
  obtain ⟨P, hP⟩ : ∃ P, P = 16 + pgB ns := ⟨_, rfl⟩
  obtain ⟨Q, hQ⟩ : ∃ Q, Q = pgB ns := ⟨_, rfl⟩
  have hPl : P ≤ 168 := by rw [hP]; unfold pgB; omega
  have hQl : Q ≤ 152 := by rw [hQ]; unfold pgB; omega
  have hpb := fun w => pageBytes_any (np : Int) (ns : Int) (lm : Int) w (wrap16 hns.2) (wrap24 hns.2)
  have eQ : 24 + 16 * (ns : Int) = (Q : Int) := by rw [hQ]; unfold pgB; omega
  rw [eQ] at hpb
  have w16 : IntKind.i64.wrap (16 + (Q : Int)) = (P : Int) := by rw [show (16 : Int) + (Q : Int) = (P : Int) by rw [hP, hQ]; unfold pgB; omega]; exact wrap_i64_of (by omega) (by omega)
  have hmP := fun u => run_make_bs (P := Try.prog) u 25 5 Try.underlying25 (by kernel_rfl) P P (Nat.le_refl _) (by omega)
  have hmQ := fun u => run_make_bs (P := Try.prog) u 25 5 Try.underlying25 (by kernel_rfl) Q Q (Nat.le_refl _) (by omega)
  have hm40 := fun u => run_make_bs (P := Try.prog) u 25 5 Try.underlying25 (by kernel_rfl) 40 40 (Nat.le_refl _) (by omega)
  rw [show ((40 : Nat) : Int) = 40 from rfl] at hm40
  have HP : Hid (P = 16 + pgB ns ∧ P ≤ 168) := ⟨hP, hPl⟩
  have HQ : Hid (Q = pgB ns ∧ Q ≤ 152) := ⟨hQ, hQl⟩
  have HNP : Hid (np ≤ 16) := hnp.2
  clear hP hQ hPl hQl eQ hnp hns
  go_enter Try.func37, Try.ntmps37
  go_wp2_with fail
  refine (hpb _).mono ?_
  rintro e w1 ⟨rfl, k1⟩
  have k01 : Kept [] w w1 := (((Kept.refl [] w).alloc _).alloc _).then k1
  have b0 : Blk w1 w.heap.size 23 [.int .i64 (np : Int), .int .i64 (ns : Int), .int .i64 (lm : Int)] := ((Blk.new w _ _).kept ((Kept.refl [] _).alloc _) (by simp)).kept k1 (by simp)
  have bR : Blk w1 (w.heap.size + 1) 28 nil5 := by
    have := Blk.new (w.alloc (.cells #[.int .i64 (np : Int), .int .i64 (ns : Int), .int .i64 (lm : Int)] 23)) 28 nil5
    rw [World.size_alloc] at this
    exact this.kept k1 (by simp)
  obtain ⟨w2, hw2⟩ : ∃ w2, w2 = (w1.alloc (.cells (madeCells #[.int .u8 0] P) 5)).alloc (.cells #[.slice none 0 0, .slice (some ⟨w1.heap.size, 0, none⟩) P P, .slice none 0 0, .slice none 0 0, .slice none 0 0] 28) := ⟨_, rfl⟩
  have k2 : Kept [] w1 w2 := by rw [hw2]; exact ((Kept.refl [] w1).alloc _).alloc _
  have bB : Blk w2 (w1.heap.size + 1) 28 [.slice none 0 0, .slice (some ⟨w1.heap.size, 0, none⟩) P P, .slice none 0 0, .slice none 0 0, .slice none 0 0] := by
    rw [hw2]
    have := Blk.new (w1.alloc (.cells (madeCells #[.int .u8 0] P) 5)) 28 [.slice none 0 0, .slice (some ⟨w1.heap.size, 0, none⟩) P P, .slice none 0 0, .slice none 0 0, .slice none 0 0]
    rwa [World.size_alloc] at this
  have hs1 : w.heap.size + 2 ≤ w1.heap.size := by have := bR.lt; omega
  have oP : w2.ownsRow w1.heap.size 5 1 (.slice (some ⟨w1.heap.size, 0, none⟩) P P) (zer P).length (u8s (zer P)) := by rw [hw2]; exact own_of_kept (made_zer P (by have := HP.out; omega)) ((Kept.refl [] _).alloc _) (by simp)
  have HW2 : Hid (w2 = (w1.alloc (.cells (madeCells #[.int .u8 0] P) 5)).alloc (.cells #[.slice none 0 0, .slice (some ⟨w1.heap.size, 0, none⟩) P P, .slice none 0 0, .slice none 0 0, .slice none 0 0] 28)) := hw2
  have st0 : ImSt w1 w2 (w1.heap.size + 1) (.slice (some ⟨w1.heap.size, 0, none⟩) P P) (.slice none 0 0) (blankIm np ns) 0 (.slice none 0 0) [] :=
    ⟨bB, fam2 (a := []) (by simpa [u8s] using World.ownsRow_nil w2 w1.heap.size 5 1) (by have h := oP; rw [HP.out.1] at h ⊢; exact h) (fun x hx => by simp [Value.ownBlock] at hx), World.ownsRow_nil _ _ _ _, k2⟩
  clear hw2 bB oP k1
  go_wp2_with fail
  rw [← HW2.out]
  have HBN : Hid (w1.heap.size ≤ w1.heap.size + 1) := Nat.le_succ _
  clear HW2
  go_loopw [4] (fun i wr => ∃ (k : Nat) (vq : Value) (qs : List Value), k ≤ np ∧ i = .int .i64 k ∧ ImSt w1 wr (w1.heap.size + 1) (.slice (some ⟨w1.heap.size, 0, none⟩) P P) (.slice none 0 0) (blankIm np ns) k vq qs) (fun i _ => np - (intOf i).toNat)
  case atStart => exact ⟨0, _, _, Nat.zero_le _, rfl, st0⟩
  case round =>
    clear st0 k2
    obtain ⟨k, vq, qs, hk, rfl, st⟩ := hrel
    have kr := st.kept
    have a0 := (b0.kept kr (by simp)).cell (j := 0) rfl
    have a1 := (b0.kept kr (by simp)).cell (j := 1) rfl
    have a2 := (b0.kept kr (by simp)).cell (j := 2) rfl
    by_cases hlt : k < np
    · have hlt' : (k : Int) < (np : Int) := by omega
      have d0 := st.blk.cell (j := 0) rfl
      have wk : IntKind.i64.wrap ((k : Int) + 1) = (k : Int) + 1 := wrap_i64_of (by omega) (by have := HNP.out; omega)
      have HK : Hid (k + 1 ≤ 17) := (show k + 1 ≤ 17 by have := HNP.out; omega)
      have hl : (blankIm np ns).ps[k]? = some (zer Q) := by rw [HQ.out.1]; simp [blankIm, hlt]
      have nB : w1.heap.size + 1 ∉ vq.ownBlock.toList := fun hm => st.blk.far st.row (by decide) _ (by simpa using hm) rfl
      go_wp2
      go_region_law
        (first
          | (go_simp; go_at_call 34; refine (hpb _).mono ?_; rintro e w3 ⟨rfl, kA0⟩; have kA : Kept [] wr w3 := ⟨kA0.os, kA0.tape, kA0.output, kA0.size, kA0.block⟩; have d3 := kA.cell d0 (by simp); have d4 := (kA.alloc (.cells (madeCells #[.int .u8 0] Q) 5)).cell d0 (by simp); have d5 := ((kA.alloc (.cells (madeCells #[.int .u8 0] Q) 5)).alloc (.cells #[.slice (some ⟨w3.heap.size, 0, none⟩) Q Q] 25)).cell d0 (by simp); dsimp only)
          | (refine step_append_own2 (by rfl) (.tmp 17) (.tmp 21) 24 (by rfl) w1.heap.size 25 Try.underlying24 (.slice none 0 0) 24 (by kernel_rfl) rfl vq k qs (by rfl) (by exact ((own_of_kept st.row kA (by simp)).alloc _).alloc _) ⟨w3.heap.size + 1, 0, none⟩ 1 1 [.slice (some ⟨w3.heap.size, 0, none⟩) Q Q] (by rfl) rfl (by intro j u hj; rcases j with _ | j; (simp at hj; subst hj; simp [go_sem, Addr.add]); simp at hj) (by simp [Value.oneCell']) (by have := HK.out; unfold maxLen; omega) (by have := HK.out; omega) (by have := kA.size; have := kr.size; simp; omega) ?_; intro v5 w5 o5 g5 at5; obtain ⟨p5, c5, rfl⟩ := own_shape2 o5
             have kE : Kept vq.ownBlock.toList wr w5 := (((kA.alloc (.cells (madeCells #[.int .u8 0] Q) 5)).alloc (.cells #[.slice (some ⟨w3.heap.size, 0, none⟩) Q Q] 25)).mono (by simp)).trans (Kept.ofGrown (S := vq.ownBlock.toList) g5 (by intro k e _; simp [e])) (by intro x hx; exact .inl hx)
             have b5 := st.blk.kept kE nB
             have e0 := b5.cell (j := 0) rfl
             have y0 := b5.free 0)
          | fail)
      all_goals
        have o3 := own_mono (made_zer (w := w3) Q (by have := HQ.out; omega)) kA.size
        have st' := ImSt.next (l := zer Q) (p3 := some ⟨w3.heap.size, 0, none⟩) (c3 := Q) st HBN.out hl (by rw [zer_length] at o3 ⊢; exact o3) (kA.alloc _) (by rw [zer_length]; exact o5) (by rw [zer_length]; exact g5)
        rw [zer_length] at st'
        clear st d0 d3 d4 d5 e0 y0 b5 kE at5 o3
        go_wp2
        go_roundw
        case rel => exact ⟨k + 1, _, _, by omega, by go_num, st'⟩
        case measure => simp [intOf]; omega
    · obtain rfl : k = np := by omega
      have hBl := st.blk.lt
      have c3 := st.blk.cell (j := 3) rfl
      have f3 := st.blk.free 3
      have HST : Hid (ImSt w1 wr (w1.heap.size + 1) (.slice (some ⟨w1.heap.size, 0, none⟩) P P) (.slice none 0 0) (blankIm k ns) k vq qs) := st
      have HR : Hid (Blk wr (w.heap.size + 1) 28 nil5) := bR.kept kr (by simp)
      have HS1 : Hid (w.heap.size + 2 ≤ w1.heap.size) := hs1
      obtain ⟨pq, cq, rfl⟩ := own_shape2 st.row
      clear st b0 bR hpb hmP hmQ w16 a1 a2 hs1 hlt
      go_upto_region 7 with fail
      obtain ⟨w3, hw3⟩ : ∃ w3, w3 = wr.alloc (.cells (madeCells #[.int .u8 0] 40) 5) := ⟨_, rfl⟩
      have k3 : Kept [] wr w3 := by rw [hw3]; exact (Kept.refl [] wr).alloc _
      have o3 : w3.ownsRow wr.heap.size 5 1 (.slice (some ⟨wr.heap.size, 0, none⟩) 40 40) (zer 40).length (u8s (zer 40)) := by rw [hw3]; exact made_zer 40 (by omega)
      have e3 : (wr.setCell ⟨w1.heap.size + 1, 3, none⟩ (.slice (some ⟨wr.heap.size, 0, none⟩) 40 40)).alloc (.cells (madeCells #[.int .u8 0] 40) 5) = w3.setCell ⟨w1.heap.size + 1, 3, none⟩ (.slice (some ⟨wr.heap.size, 0, none⟩) 40 40) := by rw [hw3]; exact (World.setCell_alloc_past _ _ _ _ hBl).symm
      rw [e3]
      obtain ⟨b6, k6⟩ := (HST.out.blk.kept k3 (by simp)).set 3 (.slice (some ⟨wr.heap.size, 0, none⟩) 40 40)
      have hB1 : w.heap.size + 1 ≠ w1.heap.size + 1 := by have := HS1.out; omega
      have HR3 : Hid (Blk (w3.setCell ⟨w1.heap.size + 1, 3, none⟩ (.slice (some ⟨wr.heap.size, 0, none⟩) 40 40)) (w.heap.size + 1) 28 nil5) := (HR.out.kept k3 (by simp)).kept k6 (by simpa using hB1)
      have kw3 : Kept [] w (w3.setCell ⟨w1.heap.size + 1, 3, none⟩ (.slice (some ⟨wr.heap.size, 0, none⟩) 40 40)) := ((k01.then kr).then k3).trans k6 (by have := HS1.out; simp; omega)
      have H6 : Hid (Blk (w3.setCell ⟨w1.heap.size + 1, 3, none⟩ (.slice (some ⟨wr.heap.size, 0, none⟩) 40 40)) (w1.heap.size + 1) 28 [.slice pq k cq, .slice (some ⟨w1.heap.size, 0, none⟩) P P, .slice none 0 0, .slice (some ⟨wr.heap.size, 0, none⟩) 40 40, .slice none 0 0]) := b6
      have K3 : Hid (Kept [] wr w3) := k3
      have O3 : Hid (w3.ownsRow wr.heap.size 5 1 (.slice (some ⟨wr.heap.size, 0, none⟩) 40 40) (zer 40).length (u8s (zer 40))) := o3
      clear e3 hw3 b6 c3 f3 k3 o3
      generalize w3.setCell ⟨w1.heap.size + 1, 3, none⟩ (.slice (some ⟨wr.heap.size, 0, none⟩) 40 40) = W3 at *
      have c4 := H6.out.cell (j := 4) rfl
      have f4 := H6.out.free 4
      have hBl3 := H6.out.lt
      go_upto_region 8 with fail
      obtain ⟨w4, hw4⟩ : ∃ w4, w4 = W3.alloc (.cells (madeCells #[.int .u8 0] 40) 5) := ⟨_, rfl⟩
      have k4 : Kept [] W3 w4 := by rw [hw4]; exact (Kept.refl [] W3).alloc _
      have o4 : w4.ownsRow W3.heap.size 5 1 (.slice (some ⟨W3.heap.size, 0, none⟩) 40 40) (zer 40).length (u8s (zer 40)) := by rw [hw4]; exact made_zer 40 (by omega)
      have e4 : (W3.setCell ⟨w1.heap.size + 1, 4, none⟩ (.slice (some ⟨W3.heap.size, 0, none⟩) 40 40)).alloc (.cells (madeCells #[.int .u8 0] 40) 5) = w4.setCell ⟨w1.heap.size + 1, 4, none⟩ (.slice (some ⟨W3.heap.size, 0, none⟩) 40 40) := by rw [hw4]; exact (World.setCell_alloc_past _ _ _ _ hBl3).symm
      rw [e4]
      have b7 := H6.out.kept k4 (by simp)
      obtain ⟨b8, k8⟩ := b7.set 4 (.slice (some ⟨W3.heap.size, 0, none⟩) 40 40)
      have bR8 := (HR3.out.kept k4 (by simp)).kept k8 (by simpa using hB1)
      obtain ⟨⟨r0, r1, r2, r3, r4⟩, y0, y1, y2, y3, y4⟩ := Blk.five (show Blk _ (w.heap.size + 1) 28 [.slice none 0 0, .slice none 0 0, .slice none 0 0, .slice none 0 0, .slice none 0 0] from bR8)
      obtain ⟨⟨s0, s1, s2, s3, s4⟩, -⟩ := Blk.five (show Blk _ (w1.heap.size + 1) 28 [.slice pq k cq, .slice (some ⟨w1.heap.size, 0, none⟩) P P, .slice none 0 0, .slice (some ⟨wr.heap.size, 0, none⟩) 40 40, .slice (some ⟨W3.heap.size, 0, none⟩) 40 40] from b8)
      obtain ⟨bF, kF⟩ := Blk.set5 (a' := .slice pq k cq) (b' := .slice (some ⟨w1.heap.size, 0, none⟩) P P) (c' := .slice none 0 0) (d' := .slice (some ⟨wr.heap.size, 0, none⟩) 40 40) (e' := .slice (some ⟨W3.heap.size, 0, none⟩) 40 40) (show Blk _ (w.heap.size + 1) 28 [.slice none 0 0, .slice none 0 0, .slice none 0 0, .slice none 0 0, .slice none 0 0] from bR8)
      obtain ⟨⟨x0, x1, x2, x3, x4⟩, -⟩ := bF.five
      have hql : qs.length = k := by simpa using HST.out.row.1
      have hst : ImSt w1 wr (w1.heap.size + 1) (.slice (some ⟨w1.heap.size, 0, none⟩) P P) (.slice none 0 0) (blankIm k ns) qs.length (.slice pq k cq) qs := by rw [hql]; exact HST.out
      have fin := imEnd (base := w.heap.size) (by simp [blankIm, hql]) hst (by have := HS1.out; omega) (HR3.out.not8 (by decide)) (by have := HS1.out; omega) (H6.out.not8 (by decide)) O3.out K3.out k6 o4 k4 k8 kF
      have kfin : Kept [] w _ := ((kw3.then k4).trans k8 (by have := HS1.out; simp; omega)).trans kF (by simp)
      have HF : Hid (OwnIm _ w.heap.size ⟨.slice pq k cq, qs, .slice (some ⟨w1.heap.size, 0, none⟩) P P, .slice none 0 0, .slice (some ⟨wr.heap.size, 0, none⟩) 40 40, .slice (some ⟨W3.heap.size, 0, none⟩) 40 40⟩ (blankIm k ns)) := fin
      clear fin hst b7 b8 bR8 k8 kF bF e4 hw4
      generalize w4.setCell ⟨w1.heap.size + 1, 4, none⟩ (.slice (some ⟨W3.heap.size, 0, none⟩) 40 40) = W4 at *
      go_wp2
      refine bodyPost_ret (by simp [results, Try.results37, go_sem, x0, x1, x2, x3, x4]; try rfl) rfl ?_
      exact ⟨_, rfl, HF.out, rfl, kfin⟩
end Go.Proofs.Ytmipmiaflompmab

/-
  OWN WORK. The document's disk: New.
-/
namespace Go.Proofs.Ytmipmiaflompmab
open Go.RowKit
set_option linter.unusedVariables false

def freshR (V : IV) : RDat := ⟨V.vp, V.pv, V.pair, V.m0, V.m1, .slice none 0 0, .slice none 0 0, V.log, []⟩
/-- a disk made of an image of one's own -/
theorem RD.make {w : World} {base g : Nat} {V : IV} {d : DS} (hok : d.Ok) (h : OwnIm w base V (imOf d.np d.rows d.log)) (hl : d.loose = []) (hb : Blk w g 78 ((freshR V).cells d)) (hg : base ≤ g) : RD w g d (freshR V) ∧ ∀ x ∈ (freshR V).foot g, base ≤ x := by
  obtain ⟨hf, hpv⟩ := h.ofRows hok.len
  have e1 : (freshR V).rows = V.log :: V.tail := by simp [freshR, RDat.rows, RDat.tail, IV.tail]
  have e2 : d.all = d.log :: d.rows := by unfold DS.all; rw [hl]; simp
  refine ⟨⟨hok, hb, by rw [e1, e2]; exact hf.mono (Nat.zero_le _), ?_, ⟨none, 0, rfl, by unfold maxLen; omega, fun _ => rfl⟩, by rw [hl]; exact Row.nil w 0 3, by rw [hl]; rfl, fun x hx => by simp [freshR, Value.ownBlock] at hx⟩, fun x hx => ?_⟩
  · rw [← hpv]
    exact own_mono h.row (Nat.zero_le _)
  · unfold RDat.foot at hx
    rcases List.mem_cons.1 hx with e | hx
    · omega
    · rcases List.mem_append.1 hx with hx | hx
      · rcases List.mem_append.1 hx with hx | hx
        · exact own_ge h.row x (by simpa [freshR] using hx)
        · simp [freshR, Value.ownBlock] at hx
      · rw [e1] at hx
        exact (hf.not8 hx).2.1
theorem new_bad (a b c : Int) (w : World) (h : shapeOk a b c = false) :
    Calls Try.prog 11 #[.agg #[.int .i64 a, .int .i64 b, .int .i64 c]] w fun e w' => e = .returned (.tuple #[.pointer none, .int .i64 60]) ∧ Kept [] w w' := by
  have hs := fun w => shaped_any a b c w
  rw [h] at hs
  clear h
  go_enter Try.func11, Try.ntmps11
  go_wp2_with fail
  refine (hs _).mono ?_
  rintro e w1 ⟨rfl, k1⟩
  clear hs
  go_wp2
  go_ret2
  exact ⟨rfl, ((Kept.refl [] w).alloc _).then k1⟩
theorem shapeOk_nat {a b c : Int} (h : shapeOk a b c = true) : ∃ np ns lm : Nat, a = (np : Int) ∧ b = (ns : Int) ∧ c = (lm : Int) ∧ (1 ≤ np ∧ np ≤ 16) ∧ (1 ≤ ns ∧ ns ≤ 8) ∧ 1024 ≤ lm ∧ lm ≤ 65536 := by
  simp [shapeOk] at h
  exact ⟨a.toNat, b.toNat, c.toNat, by omega, by omega, by omega, by omega, by omega, by omega⟩
set_option maxHeartbeats 1600000 in
theorem new_ok (np ns lm : Nat) (w : World) (h1 : 1 ≤ np ∧ np ≤ 16) (h2 : 1 ≤ ns ∧ ns ≤ 8) (h3 : 1024 ≤ lm ∧ lm ≤ 65536) :
    Calls Try.prog 11 #[.agg #[.int .i64 (np : Int), .int .i64 (ns : Int), .int .i64 (lm : Int)]] w fun e w' => ∃ g R, e = .returned (.tuple #[.pointer (some ⟨g, 0, none⟩), .int .i64 0]) ∧ RD w' g (DS.blank np ns lm) R ∧ (∀ x ∈ R.foot g, w.heap.size ≤ x) ∧ Kept [] w w' := by
  have hok := DS.Ok.ofBlank h1 h2 h3
  have hsh : shapeOk (np : Int) (ns : Int) (lm : Int) = true := by simp [shapeOk]; omega
  have hs := fun w => shaped_any (np : Int) (ns : Int) (lm : Int) w
  rw [hsh] at hs
  have hbl := fun w => blank_any np ns lm w h1 h2
  have HOK : Hid (DS.blank np ns lm).Ok := hok
  clear hsh hok h1 h2 h3
  go_enter Try.func11, Try.ntmps11
  go_wp2_with fail
  refine (hs _).mono ?_
  rintro e w1 ⟨rfl, k1⟩
  have b0 : Blk w1 w.heap.size 23 [.int .i64 (np : Int), .int .i64 (ns : Int), .int .i64 (lm : Int)] := (Blk.new w _ _).kept k1 (by simp)
  have k01 : Kept [] w w1 := ((Kept.refl [] w).alloc _).then k1
  have a0 := b0.cell (j := 0) rfl
  have a1 := b0.cell (j := 1) rfl
  have a2 := b0.cell (j := 2) rfl
  clear hs k1
  go_wp2_with fail
  go_region_held3 (fun w' => w'.cell? ⟨w.heap.size, 0, none⟩ = some (.int .i64 (np : Int)) ∧ w'.cell? ⟨w.heap.size, 1, none⟩ = some (.int .i64 (ns : Int)) ∧ w'.cell? ⟨w.heap.size, 2, none⟩ = some (.int .i64 (lm : Int)))
    (first | (with_reducible exact ⟨a0, a1, a2⟩) | (with_reducible exact ⟨kA.cell a0 (by simp), kA.cell a1 (by simp), kA.cell a2 (by simp)⟩) | (with_reducible exact ⟨(kA.alloc _).cell a0 (by simp), (kA.alloc _).cell a1 (by simp), (kA.alloc _).cell a2 (by simp)⟩) | go_keep)
    (first
      | (go_at_call 37; refine (hbl _).mono ?_; rintro e w2 ⟨V, rfl, hV, hVl, kA0⟩
         have kA : Kept [] w1 w2 := ⟨kA0.os, kA0.tape, kA0.output, kA0.size, kA0.block⟩
         obtain ⟨vp, pv, pair, log, m0, m1⟩ := V
         obtain ⟨u0, v0, u1, v1, u2, v2, u3, v3, u4, v4, x0, x1, x2, x3, x4⟩ := hV.shapes
         simp only at x0 x1 x2 x3 x4 hVl
         subst x0 x1 x3 x4 hVl
         clear x2
         unfold IV.agg
         simp only)
      | fail)
  have hV : OwnIm w2 w1.heap.size ⟨.slice u0 pv.length v0, pv, .slice u1 (imOf np (blankRows np ns) []).pair.length v1, .slice none 0 0, .slice u3 (imOf np (blankRows np ns) []).m0.length v3, .slice u4 (imOf np (blankRows np ns) []).m1.length v4⟩ (imOf np (blankRows np ns) []) := hV
  have kB := (Kept.refl [] w2).alloc (.cells #[.int .i64 (np : Int), .int .i64 (ns : Int), .int .i64 (lm : Int), .slice u0 pv.length v0, .slice u1 (imOf np (blankRows np ns) []).pair.length v1, .slice none 0 0, .slice u3 (imOf np (blankRows np ns) []).m0.length v3, .slice u4 (imOf np (blankRows np ns) []).m1.length v4, .slice none 0 0, .slice none 0 0, .int .i64 0, .int .i64 0, .int .i64 0, .bool false] 78)
  obtain ⟨f1, f2⟩ := RD.make (d := DS.blank np ns lm) (g := w2.heap.size) HOK.out (hV.kept0 kB) rfl (Blk.new w2 _ _) kA.size
  have F1 : Hid (RD _ w2.heap.size (DS.blank np ns lm) _) := f1
  clear f1 hV kA0 hbl a0 a1 a2 b0
  go_wp2
  go_ret2
  exact ⟨_, _, rfl, F1.out, fun x hx => Nat.le_trans k01.size (f2 x hx), (k01.then kA).then kB⟩
end Go.Proofs.Ytmipmiaflompmab

/-
  OWN WORK. The document's disk: lay on its own rows; part of a family.
-/
namespace Go.Proofs.Ytmipmiaflompmab
open Go.RowKit
set_option linter.unusedVariables false

/-- one of the disk's rows is written -/
theorem RD.setRow {w w' : World} {g : Nat} {d : DS} {R : RDat} {k : Nat} {tv : Value} {b : List UInt8} {n : Nat} (h : RD w g d R) (hk : k < d.np + 3) (htv : (R.pair :: (R.pv ++ [R.m0, R.m1]))[k]? = some tv) (hbl : b.length = sizeK d.np d.ns k) (hn : n ≤ b.length) (kk : Kept tv.ownBlock.toList w w')
    (ho : w'.ownsRow 0 5 1 tv (d.rows.getD k []).length (u8s (over (d.rows.getD k []) 0 (b.take n)))) : RD w' g { d with rows := layR d.rows k b n } R ∧ ∀ x ∈ tv.ownBlock.toList, x ∈ blocks R.rows := by
  have hpv := h.pvLen
  have hlen := h.ok.len
  have hL := getD_some (l := d.rows) (k := k) (by omega)
  have hv1 : R.rows[k + 1]? = some tv := by
    show (R.vlog :: (R.pair :: (R.pv ++ [R.m0, R.m1]) ++ R.lv.map (·.2.2)))[k + 1]? = some tv
    rw [List.getElem?_cons_succ, List.getElem?_append_left (by simp; omega)]
    exact htv
  have hin : ∀ x ∈ tv.ownBlock.toList, x ∈ blocks R.rows := fun x hx => mem_blocks hv1 (by simpa using hx)
  have hown := h.rowAt htv hL
  have hlen2 : (over (d.rows.getD k []) 0 (b.take n)).length = (d.rows.getD k []).length := over0_length' _ _ _ (by have := h.ok.row k _ hL; omega)
  have hs := h.fam.set (k + 1) tv (over (d.rows.getD k []) 0 (b.take n)) hv1 kk (by rw [hlen2]; exact ho)
  obtain ⟨f1, f2, f3⟩ := h.far
  refine ⟨⟨?_, h.blk.kept kk fun hm => f3 (hin g hm), ?_, own_of_kept h.row kk fun x hx hm => ?_, h.vl, h.loose.kept kk fun x hx hm => (h.apart x hx).2.2 (hin x hm), h.lidx, h.apart⟩, hin⟩
  · have ok := h.ok
    exact ⟨ok.np, ok.ns, ok.lm, (layR_length _ _ _ _).trans ok.len, Sized.layR ok.row hbl n, ok.loose, ok.log, ok.lasted, ok.stop, ok.acts, ok.stopw⟩
  · have e : ({ d with rows := layR d.rows k b n } : DS).all = d.all.set (k + 1) (over (d.rows.getD k []) 0 (b.take n)) := by
      show d.log :: (layR d.rows k b n ++ d.loose.map (·.2)) = (d.log :: (d.rows ++ d.loose.map (·.2))).set (k + 1) _
      rw [List.set_cons_succ, List.set_append_left _ _ (by omega)]
      rfl
    rw [e]
    exact hs
  · exact own_is8 hown x (by simpa using hm) (own_not8 h.row (by decide) x hx)
set_option maxHeartbeats 1600000 in
theorem lay_rd (g : Nat) (d : DS) (R : RDat) (b : List UInt8) (vB : Value) (place number : Int) (k n : Nat) (w : World) (h : RD w g d R) (hk : idxOf d.np place number = some k) (hB : Bs w vB b) (hbl : b.length = sizeK d.np d.ns k) (hn : n ≤ b.length)
    (hne : ∀ tv, (R.pair :: (R.pv ++ [R.m0, R.m1]))[k]? = some tv → ∀ x, tv.ownBlock = some x → vB.ownBlock ≠ some x) :
    Calls Try.prog 43 #[R.iv.agg, .agg #[.int .i64 place, .int .i64 number, vB], .int .i64 (n : Int)] w fun e w' => (∃ v, e = .returned v) ∧ RD w' g { d with rows := layR d.rows k b n } R ∧ ∃ S, Kept S w w' ∧ ∀ x ∈ S, x ∈ blocks R.rows := by
  have hpv := h.pvLen
  have hkl := idxOf_lt hk
  obtain ⟨tv, htv⟩ : ∃ tv, (R.pair :: (R.pv ++ [R.m0, R.m1]))[k]? = some tv := ⟨_, List.getElem?_eq_getElem (by simp; omega)⟩
  have hL := getD_some (l := d.rows) (k := k) (by have := h.ok.len; omega)
  have hown := h.rowAt htv hL
  have hlay : LayIn w 0 tv (d.rows.getD k []) vB b n := ⟨hown, hB, hn, by have := h.ok.row k _ hL; omega, hne tv htv⟩
  have fin : ∀ (e : Ending) (w' : World), ((∃ v, e = .returned v) ∧ w'.ownsRow 0 5 1 tv (d.rows.getD k []).length (u8s (over (d.rows.getD k []) 0 (b.take n))) ∧ Kept tv.ownBlock.toList w w') → ((∃ v, e = .returned v) ∧ RD w' g { d with rows := layR d.rows k b n } R ∧ ∃ S, Kept S w w' ∧ ∀ x ∈ S, x ∈ blocks R.rows) := by
    rintro e w' ⟨hv, ho, kk⟩
    obtain ⟨f1, f2⟩ := h.setRow hkl htv hbl hn kk ho
    exact ⟨hv, f1, _, kk, f2⟩
  obtain ⟨vp, pv, pair, m0, m1, vl, vloose, vlog, lv⟩ := R
  obtain ⟨u0, v0, x0⟩ := own_shape2 h.row
  obtain ⟨u1, v1, x1⟩ := own_shape2 h.pairOwn
  obtain ⟨u3, v3, x3⟩ := own_shape2 h.m0Own
  obtain ⟨u4, v4, x4⟩ := own_shape2 h.m1Own
  obtain ⟨u2, v2, x2, -, -⟩ := h.vl
  simp only at x0 x1 x2 x3 x4 hpv htv
  subst x0 x1 x2 x3 x4
  unfold IV.agg RDat.iv
  simp only
  unfold idxOf at hk
  split at hk
  · rename_i hc
    obtain ⟨rfl, hc1, hc2⟩ := hc
    obtain ⟨j, rfl⟩ : ∃ j : Nat, number = (j : Int) := ⟨number.toNat, by omega⟩
    have e : k = 1 + j := by simpa using hk.symm
    subst e
    have hj : j < pv.length := by omega
    have htv' : pv[j]? = some tv := by
      rw [Nat.add_comm 1 j, List.getElem?_cons_succ, List.getElem?_append_left hj] at htv
      exact htv
    obtain ⟨gv, rfl⟩ : ∃ gv, u0 = some ⟨gv, 0, none⟩ := by
      rcases h.row.2 with ⟨e, hz⟩ | ⟨g', cap, cur, e, -⟩
      · omega
      · cases e; exact ⟨g', rfl⟩
    have hc := h.row.cells (g := gv) rfl j tv htv'
    refine (lay_page ⟨gv, 0, none⟩ d.np v0 u1 u2 u3 u4 _ v1 _ v2 _ v3 _ v4 j tv vB _ b n 0 w hlay (by omega) hc (fun x hx e => ?_)).mono fin
    rw [add_block] at e
    simp at e
    subst e
    exact own_is8 hown _ hx (own_not8 h.row (by decide) _ rfl)
  · split at hk
    · rename_i hc
      subst hc
      have e : k = 0 := by simpa using hk.symm
      subst e
      have e : tv = .slice u1 (d.rows.getD 0 []).length v1 := (Option.some.inj (show some (Value.slice u1 (d.rows.getD 0 []).length v1) = some tv from htv)).symm
      subst e
      exact (lay_pair u0 u2 u3 u4 d.np v0 0 0 _ v2 _ v3 _ v4 number _ vB _ b n 0 w hlay).mono fin
    · split at hk
      · rename_i hc
        obtain ⟨rfl, hc1, hc2⟩ := hc
        rcases (by omega : number = 0 ∨ number = 1) with rfl | rfl
        · have e : k = d.np + 1 := by simpa using hk.symm
          subst e
          have e : tv = .slice u3 (d.rows.getD (d.np + 1) []).length v3 := by
            rw [List.getElem?_cons_succ, List.getElem?_append_right (by omega), hpv, Nat.sub_self] at htv
            simpa using htv.symm
          subst e
          exact (lay_m0 u0 u1 u2 u4 d.np v0 _ v1 _ v2 0 0 _ v4 _ vB _ b n 0 w hlay).mono fin
        · have e : k = d.np + 1 + 1 := by simpa using hk.symm
          subst e
          have e : tv = .slice u4 (d.rows.getD (d.np + 2) []).length v4 := by
            rw [List.getElem?_cons_succ, List.getElem?_append_right (by omega), hpv, show d.np + 1 - d.np = 1 by omega] at htv
            simpa using htv.symm
          subst e
          exact (lay_m1 u0 u1 u2 u3 d.np v0 _ v1 _ v2 _ v3 0 0 _ vB _ b n 0 w hlay).mono fin
      · cases hk
/-- part of a family, by the same test on both lists -/
theorem Fam.iff {w : World} {base : Nat} {vs : List Value} {ls : List (List UInt8)} : Fam w base vs ls ↔ vs.length = ls.length ∧ (∀ z ∈ vs.zip ls, w.ownsRow base 5 1 z.1 z.2.length (u8s z.2)) ∧ vs.Pairwise (fun u v => ∀ x, u.ownBlock = some x → v.ownBlock ≠ some x) := by
  constructor
  · intro h
    refine ⟨h.len, fun z hz => ?_, ?_⟩
    · obtain ⟨i, hi⟩ := List.getElem?_of_mem hz
      rw [List.getElem?_zip_eq_some] at hi
      exact h.own i z.1 z.2 hi.1 hi.2
    · rw [List.pairwise_iff_getElem]
      intro i j hi hj hij x hx
      exact h.apart i j _ _ x hij (List.getElem?_eq_getElem hi) (List.getElem?_eq_getElem hj) hx
  · rintro ⟨h1, h2, h3⟩
    refine ⟨h1, fun i v l hv hl => h2 (v, l) (List.mem_of_getElem? (i := i) (by rw [List.getElem?_zip_eq_some]; exact ⟨hv, hl⟩)), fun i j u v x hij hu hv hx => ?_⟩
    obtain ⟨hi, rfl⟩ := List.getElem?_eq_some_iff.1 hu
    obtain ⟨hj, rfl⟩ := List.getElem?_eq_some_iff.1 hv
    exact (List.pairwise_iff_getElem.1 h3) i j hi hj hij x hx
theorem filter_zip {X Y : Type} (p : X → Bool) (q : Y → Bool) : ∀ (xs : List X) (ys : List Y), (∀ z ∈ xs.zip ys, p z.1 = q z.2) → xs.length = ys.length → (xs.filter p).length = (ys.filter q).length ∧ ∀ z ∈ (xs.filter p).zip (ys.filter q), z ∈ xs.zip ys := by
  intro xs
  induction xs with
  | nil => intro ys h hl; cases ys with
    | nil => exact ⟨rfl, by simp⟩
    | cons y ys => simp at hl
  | cons x xs ih =>
    intro ys h hl
    cases ys with
    | nil => simp at hl
    | cons y ys =>
      have h0 : p x = q y := h (x, y) (by simp)
      obtain ⟨i1, i2⟩ := ih ys (fun z hz => h z (by simp [hz])) (by simpa using hl)
      by_cases c : p x = true
      · have c' : q y = true := by rw [← h0]; exact c
        rw [List.filter_cons_of_pos c, List.filter_cons_of_pos c']
        refine ⟨by simp [i1], fun z hz => ?_⟩
        rw [List.zip_cons_cons] at hz ⊢
        rcases List.mem_cons.1 hz with e | e
        · exact List.mem_cons.2 (.inl e)
        · exact List.mem_cons.2 (.inr (i2 z e))
      · have c' : ¬ q y = true := by rw [← h0]; exact c
        rw [List.filter_cons_of_neg c, List.filter_cons_of_neg c']
        exact ⟨i1, fun z hz => by rw [List.zip_cons_cons]; exact List.mem_cons.2 (.inr (i2 z hz))⟩
theorem Fam.part {w : World} {base : Nat} {X Y : Type} {A : List Value} {B : List (List UInt8)} {xs : List X} {ys : List Y} {f : X → Value} {k : Y → List UInt8} (p : X → Bool) (q : Y → Bool) (h : Fam w base (A ++ xs.map f) (B ++ ys.map k)) (hl : A.length = B.length) (hpq : ∀ z ∈ xs.zip ys, p z.1 = q z.2) : Fam w base (A ++ (xs.filter p).map f) (B ++ (ys.filter q).map k) := by
  have hxy : xs.length = ys.length := by have := h.len; simp at this; omega
  obtain ⟨i1, i2⟩ := filter_zip p q xs ys hpq hxy
  obtain ⟨h1, h2, h3⟩ := Fam.iff.1 h
  refine Fam.iff.2 ⟨by simp [hl, i1], fun z hz => ?_, h3.sublist (List.Sublist.append_left (List.Sublist.map _ List.filter_sublist) _)⟩
  rw [List.zip_append hl] at hz h2
  rcases List.mem_append.1 hz with c | c
  · exact h2 z (List.mem_append_left _ c)
  · rw [List.zip_map, List.mem_map] at c
    obtain ⟨y, hy, rfl⟩ := c
    exact h2 _ (List.mem_append_right _ (by rw [List.zip_map]; exact List.mem_map.2 ⟨y, i2 y hy, rfl⟩))
end Go.Proofs.Ytmipmiaflompmab

