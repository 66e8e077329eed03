import Derived.Test.YtebcmcmboomgfaaRows
import Derived.Test.YtebcmcmboomgfaaC3
/-
  OWN WORK (by mkpr2.py). record: isTable, isDirty.
-/
namespace Go.Proofs.Ytebcmcmboomgfaa
open Go.RowKit
set_option linter.unusedVariables false
set_option linter.unusedSimpArgs false

def tableOk (l : List RowR) : Prop := l.length ≤ 8 ∧ (∀ x ∈ l, rowOk x) ∧ ∀ (i : Nat) x y, l[i]? = some x → l[i + 1]? = some y → x.birth < y.birth
def dirtyOk (l : List RecR) : Prop := l.length ≤ 16 ∧ (∀ x ∈ l, recOk x) ∧ ∀ (i : Nat) x y, l[i]? = some x → l[i + 1]? = some y → x.page < y.page
theorem listsOk_iff (r : Rcd) : listsOk r ↔ tableOk r.rows ∧ dirtyOk r.dirty := by
  unfold listsOk tableOk dirtyOk
  exact ⟨fun ⟨⟨a, b⟩, c, d⟩ => ⟨⟨a, c⟩, b, d⟩, fun ⟨⟨a, c⟩, b, d⟩ => ⟨⟨a, b⟩, c, d⟩⟩
def lastB (l : List RowR) : Nat → Int
  | 0 => 0
  | k + 1 => match l[k]? with
    | some x => x.birth
    | none => 0
def lastP (l : List RecR) : Nat → Int
  | 0 => -1
  | k + 1 => match l[k]? with
    | some x => x.page
    | none => -1
theorem lastB_next {l : List RowR} {k : Nat} {x : RowR} (h : l[k]? = some x) : lastB l (k + 1) = x.birth := by simp [lastB, h]
theorem lastP_next {l : List RecR} {k : Nat} {x : RecR} (h : l[k]? = some x) : lastP l (k + 1) = x.page := by simp [lastP, h]
theorem lastB_bad {l : List RowR} {k : Nat} {x : RowR} (h : l[k]? = some x) (hl : x.birth ≤ lastB l k) : ¬ tableOk l := fun ⟨_, h2, h3⟩ => by
  cases k with
  | zero => have := (h2 x (List.mem_of_getElem? h)).1.1; simp [lastB] at hl; omega
  | succ k =>
    obtain ⟨y, hy⟩ : ∃ y, l[k]? = some y := ⟨_, List.getElem?_eq_getElem (by have := (List.getElem?_eq_some_iff.1 h).1; omega)⟩
    rw [lastB_next hy] at hl
    have := h3 k y x hy h
    omega
theorem lastP_bad {l : List RecR} {k : Nat} {x : RecR} (h : l[k]? = some x) (hl : x.page ≤ lastP l k) : ¬ dirtyOk l := fun ⟨_, h2, h3⟩ => by
  cases k with
  | zero => have := (h2 x (List.mem_of_getElem? h)).1.1; simp [lastP] at hl; omega
  | succ k =>
    obtain ⟨y, hy⟩ : ∃ y, l[k]? = some y := ⟨_, List.getElem?_eq_getElem (by have := (List.getElem?_eq_some_iff.1 h).1; omega)⟩
    rw [lastP_next hy] at hl
    have := h3 k y x hy h
    omega
theorem rowsTo_next2 {l : List RowR} {k : Nat} {x : RowR} (h : rowsTo l k) (hx : l[k]? = some x) (ho : rowOk x) (hl : ¬ x.birth ≤ lastB l k) : rowsTo l (k + 1) :=
  h.next hx ho fun j y e hy => by subst e; rw [lastB_next hy] at hl; omega
theorem recsTo_next2 {l : List RecR} {k : Nat} {x : RecR} (h : recsTo l k) (hx : l[k]? = some x) (ho : recOk x) (hl : ¬ x.page ≤ lastP l k) : recsTo l (k + 1) :=
  h.next hx ho fun j y e hy => by subst e; rw [lastP_next hy] at hl; omega

set_option maxRecDepth 20000 in
set_option maxHeartbeats 6400000 in
theorem qTable (v : Value) (l : List RowR) (w : World) (h : Cs w 5 v l.length (rcells l)) : Calls Try.prog 47 #[v] w fun e w' => e = .returned (.bool (bl (tableOk l))) ∧ Kept [] w w' := by
  obtain ⟨Q, hQ⟩ : ∃ Q, Q = bl (tableOk l) := ⟨_, rfl⟩
  rw [← hQ]
  have HF := @hideH _ (show ¬ tableOk l → Q = false from fun h => by rw [hQ]; exact bl_f h)
  have HT := @hideH _ (show l.length ≤ 8 → rowsTo l l.length → Q = true from fun h1 h2 => by rw [hQ]; exact bl_t ⟨h1, h2.all⟩)
  clear hQ
  have HC := @hideH _ h
  obtain ⟨-, -, p, c, rfl, -⟩ := h
  obtain ⟨n, hn⟩ : ∃ n, n = l.length := ⟨_, rfl⟩
  rw [← hn]
  have HN := @hideH _ hn
  clear hn
  by_cases h8 : (8 : Int) < (n : Int)
  · have eQ := @hideH _ (HF.out fun h => by have := h.1; have e := HN.out; omega)
    go_enter Try.func47, Try.ntmps47
    go_wp2
    go_ret
    exact ⟨by rw [eQ.out]; rfl, Kept.refl [] _⟩
  have HS := @hideH _ (show n ≤ 8 by omega)
  go_enter Try.func47, Try.ntmps47
  go_wp2
  go_loopw [3, 5, 11] (fun vb vp vi wr => ∃ k : Nat, k ≤ n ∧ vi = .int .i64 k ∧ vb = .int .i64 (lastB l k) ∧ Hid (rowsTo l k ∧ Kept [] w wr)) (fun _ _ vi _ => n - (intOf vi).toNat)
  case atStart => exact ⟨0, Nat.zero_le _, rfl, rfl, ⟨fun i x hi => by omega, fun i x y hi => by omega⟩, Kept.refl [] _⟩
  case round =>
    obtain ⟨k, hk, rfl, rfl, hh⟩ := hrel
    by_cases hkl : k < n
    · have hkl' : (k : Int) < (n : Int) := by omega
      have hk0 : (0 : Int) ≤ (k : Int) := by omega
      have wk : IntKind.i64.wrap ((k : Int) + 1) = (k : Int) + 1 := wrap_i64_of (by omega) (by have := HS.out; omega)
      obtain ⟨x, hx⟩ : ∃ x, l[k]? = some x := ⟨_, List.getElem?_eq_getElem (by have := HN.out; omega)⟩
      obtain ⟨b, o, c', ev, hc⟩ := (HC.out.kept hh.out.2).rowAt (by have := HN.out; omega)
      simp only [Value.slice.injEq] at ev
      obtain ⟨rfl, -, rfl⟩ := ev
      obtain ⟨x0, x1, x2, x3, x4⟩ := hc k x hx
      obtain ⟨B, hB⟩ : ∃ B, B = lastB l k := ⟨_, rfl⟩
      rw [← hB]
      have HX := @hideH _ (And.intro hx hB)
      obtain ⟨wz, hwz⟩ : ∃ wz, wz = wr.alloc (.cells #[.int .i64 x.birth, .int .i64 x.id, .int .i64 x.state, .int .i64 x.last, .int .i64 x.next] 66) := ⟨_, rfl⟩
      have kz : Kept [] wr wz := by rw [hwz]; exact (Kept.refl [] wr).alloc _
      have bz : Blk wz wr.heap.size 66 [.int .i64 x.birth, .int .i64 x.id, .int .i64 x.state, .int .i64 x.last, .int .i64 x.next] := by rw [hwz]; exact Blk.new wr _ _
      have z0 := bz.cell (j := 0) rfl
      have z1 := bz.cell (j := 1) rfl
      have z2 := bz.cell (j := 2) rfl
      have z3 := bz.cell (j := 3) rfl
      have z4 := bz.cell (j := 4) rfl
      have KZ := @hideH _ (hh.out.2.then kz)
      clear hx hB hc bz kz
      by_cases hlt : x.birth ≤ B
      · have eQ := @hideH _ (HF.out (lastB_bad HX.out.1 (by rw [← HX.out.2]; exact hlt)))
        have KE := KZ
        go_upto_region 7 with fail
        rw [← hwz]
        clear hwz
        go_wp2
        go_ret
        exact ⟨by rw [eQ.out]; rfl, KE.out⟩
      have HLT := @hideH _ hlt
      have hr := fun w => qRow x w
      by_cases hok : rowOk x
      · have HOK := @hideH _ hok
        simp only [bl_t hok] at hr
        clear hok
        go_upto_region 7 with fail
        rw [← hwz]
        clear hwz
        go_wp2_with fail
        refine (hr _).mono ?_
        rintro e w2 ⟨rfl, k2⟩
        clear hr
        replace z0 := k2.cell z0 (by simp)
        replace z1 := k2.cell z1 (by simp)
        replace z2 := k2.cell z2 (by simp)
        replace z3 := k2.cell z3 (by simp)
        replace z4 := k2.cell z4 (by simp)
        have KE := @hideH _ (KZ.out.then k2)
        clear k2
        have REL := @hideH _ (rowsTo_next2 hh.out.1 HX.out.1 HOK.out (by rw [← HX.out.2]; have := HLT.out; omega))
        have EB := @hideH _ (lastB_next HX.out.1)
        clear hh
        go_wp2
        go_roundw
        case rel => exact ⟨k + 1, by omega, by go_num, by rw [EB.out], REL.out, KE.out⟩
        case measure => simp [intOf]; omega
      · have eQ := @hideH _ (HF.out fun h => hok (h.2.1 x (List.mem_of_getElem? HX.out.1)))
        simp only [bl_f hok] at hr
        clear hok
        go_upto_region 7 with fail
        rw [← hwz]
        clear hwz
        go_wp2_with fail
        refine (hr _).mono ?_
        rintro e w2 ⟨rfl, k2⟩
        clear hr
        have KE := @hideH _ (KZ.out.then k2)
        clear k2
        go_wp2
        go_ret
        exact ⟨by rw [eQ.out]; rfl, KE.out⟩
    · have hkl' : ¬ (k : Int) < (n : Int) := by omega
      obtain rfl : k = n := by omega
      have eQ := @hideH _ (HT.out (by have := HS.out; have e := HN.out; omega) (by rw [← HN.out]; exact hh.out.1))
      have KE := @hideH _ hh.out.2
      clear hh
      go_wp2
      go_ret
      exact ⟨by rw [eQ.out]; rfl, KE.out⟩
set_option maxRecDepth 20000 in
set_option maxHeartbeats 6400000 in
theorem qDirty (v : Value) (l : List RecR) (w : World) (h : Cs w 2 v l.length (dcells l)) : Calls Try.prog 48 #[v] w fun e w' => e = .returned (.bool (bl (dirtyOk l))) ∧ Kept [] w w' := by
  obtain ⟨Q, hQ⟩ : ∃ Q, Q = bl (dirtyOk l) := ⟨_, rfl⟩
  rw [← hQ]
  have HF := @hideH _ (show ¬ dirtyOk l → Q = false from fun h => by rw [hQ]; exact bl_f h)
  have HT := @hideH _ (show l.length ≤ 16 → recsTo l l.length → Q = true from fun h1 h2 => by rw [hQ]; exact bl_t ⟨h1, h2.all⟩)
  clear hQ
  have HC := @hideH _ h
  obtain ⟨-, -, p, c, rfl, -⟩ := h
  obtain ⟨n, hn⟩ : ∃ n, n = l.length := ⟨_, rfl⟩
  rw [← hn]
  have HN := @hideH _ hn
  clear hn
  by_cases h8 : (16 : Int) < (n : Int)
  · have eQ := @hideH _ (HF.out fun h => by have := h.1; have e := HN.out; omega)
    go_enter Try.func48, Try.ntmps48
    go_wp2
    go_ret
    exact ⟨by rw [eQ.out]; rfl, Kept.refl [] _⟩
  have HS := @hideH _ (show n ≤ 16 by omega)
  go_enter Try.func48, Try.ntmps48
  go_wp2
  go_loopw [3, 5, 11] (fun vb vp vi wr => ∃ k : Nat, k ≤ n ∧ vi = .int .i64 k ∧ vb = .int .i64 (lastP l k) ∧ Hid (recsTo l k ∧ Kept [] w wr)) (fun _ _ vi _ => n - (intOf vi).toNat)
  case atStart => exact ⟨0, Nat.zero_le _, rfl, rfl, ⟨fun i x hi => by omega, fun i x y hi => by omega⟩, Kept.refl [] _⟩
  case round =>
    obtain ⟨k, hk, rfl, rfl, hh⟩ := hrel
    by_cases hkl : k < n
    · have hkl' : (k : Int) < (n : Int) := by omega
      have hk0 : (0 : Int) ≤ (k : Int) := by omega
      have wk : IntKind.i64.wrap ((k : Int) + 1) = (k : Int) + 1 := wrap_i64_of (by omega) (by have := HS.out; omega)
      obtain ⟨x, hx⟩ : ∃ x, l[k]? = some x := ⟨_, List.getElem?_eq_getElem (by have := HN.out; omega)⟩
      obtain ⟨b, o, c', ev, hc⟩ := (HC.out.kept hh.out.2).recAt (by have := HN.out; omega)
      simp only [Value.slice.injEq] at ev
      obtain ⟨rfl, -, rfl⟩ := ev
      obtain ⟨x0, x1⟩ := hc k x hx
      obtain ⟨B, hB⟩ : ∃ B, B = lastP l k := ⟨_, rfl⟩
      rw [← hB]
      have HX := @hideH _ (And.intro hx hB)
      obtain ⟨wz, hwz⟩ : ∃ wz, wz = wr.alloc (.cells #[.int .i64 x.page, .int .i64 x.lsn] 68) := ⟨_, rfl⟩
      have kz : Kept [] wr wz := by rw [hwz]; exact (Kept.refl [] wr).alloc _
      have bz : Blk wz wr.heap.size 68 [.int .i64 x.page, .int .i64 x.lsn] := by rw [hwz]; exact Blk.new wr _ _
      have z0 := bz.cell (j := 0) rfl
      have z1 := bz.cell (j := 1) rfl
      have KZ := @hideH _ (hh.out.2.then kz)
      clear hx hB hc bz kz
      by_cases hlt : x.page ≤ B
      · have eQ := @hideH _ (HF.out (lastP_bad HX.out.1 (by rw [← HX.out.2]; exact hlt)))
        have KE := KZ
        go_upto_region 7 with fail
        rw [← hwz]
        clear hwz
        go_wp2
        go_ret
        exact ⟨by rw [eQ.out]; rfl, KE.out⟩
      have HLT := @hideH _ hlt
      have KE := KZ
      have hp := fun w => pIsPage x.page w
      have hl := fun w => pIsLsn x.lsn w
      by_cases hpg : pageOk x.page
      · simp only [bl_t hpg] at hp
        by_cases hls : lsnOk x.lsn
        · have HOK := @hideH _ (show recOk x from ⟨hpg, hls⟩)
          simp only [bl_t hls] at hl
          clear hpg hls
          go_upto_region 7 with fail
          rw [← hwz]
          clear hwz
          go_wp2_with fail
          refine (hp _).mono ?_
          rintro e w2 ⟨rfl, rfl⟩
          go_wp2_with fail
          refine (hl _).mono ?_
          rintro e w2 ⟨rfl, rfl⟩
          clear hp hl
          have REL := @hideH _ (recsTo_next2 hh.out.1 HX.out.1 HOK.out (by rw [← HX.out.2]; have := HLT.out; omega))
          have EB := @hideH _ (lastP_next HX.out.1)
          clear hh
          go_wp2
          go_roundw
          case rel => exact ⟨k + 1, by omega, by go_num, by rw [EB.out], REL.out, KE.out⟩
          case measure => simp [intOf]; omega
        · have eQ := @hideH _ (HF.out fun h => hls (h.2.1 x (List.mem_of_getElem? HX.out.1)).2)
          simp only [bl_f hls] at hl
          clear hpg hls
          go_upto_region 7 with fail
          rw [← hwz]
          clear hwz
          go_wp2_with fail
          refine (hp _).mono ?_
          rintro e w2 ⟨rfl, rfl⟩
          go_wp2_with fail
          refine (hl _).mono ?_
          rintro e w2 ⟨rfl, rfl⟩
          clear hp hl
          go_wp2
          go_ret
          exact ⟨by rw [eQ.out]; rfl, KE.out⟩
      · have eQ := @hideH _ (HF.out fun h => hpg (h.2.1 x (List.mem_of_getElem? HX.out.1)).1)
        simp only [bl_f hpg] at hp
        clear hpg
        go_upto_region 7 with fail
        rw [← hwz]
        clear hwz
        go_wp2_with fail
        refine (hp _).mono ?_
        rintro e w2 ⟨rfl, rfl⟩
        clear hp hl
        go_wp2
        go_ret
        exact ⟨by rw [eQ.out]; rfl, KE.out⟩
    · have hkl' : ¬ (k : Int) < (n : Int) := by omega
      obtain rfl : k = n := by omega
      have eQ := @hideH _ (HT.out (by have := HS.out; have e := HN.out; omega) (by rw [← HN.out]; exact hh.out.1))
      have KE := @hideH _ hh.out.2
      clear hh
      go_wp2
      go_ret
      exact ⟨by rw [eQ.out]; rfl, KE.out⟩
end Go.Proofs.Ytebcmcmboomgfaa

/-
  OWN WORK (by mkpr4.py). record: tableBytes, dirtyBytes.
-/
namespace Go.Proofs.Ytebcmcmboomgfaa
open Go.RowKit
set_option linter.unusedVariables false
set_option linter.unusedSimpArgs false


theorem flatB_tk {α : Type} (f : α → List UInt8) : ∀ (l : List α) (k : Nat) (x : α), l[k]? = some x → flatB f (l.take (k + 1)) = flatB f (l.take k) ++ f x
  | [], k, x, h => by simp at h
  | a :: r, 0, x, h => by simp at h; subst h; simp [flatB]
  | a :: r, k + 1, x, h => by
    have := flatB_tk f r k x (by simpa using h)
    simp only [List.take_succ_cons, flatB, List.append_assoc]
    rw [this]
theorem flatB_len {α : Type} (f : α → List UInt8) (n : Nat) : ∀ (l : List α), (∀ x ∈ l, (f x).length = n) → (flatB f l).length = n * l.length
  | [], _ => by simp [flatB]
  | a :: r, h => by
    rw [flatB, List.length_append, h a (by simp), flatB_len f n r (fun x hx => h x (by simp [hx]))]
    simp [Nat.mul_add]; omega
theorem rowB_len (x : RowR) : (rowB x).length = 26 := by simp [rowB, putN_length]
theorem recB_len (x : RecR) : (recB x).length = 9 := by simp [recB, putN_length]

set_option maxRecDepth 20000 in
set_option maxHeartbeats 6400000 in
theorem qTableB (v : Value) (l : List RowR) (w : World) (h : Cs w 5 v l.length (rcells l)) (hok : tableOk l) : Calls Try.prog 52 #[v] w fun e w' => ∃ u, e = .returned u ∧ Acc w w' u (putN 1 l.length ++ flatB rowB l) := by
  have HOK := @hideH _ hok
  have HC := @hideH _ h
  obtain ⟨-, -, p, c, rfl, -⟩ := h
  have hone := fun w => qOne (l.length : Int) w (by omega) (by have := hok.1; omega)
  rw [Int.toNat_natCast] at hone
  obtain ⟨Z, hZ⟩ : ∃ Z, Z = putN 1 l.length ++ flatB rowB l := ⟨_, rfl⟩
  rw [← hZ]
  have HZ : Hid (∀ k, k ≤ l.length → (putN 1 l.length ++ flatB rowB (l.take k)).length ≤ 500) := (by intro k hk; rw [List.length_append, putN_length, flatB_len rowB 26 _ (fun x _ => rowB_len x), List.length_take]; have := hok.1; omega)
  have HZE := @hideH _ hZ
  clear hZ hok
  obtain ⟨n, hn⟩ : ∃ n, n = l.length := ⟨_, rfl⟩
  rw [← hn] at hone ⊢
  have HN := @hideH _ hn
  clear hn
  go_enter Try.func52, Try.ntmps52
  go_wp2_with fail
  refine (hone _).mono ?_
  rintro e w0 ⟨u0, rfl, a0⟩
  clear hone
  go_wp2
  go_loopw [3, 5, 11] (fun vb vp vi wr => ∃ k : Nat, k ≤ n ∧ vi = .int .i64 k ∧ Hid (Acc w wr vb (putN 1 n ++ flatB rowB (l.take k)))) (fun _ _ vi _ => n - (intOf vi).toNat)
  case atStart => exact ⟨0, Nat.zero_le _, rfl, by simpa [flatB, Hid] using a0⟩
  case round =>
    clear a0
    obtain ⟨k, hk, rfl, hh⟩ := hrel
    by_cases hkl : k < n
    · have hkl' : (k : Int) < (n : Int) := by omega
      have hk0 : (0 : Int) ≤ (k : Int) := by omega
      have wk : IntKind.i64.wrap ((k : Int) + 1) = (k : Int) + 1 := wrap_i64_of (by omega) (by have := HOK.out.1; have e := HN.out; omega)
      obtain ⟨x, hx⟩ : ∃ x, l[k]? = some x := ⟨_, List.getElem?_eq_getElem (by have := HN.out; omega)⟩
      obtain ⟨b, o, c', ev, hc⟩ := (HC.out.kept hh.out.2).rowAt (by have := HN.out; omega)
      simp only [Value.slice.injEq] at ev
      obtain ⟨rfl, -, rfl⟩ := ev
      obtain ⟨x0, x1, x2, x3, x4⟩ := hc k x hx
      have xok := HOK.out.2.1 x (List.mem_of_getElem? hx)
      have d1 := fun w => qEight x.birth w (by have := xok.1.1; omega) xok.1.2
      have d2 := fun w => qOne x.id w (by have := xok.2.1.1; omega) (by have := xok.2.1.2; omega)
      have d3 := fun w => qOne x.state w (by rcases xok.2.2.1 with q | q <;> omega) (by rcases xok.2.2.1 with q | q <;> omega)
      have d4 := fun w => qEight x.last w (by have := xok.2.2.2.1.1; omega) xok.2.2.2.1.2
      have d5 := fun w => qEight x.next w xok.2.2.2.2.1 xok.2.2.2.2.2
      have EX := @hideH _ (flatB_tk rowB l k x hx)
      have HL := @hideH _ (HZ.out k (by have := HN.out; omega))
      rw [← HN.out] at HL
      obtain ⟨pu, cu, rfl⟩ := own_shape2 hh.out.1
      obtain ⟨A, hA⟩ : ∃ A, A = putN 1 n ++ flatB rowB (l.take k) := ⟨_, rfl⟩
      rw [← hA] at hh HL ⊢
      have HAE := @hideH _ hA
      clear hA
      generalize hna : A.length = na at hh HL ⊢
      have HNA := @hideH _ hna
      clear hna
      obtain ⟨wz, hwz⟩ : ∃ wz, wz = wr.alloc (.cells #[.int .i64 x.birth, .int .i64 x.id, .int .i64 x.state, .int .i64 x.last, .int .i64 x.next] 66) := ⟨_, rfl⟩
      have kz : Kept [] wr wz := by rw [hwz]; exact (Kept.refl [] wr).alloc _
      have bz : Blk wz wr.heap.size 66 [.int .i64 x.birth, .int .i64 x.id, .int .i64 x.state, .int .i64 x.last, .int .i64 x.next] := by rw [hwz]; exact Blk.new wr _ _
      have z0 := bz.cell (j := 0) rfl
      have z1 := bz.cell (j := 1) rfl
      have z2 := bz.cell (j := 2) rfl
      have z3 := bz.cell (j := 3) rfl
      have z4 := bz.cell (j := 4) rfl
      have HACC := @hideH _ (hh.out.then kz)
      clear hx hc bz kz hh xok
      have kx : Kept [] wz wz.drew := (Kept.refl [] wz).drew
      have t1 : True := trivial
      have t2 : True := trivial
      have t3 : True := trivial
      go_upto_region 5 with fail
      rw [← hwz]
      clear hwz
      go_region_held3 (fun w' => w'.cell? ⟨wr.heap.size, 0, none⟩ = some (.int .i64 x.birth) ∧ w'.cell? ⟨wr.heap.size, 1, none⟩ = some (.int .i64 x.id) ∧ w'.cell? ⟨wr.heap.size, 2, none⟩ = some (.int .i64 x.state) ∧ w'.cell? ⟨wr.heap.size, 3, none⟩ = some (.int .i64 x.last) ∧ w'.cell? ⟨wr.heap.size, 4, none⟩ = some (.int .i64 x.next))
        (first | (with_reducible exact ⟨kx.cell z0 (by simp), kx.cell z1 (by simp), kx.cell z2 (by simp), kx.cell z3 (by simp), kx.cell z4 (by simp)⟩) | (with_reducible exact ⟨(kx.alloc _).cell z0 (by simp), (kx.alloc _).cell z1 (by simp), (kx.alloc _).cell z2 (by simp), (kx.alloc _).cell z3 (by simp), (kx.alloc _).cell z4 (by simp)⟩) | fail)
        (first
          | (go_at_call 30; clear t1; refine (d1 _).mono ?_; rintro e w1 ⟨u1, rfl, a1⟩; obtain ⟨p1, q1, rfl⟩ := own_shape2 a1.1; replace kx := kx.then a1.2)
          | (go_at_call 29; clear t2; refine (d2 _).mono ?_; rintro e w2 ⟨u2, rfl, a2⟩; obtain ⟨p2, q2, rfl⟩ := own_shape2 a2.1; replace kx := kx.then a2.2)
          | (go_at_call 29; refine (d3 _).mono ?_; rintro e w3 ⟨u3, rfl, a3⟩; obtain ⟨p3, q3, rfl⟩ := own_shape2 a3.1; replace kx := kx.then a3.2)
          | (go_at_call 30; clear t3; refine (d4 _).mono ?_; rintro e w4 ⟨u4, rfl, a4⟩; obtain ⟨p4, q4, rfl⟩ := own_shape2 a4.1; replace kx := kx.then a4.2)
          | (go_at_call 30; refine (d5 _).mono ?_; rintro e w5 ⟨u5, rfl, a5⟩; obtain ⟨p5, q5, rfl⟩ := own_shape2 a5.1; replace kx := kx.then a5.2)
          | (go_at_call 28; refine (qJoin _ _ _ (Bss.lit6 w5 _ _ _ _ _ _ _ _ _ _ _ _ _ (HACC.out.then kx).bs ((((a1.then a2.2).then a3.2).then a4.2).then a5.2).bs (((a2.then a3.2).then a4.2).then a5.2).bs ((a3.then a4.2).then a5.2).bs (a4.then a5.2).bs a5.bs _ rfl) (by rw [flat6]; simp [putN_length]; have := HL.out; have e := HNA.out; omega)).mono ?_; rintro e wj ⟨uj, rfl, aj⟩; have ky := kx; replace kx := (kx.alloc _).then aj.2)
          | fail)
      have REL := @hideH _ (show Acc w wj uj (putN 1 n ++ flatB rowB (l.take (k + 1))) by rw [EX.out, ← List.append_assoc, ← HAE.out]; have q := aj.low ((HACC.out.2.then ky).alloc _); rw [flat6] at q; exact q)
      clear aj ky kx HACC a1 a2 a3 a4 a5 d1 d2 d3 d4 d5
      go_wp2
      go_roundw
      case rel => exact ⟨k + 1, by omega, by go_num, REL⟩
      case measure => simp [intOf]; omega
    · have hkl' : ¬ (k : Int) < (n : Int) := by omega
      obtain rfl : k = n := by omega
      have REL := @hideH _ (show Acc w wr _ Z by rw [HZE.out, ← HN.out]; have q := hh.out; rw [List.take_of_length_le (by have := HN.out; omega)] at q; exact q)
      clear hh
      go_wp2
      go_ret
      exact ⟨_, rfl, REL.out⟩
set_option maxRecDepth 20000 in
set_option maxHeartbeats 6400000 in
theorem qDirtyB (v : Value) (l : List RecR) (w : World) (h : Cs w 2 v l.length (dcells l)) (hok : dirtyOk l) : Calls Try.prog 53 #[v] w fun e w' => ∃ u, e = .returned u ∧ Acc w w' u (putN 1 l.length ++ flatB recB l) := by
  have HOK := @hideH _ hok
  have HC := @hideH _ h
  obtain ⟨-, -, p, c, rfl, -⟩ := h
  have hone := fun w => qOne (l.length : Int) w (by omega) (by have := hok.1; omega)
  rw [Int.toNat_natCast] at hone
  obtain ⟨Z, hZ⟩ : ∃ Z, Z = putN 1 l.length ++ flatB recB l := ⟨_, rfl⟩
  rw [← hZ]
  have HZ : Hid (∀ k, k ≤ l.length → (putN 1 l.length ++ flatB recB (l.take k)).length ≤ 500) := (by intro k hk; rw [List.length_append, putN_length, flatB_len recB 9 _ (fun x _ => recB_len x), List.length_take]; have := hok.1; omega)
  have HZE := @hideH _ hZ
  clear hZ hok
  obtain ⟨n, hn⟩ : ∃ n, n = l.length := ⟨_, rfl⟩
  rw [← hn] at hone ⊢
  have HN := @hideH _ hn
  clear hn
  go_enter Try.func53, Try.ntmps53
  go_wp2_with fail
  refine (hone _).mono ?_
  rintro e w0 ⟨u0, rfl, a0⟩
  clear hone
  go_wp2
  go_loopw [3, 5, 11] (fun vb vp vi wr => ∃ k : Nat, k ≤ n ∧ vi = .int .i64 k ∧ Hid (Acc w wr vb (putN 1 n ++ flatB recB (l.take k)))) (fun _ _ vi _ => n - (intOf vi).toNat)
  case atStart => exact ⟨0, Nat.zero_le _, rfl, by simpa [flatB, Hid] using a0⟩
  case round =>
    clear a0
    obtain ⟨k, hk, rfl, hh⟩ := hrel
    by_cases hkl : k < n
    · have hkl' : (k : Int) < (n : Int) := by omega
      have hk0 : (0 : Int) ≤ (k : Int) := by omega
      have wk : IntKind.i64.wrap ((k : Int) + 1) = (k : Int) + 1 := wrap_i64_of (by omega) (by have := HOK.out.1; have e := HN.out; omega)
      obtain ⟨x, hx⟩ : ∃ x, l[k]? = some x := ⟨_, List.getElem?_eq_getElem (by have := HN.out; omega)⟩
      obtain ⟨b, o, c', ev, hc⟩ := (HC.out.kept hh.out.2).recAt (by have := HN.out; omega)
      simp only [Value.slice.injEq] at ev
      obtain ⟨rfl, -, rfl⟩ := ev
      obtain ⟨x0, x1⟩ := hc k x hx
      have xok := HOK.out.2.1 x (List.mem_of_getElem? hx)
      have d1 := fun w => qOne x.page w xok.1.1 (by have := xok.1.2; omega)
      have d2 := fun w => qEight x.lsn w (by have := xok.2.1; omega) xok.2.2
      have EX := @hideH _ (flatB_tk recB l k x hx)
      have HL := @hideH _ (HZ.out k (by have := HN.out; omega))
      rw [← HN.out] at HL
      obtain ⟨pu, cu, rfl⟩ := own_shape2 hh.out.1
      obtain ⟨A, hA⟩ : ∃ A, A = putN 1 n ++ flatB recB (l.take k) := ⟨_, rfl⟩
      rw [← hA] at hh HL ⊢
      have HAE := @hideH _ hA
      clear hA
      generalize hna : A.length = na at hh HL ⊢
      have HNA := @hideH _ hna
      clear hna
      obtain ⟨wz, hwz⟩ : ∃ wz, wz = wr.alloc (.cells #[.int .i64 x.page, .int .i64 x.lsn] 68) := ⟨_, rfl⟩
      have kz : Kept [] wr wz := by rw [hwz]; exact (Kept.refl [] wr).alloc _
      have bz : Blk wz wr.heap.size 68 [.int .i64 x.page, .int .i64 x.lsn] := by rw [hwz]; exact Blk.new wr _ _
      have z0 := bz.cell (j := 0) rfl
      have z1 := bz.cell (j := 1) rfl
      have HACC := @hideH _ (hh.out.then kz)
      clear hx hc bz kz hh xok
      have kx : Kept [] wz wz.drew := (Kept.refl [] wz).drew
      have t1 : True := trivial
      have t2 : True := trivial
      have t3 : True := trivial
      go_upto_region 5 with fail
      rw [← hwz]
      clear hwz
      go_region_held3 (fun w' => w'.cell? ⟨wr.heap.size, 0, none⟩ = some (.int .i64 x.page) ∧ w'.cell? ⟨wr.heap.size, 1, none⟩ = some (.int .i64 x.lsn))
        (first | (with_reducible exact ⟨kx.cell z0 (by simp), kx.cell z1 (by simp)⟩) | (with_reducible exact ⟨(kx.alloc _).cell z0 (by simp), (kx.alloc _).cell z1 (by simp)⟩) | fail)
        (first
          | (go_at_call 29; refine (d1 _).mono ?_; rintro e w1 ⟨u1, rfl, a1⟩; obtain ⟨p1, q1, rfl⟩ := own_shape2 a1.1; replace kx := kx.then a1.2)
          | (go_at_call 30; refine (d2 _).mono ?_; rintro e w2 ⟨u2, rfl, a2⟩; obtain ⟨p2, q2, rfl⟩ := own_shape2 a2.1; replace kx := kx.then a2.2)
          | (go_at_call 28; refine (qJoin _ _ _ (Bss.lit3 w2 _ _ _ _ _ _ _ (HACC.out.then kx).bs (a1.then a2.2).bs a2.bs _ rfl) (by rw [flat3]; simp [putN_length]; have := HL.out; have e := HNA.out; omega)).mono ?_; rintro e wj ⟨uj, rfl, aj⟩; have ky := kx; replace kx := (kx.alloc _).then aj.2)
          | fail)
      have REL := @hideH _ (show Acc w wj uj (putN 1 n ++ flatB recB (l.take (k + 1))) by rw [EX.out, ← List.append_assoc, ← HAE.out]; have q := aj.low ((HACC.out.2.then ky).alloc _); rw [flat3] at q; exact q)
      clear aj ky kx HACC a1 a2 d1 d2
      go_wp2
      go_roundw
      case rel => exact ⟨k + 1, by omega, by go_num, REL⟩
      case measure => simp [intOf]; omega
    · have hkl' : ¬ (k : Int) < (n : Int) := by omega
      obtain rfl : k = n := by omega
      have REL := @hideH _ (show Acc w wr _ Z by rw [HZE.out, ← HN.out]; have q := hh.out; rw [List.take_of_length_le (by have := HN.out; omega)] at q; exact q)
      clear hh
      go_wp2
      go_ret
      exact ⟨_, rfl, REL.out⟩
end Go.Proofs.Ytebcmcmboomgfaa

/-
  OWN WORK (by mkpr.py). record: isBlank, isRange.
-/
namespace Go.Proofs.Ytebcmcmboomgfaa
open Go.RowKit
set_option linter.unusedVariables false
set_option linter.unusedSimpArgs false

set_option maxRecDepth 20000 in
set_option maxHeartbeats 6400000 in
theorem pBlank (kind birth prev id page frm next : Int) (pb pa pr pd : Option Addr) (nb cb na ca nr cr nd cd : Nat) (w : World) : Calls Try.prog 41 #[.agg #[.int .i64 kind, .int .i64 birth, .int .i64 prev, .int .i64 id, .int .i64 page, .int .i64 frm, .slice pb nb cb, .slice pa na ca, .int .i64 next, .slice pr nr cr, .slice pd nd cd]] w fun e w' => e = .returned (.bool (decide (birth = 0 ∧ prev = 0 ∧ id = 0 ∧ page = 0 ∧ frm = 0 ∧ next = 0 ∧ nb = 0 ∧ na = 0 ∧ nr = 0 ∧ nd = 0))) ∧ Kept [] w w' := by
  by_cases h0 : birth = 0
  · subst h0
    by_cases h1 : prev = 0
    · subst h1
      by_cases h2 : id = 0
      · subst h2
        by_cases h3 : page = 0
        · subst h3
          by_cases h4 : frm = 0
          · subst h4
            by_cases h5 : next = 0
            · subst h5
              by_cases h6 : nb = 0
              · subst h6
                by_cases h7 : na = 0
                · subst h7
                  by_cases h8 : nr = 0
                  · subst h8
                    by_cases h9 : nd = 0
                    · subst h9
                      rw [show decide ((0 : Int) = 0 ∧ (0 : Int) = 0 ∧ (0 : Int) = 0 ∧ (0 : Int) = 0 ∧ (0 : Int) = 0 ∧ (0 : Int) = 0 ∧ (0 : Nat) = 0 ∧ (0 : Nat) = 0 ∧ (0 : Nat) = 0 ∧ (0 : Nat) = 0) = true from rfl]
                      go_enter Try.func41, Try.ntmps41
                      go_wp2
                      go_ret
                      exact ⟨by simp, (Kept.refl [] w).alloc _⟩
                    · rw [show decide ((0 : Int) = 0 ∧ (0 : Int) = 0 ∧ (0 : Int) = 0 ∧ (0 : Int) = 0 ∧ (0 : Int) = 0 ∧ (0 : Int) = 0 ∧ (0 : Nat) = 0 ∧ (0 : Nat) = 0 ∧ (0 : Nat) = 0 ∧ nd = 0) = false from decide_eq_false fun h => h9 (by first | exact h.1 | (simp only [true_and] at h; first | exact h.1 | exact h))]
                      have g : ((nd : Int) == 0) = false := by simp [h9]
                      clear h9
                      go_enter Try.func41, Try.ntmps41
                      go_wp2
                      go_ret
                      exact ⟨by simp, (Kept.refl [] w).alloc _⟩
                  · rw [show decide ((0 : Int) = 0 ∧ (0 : Int) = 0 ∧ (0 : Int) = 0 ∧ (0 : Int) = 0 ∧ (0 : Int) = 0 ∧ (0 : Int) = 0 ∧ (0 : Nat) = 0 ∧ (0 : Nat) = 0 ∧ nr = 0 ∧ nd = 0) = false from decide_eq_false fun h => h8 (by first | exact h.1 | (simp only [true_and] at h; first | exact h.1 | exact h))]
                    have g : ((nr : Int) == 0) = false := by simp [h8]
                    clear h8
                    go_enter Try.func41, Try.ntmps41
                    go_wp2
                    go_ret
                    exact ⟨by simp, (Kept.refl [] w).alloc _⟩
                · rw [show decide ((0 : Int) = 0 ∧ (0 : Int) = 0 ∧ (0 : Int) = 0 ∧ (0 : Int) = 0 ∧ (0 : Int) = 0 ∧ (0 : Int) = 0 ∧ (0 : Nat) = 0 ∧ na = 0 ∧ nr = 0 ∧ nd = 0) = false from decide_eq_false fun h => h7 (by first | exact h.1 | (simp only [true_and] at h; first | exact h.1 | exact h))]
                  have g : ((na : Int) == 0) = false := by simp [h7]
                  clear h7
                  go_enter Try.func41, Try.ntmps41
                  go_wp2
                  go_ret
                  exact ⟨by simp, (Kept.refl [] w).alloc _⟩
              · rw [show decide ((0 : Int) = 0 ∧ (0 : Int) = 0 ∧ (0 : Int) = 0 ∧ (0 : Int) = 0 ∧ (0 : Int) = 0 ∧ (0 : Int) = 0 ∧ nb = 0 ∧ na = 0 ∧ nr = 0 ∧ nd = 0) = false from decide_eq_false fun h => h6 (by first | exact h.1 | (simp only [true_and] at h; first | exact h.1 | exact h))]
                have g : ((nb : Int) == 0) = false := by simp [h6]
                clear h6
                go_enter Try.func41, Try.ntmps41
                go_wp2
                go_ret
                exact ⟨by simp, (Kept.refl [] w).alloc _⟩
            · rw [show decide ((0 : Int) = 0 ∧ (0 : Int) = 0 ∧ (0 : Int) = 0 ∧ (0 : Int) = 0 ∧ (0 : Int) = 0 ∧ next = 0 ∧ nb = 0 ∧ na = 0 ∧ nr = 0 ∧ nd = 0) = false from decide_eq_false fun h => h5 (by first | exact h.1 | (simp only [true_and] at h; first | exact h.1 | exact h))]
              have g : (next == 0) = false := by simp [h5]
              clear h5
              go_enter Try.func41, Try.ntmps41
              go_wp2
              go_ret
              exact ⟨by simp, (Kept.refl [] w).alloc _⟩
          · rw [show decide ((0 : Int) = 0 ∧ (0 : Int) = 0 ∧ (0 : Int) = 0 ∧ (0 : Int) = 0 ∧ frm = 0 ∧ next = 0 ∧ nb = 0 ∧ na = 0 ∧ nr = 0 ∧ nd = 0) = false from decide_eq_false fun h => h4 (by first | exact h.1 | (simp only [true_and] at h; first | exact h.1 | exact h))]
            have g : (frm == 0) = false := by simp [h4]
            clear h4
            go_enter Try.func41, Try.ntmps41
            go_wp2
            go_ret
            exact ⟨by simp, (Kept.refl [] w).alloc _⟩
        · rw [show decide ((0 : Int) = 0 ∧ (0 : Int) = 0 ∧ (0 : Int) = 0 ∧ page = 0 ∧ frm = 0 ∧ next = 0 ∧ nb = 0 ∧ na = 0 ∧ nr = 0 ∧ nd = 0) = false from decide_eq_false fun h => h3 (by first | exact h.1 | (simp only [true_and] at h; first | exact h.1 | exact h))]
          have g : (page == 0) = false := by simp [h3]
          clear h3
          go_enter Try.func41, Try.ntmps41
          go_wp2
          go_ret
          exact ⟨by simp, (Kept.refl [] w).alloc _⟩
      · rw [show decide ((0 : Int) = 0 ∧ (0 : Int) = 0 ∧ id = 0 ∧ page = 0 ∧ frm = 0 ∧ next = 0 ∧ nb = 0 ∧ na = 0 ∧ nr = 0 ∧ nd = 0) = false from decide_eq_false fun h => h2 (by first | exact h.1 | (simp only [true_and] at h; first | exact h.1 | exact h))]
        have g : (id == 0) = false := by simp [h2]
        clear h2
        go_enter Try.func41, Try.ntmps41
        go_wp2
        go_ret
        exact ⟨by simp, (Kept.refl [] w).alloc _⟩
    · rw [show decide ((0 : Int) = 0 ∧ prev = 0 ∧ id = 0 ∧ page = 0 ∧ frm = 0 ∧ next = 0 ∧ nb = 0 ∧ na = 0 ∧ nr = 0 ∧ nd = 0) = false from decide_eq_false fun h => h1 (by first | exact h.1 | (simp only [true_and] at h; first | exact h.1 | exact h))]
      have g : (prev == 0) = false := by simp [h1]
      clear h1
      go_enter Try.func41, Try.ntmps41
      go_wp2
      go_ret
      exact ⟨by simp, (Kept.refl [] w).alloc _⟩
  · rw [show decide (birth = 0 ∧ prev = 0 ∧ id = 0 ∧ page = 0 ∧ frm = 0 ∧ next = 0 ∧ nb = 0 ∧ na = 0 ∧ nr = 0 ∧ nd = 0) = false from decide_eq_false fun h => h0 (by first | exact h.1 | (simp only [true_and] at h; first | exact h.1 | exact h))]
    have g : (birth == 0) = false := by simp [h0]
    clear h0
    go_enter Try.func41, Try.ntmps41
    go_wp2
    go_ret
    exact ⟨by simp, (Kept.refl [] w).alloc _⟩
theorem pBlankB (kind birth prev id page frm next : Int) (pb pa pr pd : Option Addr) (nb cb na ca nr cr nd cd : Nat) (B : Bool) (hB : B = decide (birth = 0 ∧ prev = 0 ∧ id = 0 ∧ page = 0 ∧ frm = 0 ∧ next = 0 ∧ nb = 0 ∧ na = 0 ∧ nr = 0 ∧ nd = 0)) (w : World) : Calls Try.prog 41 #[.agg #[.int .i64 kind, .int .i64 birth, .int .i64 prev, .int .i64 id, .int .i64 page, .int .i64 frm, .slice pb nb cb, .slice pa na ca, .int .i64 next, .slice pr nr cr, .slice pd nd cd]] w fun e w' => e = .returned (.bool B) ∧ Kept [] w w' := by
  rw [hB]
  exact pBlank kind birth prev id page frm next pb pa pr pd nb cb na ca nr cr nd cd w
set_option maxHeartbeats 1600000 in
theorem pRange (V : RV) (r : Rcd) (w : World) (h : SeeR w V r) : Calls Try.prog 44 #[r.agg V] w fun e w' => e = .returned (.bool (bl (rangedOk r))) ∧ Kept [] w w' := by
  obtain ⟨pb, cb, pa, ca, pr, cr, pd, cd, rfl⟩ := h.shapes
  have hal : after_len r.after.length := (by obtain ⟨_, _, e, h1, h2, _⟩ := h.after; cases e; exact Nat.le_trans h1 h2)
  obtain ⟨kind, birth, prev, id, page, frm, before, after, next, rows, dirty⟩ := r
  clear h
  unfold Rcd.agg
  dsimp only at hal ⊢
  obtain ⟨n, hn⟩ : ∃ n, n = after.length := ⟨_, rfl⟩
  have R : rangedOk ⟨kind, birth, prev, id, page, frm, before, after, next, rows, dirty⟩ ↔ (pageOk page ∧ 0 < n ∧ 16 ≤ frm ∧ frm ≤ 144 - (n : Int)) := by rw [hn]; unfold rangedOk pageOk; simp only; omega
  have wn : IntKind.i64.wrap (144 - (n : Int)) = 144 - (n : Int) := wrap_i64_of (by unfold after_len maxLen at hal; omega) (by omega)
  rw [← hn]
  have HN := @hideH _ (And.intro hn hal)
  clear hn hal
  have F : ∀ {P : Prop}, (rangedOk ⟨kind, birth, prev, id, page, frm, before, after, next, rows, dirty⟩ → P) → ¬ P → bl (rangedOk ⟨kind, birth, prev, id, page, frm, before, after, next, rows, dirty⟩) = false := fun h1 h2 => bl_f fun h => h2 (h1 h)
  have hp := fun w => pIsPage page w
  by_cases h1 : pageOk page
  · skip
    by_cases h2 : 0 < n
    · skip
      by_cases h3 : 16 ≤ frm
      · skip
        by_cases h4 : frm ≤ 144 - (n : Int)
        · skip
          rw [bl_t (R.2 ⟨h1, h2, h3, h4⟩)]
          rw [bl_t h1] at hp
          clear F R h1
          have h2' : (0 : Int) < (n : Int) := by omega
          go_enter Try.func44, Try.ntmps44
          go_wp2_with fail
          refine (hp _).mono ?_
          rintro e wq ⟨rfl, rfl⟩
          go_wp2
          go_ret
          exact ⟨by simp <;> omega, (Kept.refl [] w).alloc _⟩
        · rw [F (fun h => (R.1 h).2.2.2) h4]
          rw [bl_t h1] at hp
          clear F R h1
          have h2' : (0 : Int) < (n : Int) := by omega
          go_enter Try.func44, Try.ntmps44
          go_wp2_with fail
          refine (hp _).mono ?_
          rintro e wq ⟨rfl, rfl⟩
          go_wp2
          go_ret
          exact ⟨by simp <;> omega, (Kept.refl [] w).alloc _⟩
      · rw [F (fun h => (R.1 h).2.2.1) h3]
        rw [bl_t h1] at hp
        clear F R h1
        have h2' : (0 : Int) < (n : Int) := by omega
        go_enter Try.func44, Try.ntmps44
        go_wp2_with fail
        refine (hp _).mono ?_
        rintro e wq ⟨rfl, rfl⟩
        go_wp2
        go_ret
        exact ⟨by simp <;> omega, (Kept.refl [] w).alloc _⟩
    · rw [F (fun h => (R.1 h).2.1) h2]
      rw [bl_t h1] at hp
      clear F R h1
      have h2' : ¬ (0 : Int) < (n : Int) := by omega
      go_enter Try.func44, Try.ntmps44
      go_wp2_with fail
      refine (hp _).mono ?_
      rintro e wq ⟨rfl, rfl⟩
      go_wp2
      go_ret
      exact ⟨by simp <;> omega, (Kept.refl [] w).alloc _⟩
  · rw [F (fun h => (R.1 h).1) h1]
    rw [bl_f h1] at hp
    clear F R h1
    go_enter Try.func44, Try.ntmps44
    go_wp2_with fail
    refine (hp _).mono ?_
    rintro e wq ⟨rfl, rfl⟩
    go_wp2
    go_ret
    exact ⟨by simp <;> omega, (Kept.refl [] w).alloc _⟩
end Go.Proofs.Ytebcmcmboomgfaa

/-
  OWN WORK (by mkpr3.py). record: isRight, kind 1.
-/
namespace Go.Proofs.Ytebcmcmboomgfaa
open Go.RowKit
set_option linter.unusedVariables false
set_option linter.unusedSimpArgs false

set_option maxRecDepth 20000 in
set_option maxHeartbeats 6400000 in
theorem qRight_1 (V : RV) (birth prev id page frm : Int) (before after : List UInt8) (next : Int) (rows : List RowR) (dirty : List RecR) (w : World) (h : SeeR w V (⟨1, birth, prev, id, page, frm, before, after, next, rows, dirty⟩ : Rcd)) : Calls Try.prog 27 #[(⟨1, birth, prev, id, page, frm, before, after, next, rows, dirty⟩ : Rcd).agg V] w fun e w' => e = .returned (.bool (bl (⟨1, birth, prev, id, page, frm, before, after, next, rows, dirty⟩ : Rcd).Right)) ∧ Kept [] w w' := by
  obtain ⟨pb, cb, pa, ca, pr, cr, pd, cd, rfl⟩ := h.shapes
  obtain ⟨B, hB⟩ : ∃ B, B = decide (birth = 0 ∧ prev = 0 ∧ (0 : Int) = 0 ∧ page = 0 ∧ frm = 0 ∧ next = 0 ∧ before.length = 0 ∧ after.length = 0 ∧ rows.length = 0 ∧ dirty.length = 0) := ⟨_, rfl⟩
  have hb := fun wz => pBlankB 1 birth prev 0 page frm next pb pa pr pd before.length cb after.length ca rows.length cr dirty.length cd B hB wz
  have RI : (⟨1, birth, prev, id, page, frm, before, after, next, rows, dirty⟩ : Rcd).Right ↔ B = true ∧ idOk id := by
    have e : (⟨1, birth, prev, id, page, frm, before, after, next, rows, dirty⟩ : Rcd).Right ↔ (birth = 0 ∧ prev = 0) ∧ (1 ≤ id ∧ id ≤ 64) ∧ (rows = [] ∧ dirty = []) ∧ next = 0 ∧ (page = 0 ∧ frm = 0 ∧ after = []) ∧ before = [] := by unfold Rcd.Right; simp
    rw [e, hB]
    constructor
    · rintro ⟨a0, a1, a2, a3, a4, a5⟩
      exact ⟨decide_eq_true ⟨a0.1, a0.2, rfl, a4.1, a4.2.1, a3, (by rw [a5]; rfl), (by rw [a4.2.2]; rfl), (by rw [a2.1]; rfl), (by rw [a2.2]; rfl)⟩, a1⟩
    · rintro ⟨hd, s0⟩
      have q := of_decide_eq_true hd
      exact ⟨⟨q.1, q.2.1⟩, s0, ⟨List.eq_nil_of_length_eq_zero q.2.2.2.2.2.2.2.2.1, List.eq_nil_of_length_eq_zero q.2.2.2.2.2.2.2.2.2⟩, q.2.2.2.2.2.1, ⟨q.2.2.2.1, q.2.2.2.2.1, List.eq_nil_of_length_eq_zero q.2.2.2.2.2.2.2.1⟩, List.eq_nil_of_length_eq_zero q.2.2.2.2.2.2.1⟩
  clear hB
  have ho := fun wz => pOwned (⟨.slice pb before.length cb, .slice pa after.length ca, .slice pr rows.length cr, .slice pd dirty.length cd⟩ : RV) (⟨1, birth, prev, id, page, frm, before, after, next, rows, dirty⟩ : Rcd) wz
  have hr := fun wz (kz : Kept [] w wz) => pRange _ (⟨1, birth, prev, id, page, frm, before, after, next, rows, dirty⟩ : Rcd) wz (h.kept kz)
  have hp := fun wz (kz : Kept [] w wz) (hn : 0 < after.length) => pParts _ _ before after wz (h.before.kept kz) (h.after.kept kz) hn
  have hn := fun wz => pIsNext next wz
  have hi := fun wz => pIsId id wz
  have ht := fun wz (kz : Kept [] w wz) => qTable _ rows wz (h.rows.kept kz)
  have hd := fun wz (kz : Kept [] w wz) => qDirty _ dirty wz (h.dirty.kept kz)
  clear h
  unfold Rcd.agg at ho hr ⊢
  dsimp only at ho hr hp ht hd ⊢
  obtain ⟨Q, hQ⟩ : ∃ Q, Q = bl (⟨1, birth, prev, id, page, frm, before, after, next, rows, dirty⟩ : Rcd).Right := ⟨_, rfl⟩
  rw [← hQ]
  have HQ := @hideH _ (show (¬ (B = true ∧ idOk id) → Q = false) ∧ ((B = true ∧ idOk id) → Q = true) from ⟨fun h => by rw [hQ]; exact bl_f fun q => h (RI.1 q), fun h => by rw [hQ]; exact bl_t (RI.2 h)⟩)
  clear hQ RI
  clear ho
  clear hr
  clear hp
  clear hn
  clear ht
  clear hd
  obtain ⟨wa, hwa⟩ : ∃ wa, wa = w.alloc (.cells #[.int .i64 1, .int .i64 birth, .int .i64 prev, .int .i64 id, .int .i64 page, .int .i64 frm, .slice pb before.length cb, .slice pa after.length ca, .int .i64 next, .slice pr rows.length cr, .slice pd dirty.length cd] 26) := ⟨_, rfl⟩
  have ba : Blk wa w.heap.size 26 [.int .i64 1, .int .i64 birth, .int .i64 prev, .int .i64 id, .int .i64 page, .int .i64 frm, .slice pb before.length cb, .slice pa after.length ca, .int .i64 next, .slice pr rows.length cr, .slice pd dirty.length cd] := by rw [hwa]; exact Blk.new w _ _
  have ka : Kept [] w wa := by rw [hwa]; exact (Kept.refl [] w).alloc _
  have HA := @hideH _ (And.intro hwa (And.intro ba ka))
  clear hwa ba ka
  go_enter Try.func27, Try.ntmps27
  go_wp2_with fail
  rw [← HA.out.1]
  refine (hb _).mono ?_
  rintro e w1 ⟨rfl, k1⟩
  clear hb
  have b1 := (HA.out.2.1.kept ((Kept.refl [] wa).alloc _) (by simp)).kept k1 (by simp)
  have K1 := (HA.out.2.2.alloc _).then k1
  have c0 := b1.cell (j := 0) rfl
  have c1 := b1.cell (j := 1) rfl
  have c2 := b1.cell (j := 2) rfl
  have c3 := b1.cell (j := 3) rfl
  have c4 := b1.cell (j := 4) rfl
  have c5 := b1.cell (j := 5) rfl
  have c6 := b1.cell (j := 6) rfl
  have c7 := b1.cell (j := 7) rfl
  have c8 := b1.cell (j := 8) rfl
  have c9 := b1.cell (j := 9) rfl
  have c10 := b1.cell (j := 10) rfl
  clear b1 k1
  cases B with
  | false =>
    have eQ := @hideH _ (HQ.out.1 fun h => by cases h.1)
    have KE := @hideH _ K1
    clear K1
    go_wp2
    go_ret
    exact ⟨by rw [eQ.out]; rfl, KE.out⟩
  | true =>
    by_cases g0 : idOk id
    · simp only [bl_t g0] at hi
      have q0 := @hideH _ g0
      clear g0
      go_wp2_with fail
      refine (hi _).mono ?_
      rintro e wq ⟨rfl, rfl⟩
      clear hi
      have eQ := @hideH _ (HQ.out.2 ⟨by trivial, q0.out⟩)
      have KE := @hideH _ K1
      clear K1
      go_wp2
      go_ret
      exact ⟨by rw [eQ.out]; rfl, KE.out⟩
    · simp only [bl_f g0] at hi
      have eQ := @hideH _ (HQ.out.1 fun h => g0 (h.2))
      clear g0
      go_wp2_with fail
      refine (hi _).mono ?_
      rintro e wq ⟨rfl, rfl⟩
      clear hi
      have KE := @hideH _ K1
      clear K1
      go_wp2
      go_ret
      exact ⟨by rw [eQ.out]; rfl, KE.out⟩
end Go.Proofs.Ytebcmcmboomgfaa

/-
  OWN WORK (by mkpr3.py). record: isRight, kind 2.
-/
namespace Go.Proofs.Ytebcmcmboomgfaa
open Go.RowKit
set_option linter.unusedVariables false
set_option linter.unusedSimpArgs false

set_option maxRecDepth 20000 in
set_option maxHeartbeats 6400000 in
theorem qRight_2 (V : RV) (birth prev id page frm : Int) (before after : List UInt8) (next : Int) (rows : List RowR) (dirty : List RecR) (w : World) (h : SeeR w V (⟨2, birth, prev, id, page, frm, before, after, next, rows, dirty⟩ : Rcd)) : Calls Try.prog 27 #[(⟨2, birth, prev, id, page, frm, before, after, next, rows, dirty⟩ : Rcd).agg V] w fun e w' => e = .returned (.bool (bl (⟨2, birth, prev, id, page, frm, before, after, next, rows, dirty⟩ : Rcd).Right)) ∧ Kept [] w w' := by
  obtain ⟨pb, cb, pa, ca, pr, cr, pd, cd, rfl⟩ := h.shapes
  obtain ⟨B, hB⟩ : ∃ B, B = decide ((0 : Int) = 0 ∧ (0 : Int) = 0 ∧ id = 0 ∧ (0 : Int) = 0 ∧ (0 : Int) = 0 ∧ next = 0 ∧ (0 : Nat) = 0 ∧ (0 : Nat) = 0 ∧ rows.length = 0 ∧ dirty.length = 0) := ⟨_, rfl⟩
  have hb := fun wz => pBlankB 2 0 0 id 0 0 next none none pr pd 0 0 0 0 rows.length cr dirty.length cd B hB wz
  have RI : (⟨2, birth, prev, id, page, frm, before, after, next, rows, dirty⟩ : Rcd).Right ↔ B = true ∧ ownedOk (⟨2, birth, prev, id, page, frm, before, after, next, rows, dirty⟩ : Rcd) ∧ rangedOk (⟨2, birth, prev, id, page, frm, before, after, next, rows, dirty⟩ : Rcd) ∧ partsL before after := by
    have e : (⟨2, birth, prev, id, page, frm, before, after, next, rows, dirty⟩ : Rcd).Right ↔ (lsnOk birth ∧ lsnOk prev) ∧ id = 0 ∧ (rows = [] ∧ dirty = []) ∧ next = 0 ∧ rangedOk (⟨2, birth, prev, id, page, frm, before, after, next, rows, dirty⟩ : Rcd) ∧ partsOk (⟨2, birth, prev, id, page, frm, before, after, next, rows, dirty⟩ : Rcd) := by unfold Rcd.Right; simp
    rw [e, hB]
    constructor
    · rintro ⟨a0, a1, a2, a3, a4, a5⟩
      exact ⟨decide_eq_true ⟨rfl, rfl, a1, rfl, rfl, a3, rfl, rfl, (by rw [a2.1]; rfl), (by rw [a2.2]; rfl)⟩, a0, a4, a5⟩
    · rintro ⟨hd, s0, s1, s2⟩
      have q := of_decide_eq_true hd
      exact ⟨s0, q.2.2.1, ⟨List.eq_nil_of_length_eq_zero q.2.2.2.2.2.2.2.2.1, List.eq_nil_of_length_eq_zero q.2.2.2.2.2.2.2.2.2⟩, q.2.2.2.2.2.1, s1, s2⟩
  clear hB
  have ho := fun wz => pOwned (⟨.slice pb before.length cb, .slice pa after.length ca, .slice pr rows.length cr, .slice pd dirty.length cd⟩ : RV) (⟨2, birth, prev, id, page, frm, before, after, next, rows, dirty⟩ : Rcd) wz
  have hr := fun wz (kz : Kept [] w wz) => pRange _ (⟨2, birth, prev, id, page, frm, before, after, next, rows, dirty⟩ : Rcd) wz (h.kept kz)
  have hp := fun wz (kz : Kept [] w wz) (hn : 0 < after.length) => pParts _ _ before after wz (h.before.kept kz) (h.after.kept kz) hn
  have hn := fun wz => pIsNext next wz
  have hi := fun wz => pIsId id wz
  have ht := fun wz (kz : Kept [] w wz) => qTable _ rows wz (h.rows.kept kz)
  have hd := fun wz (kz : Kept [] w wz) => qDirty _ dirty wz (h.dirty.kept kz)
  clear h
  unfold Rcd.agg at ho hr ⊢
  dsimp only at ho hr hp ht hd ⊢
  obtain ⟨Q, hQ⟩ : ∃ Q, Q = bl (⟨2, birth, prev, id, page, frm, before, after, next, rows, dirty⟩ : Rcd).Right := ⟨_, rfl⟩
  rw [← hQ]
  have HQ := @hideH _ (show (¬ (B = true ∧ ownedOk (⟨2, birth, prev, id, page, frm, before, after, next, rows, dirty⟩ : Rcd) ∧ rangedOk (⟨2, birth, prev, id, page, frm, before, after, next, rows, dirty⟩ : Rcd) ∧ partsL before after) → Q = false) ∧ ((B = true ∧ ownedOk (⟨2, birth, prev, id, page, frm, before, after, next, rows, dirty⟩ : Rcd) ∧ rangedOk (⟨2, birth, prev, id, page, frm, before, after, next, rows, dirty⟩ : Rcd) ∧ partsL before after) → Q = true) from ⟨fun h => by rw [hQ]; exact bl_f fun q => h (RI.1 q), fun h => by rw [hQ]; exact bl_t (RI.2 h)⟩)
  clear hQ RI
  clear hn
  clear hi
  clear ht
  clear hd
  obtain ⟨wa, hwa⟩ : ∃ wa, wa = w.alloc (.cells #[.int .i64 2, .int .i64 birth, .int .i64 prev, .int .i64 id, .int .i64 page, .int .i64 frm, .slice pb before.length cb, .slice pa after.length ca, .int .i64 next, .slice pr rows.length cr, .slice pd dirty.length cd] 26) := ⟨_, rfl⟩
  have ba : Blk wa w.heap.size 26 [.int .i64 2, .int .i64 birth, .int .i64 prev, .int .i64 id, .int .i64 page, .int .i64 frm, .slice pb before.length cb, .slice pa after.length ca, .int .i64 next, .slice pr rows.length cr, .slice pd dirty.length cd] := by rw [hwa]; exact Blk.new w _ _
  have ka : Kept [] w wa := by rw [hwa]; exact (Kept.refl [] w).alloc _
  have HA := @hideH _ (And.intro hwa (And.intro ba ka))
  clear hwa ba ka
  go_enter Try.func27, Try.ntmps27
  go_wp2_with fail
  rw [← HA.out.1]
  refine (hb _).mono ?_
  rintro e w1 ⟨rfl, k1⟩
  clear hb
  have b1 := (HA.out.2.1.kept ((Kept.refl [] wa).alloc _) (by simp)).kept k1 (by simp)
  have K1 := (HA.out.2.2.alloc _).then k1
  have c0 := b1.cell (j := 0) rfl
  have c1 := b1.cell (j := 1) rfl
  have c2 := b1.cell (j := 2) rfl
  have c3 := b1.cell (j := 3) rfl
  have c4 := b1.cell (j := 4) rfl
  have c5 := b1.cell (j := 5) rfl
  have c6 := b1.cell (j := 6) rfl
  have c7 := b1.cell (j := 7) rfl
  have c8 := b1.cell (j := 8) rfl
  have c9 := b1.cell (j := 9) rfl
  have c10 := b1.cell (j := 10) rfl
  clear b1 k1
  cases B with
  | false =>
    have eQ := @hideH _ (HQ.out.1 fun h => by cases h.1)
    have KE := @hideH _ K1
    clear K1
    go_wp2
    go_ret
    exact ⟨by rw [eQ.out]; rfl, KE.out⟩
  | true =>
    by_cases g0 : ownedOk (⟨2, birth, prev, id, page, frm, before, after, next, rows, dirty⟩ : Rcd)
    · simp only [bl_t g0] at ho
      have q0 := @hideH _ g0
      clear g0
      go_wp2_with fail
      refine (ho _).mono ?_
      rintro e w2 ⟨rfl, kn⟩
      clear ho
      replace c0 := kn.cell c0 (by simp)
      replace c1 := kn.cell c1 (by simp)
      replace c2 := kn.cell c2 (by simp)
      replace c3 := kn.cell c3 (by simp)
      replace c4 := kn.cell c4 (by simp)
      replace c5 := kn.cell c5 (by simp)
      replace c6 := kn.cell c6 (by simp)
      replace c7 := kn.cell c7 (by simp)
      replace c8 := kn.cell c8 (by simp)
      replace c9 := kn.cell c9 (by simp)
      replace c10 := kn.cell c10 (by simp)
      have K2 := K1.then kn
      clear kn K1
      by_cases g1 : rangedOk (⟨2, birth, prev, id, page, frm, before, after, next, rows, dirty⟩ : Rcd)
      · simp only [bl_t g1] at hr
        have q1 := @hideH _ g1
        clear g1
        go_wp2_with fail
        refine (hr _ K2).mono ?_
        rintro e w3 ⟨rfl, kn⟩
        clear hr
        replace c0 := kn.cell c0 (by simp)
        replace c1 := kn.cell c1 (by simp)
        replace c2 := kn.cell c2 (by simp)
        replace c3 := kn.cell c3 (by simp)
        replace c4 := kn.cell c4 (by simp)
        replace c5 := kn.cell c5 (by simp)
        replace c6 := kn.cell c6 (by simp)
        replace c7 := kn.cell c7 (by simp)
        replace c8 := kn.cell c8 (by simp)
        replace c9 := kn.cell c9 (by simp)
        replace c10 := kn.cell c10 (by simp)
        have K3 := K2.then kn
        clear kn K2
        by_cases g2 : partsL before after
        · simp only [bl_t g2] at hp
          have q2 := @hideH _ g2
          clear g2
          have H1 : 0 < after.length := q1.out.2.1.1
          replace hp := fun wz kz => hp wz kz H1
          clear H1
          go_wp2_with fail
          refine (hp _ K3).mono ?_
          rintro e w4 ⟨rfl, kn⟩
          clear hp
          replace c0 := kn.cell c0 (by simp)
          replace c1 := kn.cell c1 (by simp)
          replace c2 := kn.cell c2 (by simp)
          replace c3 := kn.cell c3 (by simp)
          replace c4 := kn.cell c4 (by simp)
          replace c5 := kn.cell c5 (by simp)
          replace c6 := kn.cell c6 (by simp)
          replace c7 := kn.cell c7 (by simp)
          replace c8 := kn.cell c8 (by simp)
          replace c9 := kn.cell c9 (by simp)
          replace c10 := kn.cell c10 (by simp)
          have K4 := K3.then kn
          clear kn K3
          have eQ := @hideH _ (HQ.out.2 ⟨by trivial, q0.out, q1.out, q2.out⟩)
          have KE := @hideH _ K4
          clear K4
          go_wp2
          go_ret
          exact ⟨by rw [eQ.out]; rfl, KE.out⟩
        · simp only [bl_f g2] at hp
          have eQ := @hideH _ (HQ.out.1 fun h => g2 (h.2.2.2))
          clear g2
          have H1 : 0 < after.length := q1.out.2.1.1
          replace hp := fun wz kz => hp wz kz H1
          clear H1
          go_wp2_with fail
          refine (hp _ K3).mono ?_
          rintro e w4 ⟨rfl, kn⟩
          clear hp
          replace c0 := kn.cell c0 (by simp)
          replace c1 := kn.cell c1 (by simp)
          replace c2 := kn.cell c2 (by simp)
          replace c3 := kn.cell c3 (by simp)
          replace c4 := kn.cell c4 (by simp)
          replace c5 := kn.cell c5 (by simp)
          replace c6 := kn.cell c6 (by simp)
          replace c7 := kn.cell c7 (by simp)
          replace c8 := kn.cell c8 (by simp)
          replace c9 := kn.cell c9 (by simp)
          replace c10 := kn.cell c10 (by simp)
          have K4 := K3.then kn
          clear kn K3
          have KE := @hideH _ K4
          clear K4
          go_wp2
          go_ret
          exact ⟨by rw [eQ.out]; rfl, KE.out⟩
      · simp only [bl_f g1] at hr
        have eQ := @hideH _ (HQ.out.1 fun h => g1 (h.2.2.1))
        clear g1
        go_wp2_with fail
        refine (hr _ K2).mono ?_
        rintro e w3 ⟨rfl, kn⟩
        clear hr
        replace c0 := kn.cell c0 (by simp)
        replace c1 := kn.cell c1 (by simp)
        replace c2 := kn.cell c2 (by simp)
        replace c3 := kn.cell c3 (by simp)
        replace c4 := kn.cell c4 (by simp)
        replace c5 := kn.cell c5 (by simp)
        replace c6 := kn.cell c6 (by simp)
        replace c7 := kn.cell c7 (by simp)
        replace c8 := kn.cell c8 (by simp)
        replace c9 := kn.cell c9 (by simp)
        replace c10 := kn.cell c10 (by simp)
        have K3 := K2.then kn
        clear kn K2
        have KE := @hideH _ K3
        clear K3
        go_wp2
        go_ret
        exact ⟨by rw [eQ.out]; rfl, KE.out⟩
    · simp only [bl_f g0] at ho
      have eQ := @hideH _ (HQ.out.1 fun h => g0 (h.2.1))
      clear g0
      go_wp2_with fail
      refine (ho _).mono ?_
      rintro e w2 ⟨rfl, kn⟩
      clear ho
      replace c0 := kn.cell c0 (by simp)
      replace c1 := kn.cell c1 (by simp)
      replace c2 := kn.cell c2 (by simp)
      replace c3 := kn.cell c3 (by simp)
      replace c4 := kn.cell c4 (by simp)
      replace c5 := kn.cell c5 (by simp)
      replace c6 := kn.cell c6 (by simp)
      replace c7 := kn.cell c7 (by simp)
      replace c8 := kn.cell c8 (by simp)
      replace c9 := kn.cell c9 (by simp)
      replace c10 := kn.cell c10 (by simp)
      have K2 := K1.then kn
      clear kn K1
      have KE := @hideH _ K2
      clear K2
      go_wp2
      go_ret
      exact ⟨by rw [eQ.out]; rfl, KE.out⟩
end Go.Proofs.Ytebcmcmboomgfaa

/-
  OWN WORK (by mkpr3.py). record: isRight, kind 3.
-/
namespace Go.Proofs.Ytebcmcmboomgfaa
open Go.RowKit
set_option linter.unusedVariables false
set_option linter.unusedSimpArgs false

set_option maxRecDepth 20000 in
set_option maxHeartbeats 6400000 in
theorem qRight_3 (V : RV) (birth prev id page frm : Int) (before after : List UInt8) (next : Int) (rows : List RowR) (dirty : List RecR) (w : World) (h : SeeR w V (⟨3, birth, prev, id, page, frm, before, after, next, rows, dirty⟩ : Rcd)) : Calls Try.prog 27 #[(⟨3, birth, prev, id, page, frm, before, after, next, rows, dirty⟩ : Rcd).agg V] w fun e w' => e = .returned (.bool (bl (⟨3, birth, prev, id, page, frm, before, after, next, rows, dirty⟩ : Rcd).Right)) ∧ Kept [] w w' := by
  obtain ⟨pb, cb, pa, ca, pr, cr, pd, cd, rfl⟩ := h.shapes
  obtain ⟨B, hB⟩ : ∃ B, B = decide ((0 : Int) = 0 ∧ (0 : Int) = 0 ∧ id = 0 ∧ (0 : Int) = 0 ∧ (0 : Int) = 0 ∧ (0 : Int) = 0 ∧ before.length = 0 ∧ (0 : Nat) = 0 ∧ rows.length = 0 ∧ dirty.length = 0) := ⟨_, rfl⟩
  have hb := fun wz => pBlankB 3 0 0 id 0 0 0 pb none pr pd before.length cb 0 0 rows.length cr dirty.length cd B hB wz
  have RI : (⟨3, birth, prev, id, page, frm, before, after, next, rows, dirty⟩ : Rcd).Right ↔ B = true ∧ ownedOk (⟨3, birth, prev, id, page, frm, before, after, next, rows, dirty⟩ : Rcd) ∧ rangedOk (⟨3, birth, prev, id, page, frm, before, after, next, rows, dirty⟩ : Rcd) ∧ nextOk next := by
    have e : (⟨3, birth, prev, id, page, frm, before, after, next, rows, dirty⟩ : Rcd).Right ↔ (lsnOk birth ∧ lsnOk prev) ∧ id = 0 ∧ (rows = [] ∧ dirty = []) ∧ nextOk next ∧ rangedOk (⟨3, birth, prev, id, page, frm, before, after, next, rows, dirty⟩ : Rcd) ∧ before = [] := by unfold Rcd.Right; simp
    rw [e, hB]
    constructor
    · rintro ⟨a0, a1, a2, a3, a4, a5⟩
      exact ⟨decide_eq_true ⟨rfl, rfl, a1, rfl, rfl, rfl, (by rw [a5]; rfl), rfl, (by rw [a2.1]; rfl), (by rw [a2.2]; rfl)⟩, a0, a4, a3⟩
    · rintro ⟨hd, s0, s1, s2⟩
      have q := of_decide_eq_true hd
      exact ⟨s0, q.2.2.1, ⟨List.eq_nil_of_length_eq_zero q.2.2.2.2.2.2.2.2.1, List.eq_nil_of_length_eq_zero q.2.2.2.2.2.2.2.2.2⟩, s2, s1, List.eq_nil_of_length_eq_zero q.2.2.2.2.2.2.1⟩
  clear hB
  have ho := fun wz => pOwned (⟨.slice pb before.length cb, .slice pa after.length ca, .slice pr rows.length cr, .slice pd dirty.length cd⟩ : RV) (⟨3, birth, prev, id, page, frm, before, after, next, rows, dirty⟩ : Rcd) wz
  have hr := fun wz (kz : Kept [] w wz) => pRange _ (⟨3, birth, prev, id, page, frm, before, after, next, rows, dirty⟩ : Rcd) wz (h.kept kz)
  have hp := fun wz (kz : Kept [] w wz) (hn : 0 < after.length) => pParts _ _ before after wz (h.before.kept kz) (h.after.kept kz) hn
  have hn := fun wz => pIsNext next wz
  have hi := fun wz => pIsId id wz
  have ht := fun wz (kz : Kept [] w wz) => qTable _ rows wz (h.rows.kept kz)
  have hd := fun wz (kz : Kept [] w wz) => qDirty _ dirty wz (h.dirty.kept kz)
  clear h
  unfold Rcd.agg at ho hr ⊢
  dsimp only at ho hr hp ht hd ⊢
  obtain ⟨Q, hQ⟩ : ∃ Q, Q = bl (⟨3, birth, prev, id, page, frm, before, after, next, rows, dirty⟩ : Rcd).Right := ⟨_, rfl⟩
  rw [← hQ]
  have HQ := @hideH _ (show (¬ (B = true ∧ ownedOk (⟨3, birth, prev, id, page, frm, before, after, next, rows, dirty⟩ : Rcd) ∧ rangedOk (⟨3, birth, prev, id, page, frm, before, after, next, rows, dirty⟩ : Rcd) ∧ nextOk next) → Q = false) ∧ ((B = true ∧ ownedOk (⟨3, birth, prev, id, page, frm, before, after, next, rows, dirty⟩ : Rcd) ∧ rangedOk (⟨3, birth, prev, id, page, frm, before, after, next, rows, dirty⟩ : Rcd) ∧ nextOk next) → Q = true) from ⟨fun h => by rw [hQ]; exact bl_f fun q => h (RI.1 q), fun h => by rw [hQ]; exact bl_t (RI.2 h)⟩)
  clear hQ RI
  clear hp
  clear hi
  clear ht
  clear hd
  obtain ⟨wa, hwa⟩ : ∃ wa, wa = w.alloc (.cells #[.int .i64 3, .int .i64 birth, .int .i64 prev, .int .i64 id, .int .i64 page, .int .i64 frm, .slice pb before.length cb, .slice pa after.length ca, .int .i64 next, .slice pr rows.length cr, .slice pd dirty.length cd] 26) := ⟨_, rfl⟩
  have ba : Blk wa w.heap.size 26 [.int .i64 3, .int .i64 birth, .int .i64 prev, .int .i64 id, .int .i64 page, .int .i64 frm, .slice pb before.length cb, .slice pa after.length ca, .int .i64 next, .slice pr rows.length cr, .slice pd dirty.length cd] := by rw [hwa]; exact Blk.new w _ _
  have ka : Kept [] w wa := by rw [hwa]; exact (Kept.refl [] w).alloc _
  have HA := @hideH _ (And.intro hwa (And.intro ba ka))
  clear hwa ba ka
  go_enter Try.func27, Try.ntmps27
  go_wp2_with fail
  rw [← HA.out.1]
  refine (hb _).mono ?_
  rintro e w1 ⟨rfl, k1⟩
  clear hb
  have b1 := (HA.out.2.1.kept ((Kept.refl [] wa).alloc _) (by simp)).kept k1 (by simp)
  have K1 := (HA.out.2.2.alloc _).then k1
  have c0 := b1.cell (j := 0) rfl
  have c1 := b1.cell (j := 1) rfl
  have c2 := b1.cell (j := 2) rfl
  have c3 := b1.cell (j := 3) rfl
  have c4 := b1.cell (j := 4) rfl
  have c5 := b1.cell (j := 5) rfl
  have c6 := b1.cell (j := 6) rfl
  have c7 := b1.cell (j := 7) rfl
  have c8 := b1.cell (j := 8) rfl
  have c9 := b1.cell (j := 9) rfl
  have c10 := b1.cell (j := 10) rfl
  clear b1 k1
  cases B with
  | false =>
    have eQ := @hideH _ (HQ.out.1 fun h => by cases h.1)
    have KE := @hideH _ K1
    clear K1
    go_wp2
    go_ret
    exact ⟨by rw [eQ.out]; rfl, KE.out⟩
  | true =>
    by_cases g0 : ownedOk (⟨3, birth, prev, id, page, frm, before, after, next, rows, dirty⟩ : Rcd)
    · simp only [bl_t g0] at ho
      have q0 := @hideH _ g0
      clear g0
      go_wp2_with fail
      refine (ho _).mono ?_
      rintro e w2 ⟨rfl, kn⟩
      clear ho
      replace c0 := kn.cell c0 (by simp)
      replace c1 := kn.cell c1 (by simp)
      replace c2 := kn.cell c2 (by simp)
      replace c3 := kn.cell c3 (by simp)
      replace c4 := kn.cell c4 (by simp)
      replace c5 := kn.cell c5 (by simp)
      replace c6 := kn.cell c6 (by simp)
      replace c7 := kn.cell c7 (by simp)
      replace c8 := kn.cell c8 (by simp)
      replace c9 := kn.cell c9 (by simp)
      replace c10 := kn.cell c10 (by simp)
      have K2 := K1.then kn
      clear kn K1
      by_cases g1 : rangedOk (⟨3, birth, prev, id, page, frm, before, after, next, rows, dirty⟩ : Rcd)
      · simp only [bl_t g1] at hr
        have q1 := @hideH _ g1
        clear g1
        go_wp2_with fail
        refine (hr _ K2).mono ?_
        rintro e w3 ⟨rfl, kn⟩
        clear hr
        replace c0 := kn.cell c0 (by simp)
        replace c1 := kn.cell c1 (by simp)
        replace c2 := kn.cell c2 (by simp)
        replace c3 := kn.cell c3 (by simp)
        replace c4 := kn.cell c4 (by simp)
        replace c5 := kn.cell c5 (by simp)
        replace c6 := kn.cell c6 (by simp)
        replace c7 := kn.cell c7 (by simp)
        replace c8 := kn.cell c8 (by simp)
        replace c9 := kn.cell c9 (by simp)
        replace c10 := kn.cell c10 (by simp)
        have K3 := K2.then kn
        clear kn K2
        by_cases g2 : nextOk next
        · simp only [bl_t g2] at hn
          have q2 := @hideH _ g2
          clear g2
          go_wp2_with fail
          refine (hn _).mono ?_
          rintro e wq ⟨rfl, rfl⟩
          clear hn
          have eQ := @hideH _ (HQ.out.2 ⟨by trivial, q0.out, q1.out, q2.out⟩)
          have KE := @hideH _ K3
          clear K3
          go_wp2
          go_ret
          exact ⟨by rw [eQ.out]; rfl, KE.out⟩
        · simp only [bl_f g2] at hn
          have eQ := @hideH _ (HQ.out.1 fun h => g2 (h.2.2.2))
          clear g2
          go_wp2_with fail
          refine (hn _).mono ?_
          rintro e wq ⟨rfl, rfl⟩
          clear hn
          have KE := @hideH _ K3
          clear K3
          go_wp2
          go_ret
          exact ⟨by rw [eQ.out]; rfl, KE.out⟩
      · simp only [bl_f g1] at hr
        have eQ := @hideH _ (HQ.out.1 fun h => g1 (h.2.2.1))
        clear g1
        go_wp2_with fail
        refine (hr _ K2).mono ?_
        rintro e w3 ⟨rfl, kn⟩
        clear hr
        replace c0 := kn.cell c0 (by simp)
        replace c1 := kn.cell c1 (by simp)
        replace c2 := kn.cell c2 (by simp)
        replace c3 := kn.cell c3 (by simp)
        replace c4 := kn.cell c4 (by simp)
        replace c5 := kn.cell c5 (by simp)
        replace c6 := kn.cell c6 (by simp)
        replace c7 := kn.cell c7 (by simp)
        replace c8 := kn.cell c8 (by simp)
        replace c9 := kn.cell c9 (by simp)
        replace c10 := kn.cell c10 (by simp)
        have K3 := K2.then kn
        clear kn K2
        have KE := @hideH _ K3
        clear K3
        go_wp2
        go_ret
        exact ⟨by rw [eQ.out]; rfl, KE.out⟩
    · simp only [bl_f g0] at ho
      have eQ := @hideH _ (HQ.out.1 fun h => g0 (h.2.1))
      clear g0
      go_wp2_with fail
      refine (ho _).mono ?_
      rintro e w2 ⟨rfl, kn⟩
      clear ho
      replace c0 := kn.cell c0 (by simp)
      replace c1 := kn.cell c1 (by simp)
      replace c2 := kn.cell c2 (by simp)
      replace c3 := kn.cell c3 (by simp)
      replace c4 := kn.cell c4 (by simp)
      replace c5 := kn.cell c5 (by simp)
      replace c6 := kn.cell c6 (by simp)
      replace c7 := kn.cell c7 (by simp)
      replace c8 := kn.cell c8 (by simp)
      replace c9 := kn.cell c9 (by simp)
      replace c10 := kn.cell c10 (by simp)
      have K2 := K1.then kn
      clear kn K1
      have KE := @hideH _ K2
      clear K2
      go_wp2
      go_ret
      exact ⟨by rw [eQ.out]; rfl, KE.out⟩
end Go.Proofs.Ytebcmcmboomgfaa

/-
  OWN WORK (by mkpr3.py). record: isRight, kind 4.
-/
namespace Go.Proofs.Ytebcmcmboomgfaa
open Go.RowKit
set_option linter.unusedVariables false
set_option linter.unusedSimpArgs false

set_option maxRecDepth 20000 in
set_option maxHeartbeats 6400000 in
theorem qRight_4 (V : RV) (birth prev id page frm : Int) (before after : List UInt8) (next : Int) (rows : List RowR) (dirty : List RecR) (w : World) (h : SeeR w V (⟨4, birth, prev, id, page, frm, before, after, next, rows, dirty⟩ : Rcd)) : Calls Try.prog 27 #[(⟨4, birth, prev, id, page, frm, before, after, next, rows, dirty⟩ : Rcd).agg V] w fun e w' => e = .returned (.bool (bl (⟨4, birth, prev, id, page, frm, before, after, next, rows, dirty⟩ : Rcd).Right)) ∧ Kept [] w w' := by
  obtain ⟨pb, cb, pa, ca, pr, cr, pd, cd, rfl⟩ := h.shapes
  obtain ⟨B, hB⟩ : ∃ B, B = decide ((0 : Int) = 0 ∧ (0 : Int) = 0 ∧ id = 0 ∧ page = 0 ∧ frm = 0 ∧ next = 0 ∧ before.length = 0 ∧ after.length = 0 ∧ rows.length = 0 ∧ dirty.length = 0) := ⟨_, rfl⟩
  have hb := fun wz => pBlankB 4 0 0 id page frm next pb pa pr pd before.length cb after.length ca rows.length cr dirty.length cd B hB wz
  have RI : (⟨4, birth, prev, id, page, frm, before, after, next, rows, dirty⟩ : Rcd).Right ↔ B = true ∧ ownedOk (⟨4, birth, prev, id, page, frm, before, after, next, rows, dirty⟩ : Rcd) := by
    have e : (⟨4, birth, prev, id, page, frm, before, after, next, rows, dirty⟩ : Rcd).Right ↔ (lsnOk birth ∧ lsnOk prev) ∧ id = 0 ∧ (rows = [] ∧ dirty = []) ∧ next = 0 ∧ (page = 0 ∧ frm = 0 ∧ after = []) ∧ before = [] := by unfold Rcd.Right; simp
    rw [e, hB]
    constructor
    · rintro ⟨a0, a1, a2, a3, a4, a5⟩
      exact ⟨decide_eq_true ⟨rfl, rfl, a1, a4.1, a4.2.1, a3, (by rw [a5]; rfl), (by rw [a4.2.2]; rfl), (by rw [a2.1]; rfl), (by rw [a2.2]; rfl)⟩, a0⟩
    · rintro ⟨hd, s0⟩
      have q := of_decide_eq_true hd
      exact ⟨s0, q.2.2.1, ⟨List.eq_nil_of_length_eq_zero q.2.2.2.2.2.2.2.2.1, List.eq_nil_of_length_eq_zero q.2.2.2.2.2.2.2.2.2⟩, q.2.2.2.2.2.1, ⟨q.2.2.2.1, q.2.2.2.2.1, List.eq_nil_of_length_eq_zero q.2.2.2.2.2.2.2.1⟩, List.eq_nil_of_length_eq_zero q.2.2.2.2.2.2.1⟩
  clear hB
  have ho := fun wz => pOwned (⟨.slice pb before.length cb, .slice pa after.length ca, .slice pr rows.length cr, .slice pd dirty.length cd⟩ : RV) (⟨4, birth, prev, id, page, frm, before, after, next, rows, dirty⟩ : Rcd) wz
  have hr := fun wz (kz : Kept [] w wz) => pRange _ (⟨4, birth, prev, id, page, frm, before, after, next, rows, dirty⟩ : Rcd) wz (h.kept kz)
  have hp := fun wz (kz : Kept [] w wz) (hn : 0 < after.length) => pParts _ _ before after wz (h.before.kept kz) (h.after.kept kz) hn
  have hn := fun wz => pIsNext next wz
  have hi := fun wz => pIsId id wz
  have ht := fun wz (kz : Kept [] w wz) => qTable _ rows wz (h.rows.kept kz)
  have hd := fun wz (kz : Kept [] w wz) => qDirty _ dirty wz (h.dirty.kept kz)
  clear h
  unfold Rcd.agg at ho hr ⊢
  dsimp only at ho hr hp ht hd ⊢
  obtain ⟨Q, hQ⟩ : ∃ Q, Q = bl (⟨4, birth, prev, id, page, frm, before, after, next, rows, dirty⟩ : Rcd).Right := ⟨_, rfl⟩
  rw [← hQ]
  have HQ := @hideH _ (show (¬ (B = true ∧ ownedOk (⟨4, birth, prev, id, page, frm, before, after, next, rows, dirty⟩ : Rcd)) → Q = false) ∧ ((B = true ∧ ownedOk (⟨4, birth, prev, id, page, frm, before, after, next, rows, dirty⟩ : Rcd)) → Q = true) from ⟨fun h => by rw [hQ]; exact bl_f fun q => h (RI.1 q), fun h => by rw [hQ]; exact bl_t (RI.2 h)⟩)
  clear hQ RI
  clear hr
  clear hp
  clear hn
  clear hi
  clear ht
  clear hd
  obtain ⟨wa, hwa⟩ : ∃ wa, wa = w.alloc (.cells #[.int .i64 4, .int .i64 birth, .int .i64 prev, .int .i64 id, .int .i64 page, .int .i64 frm, .slice pb before.length cb, .slice pa after.length ca, .int .i64 next, .slice pr rows.length cr, .slice pd dirty.length cd] 26) := ⟨_, rfl⟩
  have ba : Blk wa w.heap.size 26 [.int .i64 4, .int .i64 birth, .int .i64 prev, .int .i64 id, .int .i64 page, .int .i64 frm, .slice pb before.length cb, .slice pa after.length ca, .int .i64 next, .slice pr rows.length cr, .slice pd dirty.length cd] := by rw [hwa]; exact Blk.new w _ _
  have ka : Kept [] w wa := by rw [hwa]; exact (Kept.refl [] w).alloc _
  have HA := @hideH _ (And.intro hwa (And.intro ba ka))
  clear hwa ba ka
  go_enter Try.func27, Try.ntmps27
  go_wp2_with fail
  rw [← HA.out.1]
  refine (hb _).mono ?_
  rintro e w1 ⟨rfl, k1⟩
  clear hb
  have b1 := (HA.out.2.1.kept ((Kept.refl [] wa).alloc _) (by simp)).kept k1 (by simp)
  have K1 := (HA.out.2.2.alloc _).then k1
  have c0 := b1.cell (j := 0) rfl
  have c1 := b1.cell (j := 1) rfl
  have c2 := b1.cell (j := 2) rfl
  have c3 := b1.cell (j := 3) rfl
  have c4 := b1.cell (j := 4) rfl
  have c5 := b1.cell (j := 5) rfl
  have c6 := b1.cell (j := 6) rfl
  have c7 := b1.cell (j := 7) rfl
  have c8 := b1.cell (j := 8) rfl
  have c9 := b1.cell (j := 9) rfl
  have c10 := b1.cell (j := 10) rfl
  clear b1 k1
  cases B with
  | false =>
    have eQ := @hideH _ (HQ.out.1 fun h => by cases h.1)
    have KE := @hideH _ K1
    clear K1
    go_wp2
    go_ret
    exact ⟨by rw [eQ.out]; rfl, KE.out⟩
  | true =>
    by_cases g0 : ownedOk (⟨4, birth, prev, id, page, frm, before, after, next, rows, dirty⟩ : Rcd)
    · simp only [bl_t g0] at ho
      have q0 := @hideH _ g0
      clear g0
      go_wp2_with fail
      refine (ho _).mono ?_
      rintro e w2 ⟨rfl, kn⟩
      clear ho
      replace c0 := kn.cell c0 (by simp)
      replace c1 := kn.cell c1 (by simp)
      replace c2 := kn.cell c2 (by simp)
      replace c3 := kn.cell c3 (by simp)
      replace c4 := kn.cell c4 (by simp)
      replace c5 := kn.cell c5 (by simp)
      replace c6 := kn.cell c6 (by simp)
      replace c7 := kn.cell c7 (by simp)
      replace c8 := kn.cell c8 (by simp)
      replace c9 := kn.cell c9 (by simp)
      replace c10 := kn.cell c10 (by simp)
      have K2 := K1.then kn
      clear kn K1
      have eQ := @hideH _ (HQ.out.2 ⟨by trivial, q0.out⟩)
      have KE := @hideH _ K2
      clear K2
      go_wp2
      go_ret
      exact ⟨by rw [eQ.out]; rfl, KE.out⟩
    · simp only [bl_f g0] at ho
      have eQ := @hideH _ (HQ.out.1 fun h => g0 (h.2))
      clear g0
      go_wp2_with fail
      refine (ho _).mono ?_
      rintro e w2 ⟨rfl, kn⟩
      clear ho
      replace c0 := kn.cell c0 (by simp)
      replace c1 := kn.cell c1 (by simp)
      replace c2 := kn.cell c2 (by simp)
      replace c3 := kn.cell c3 (by simp)
      replace c4 := kn.cell c4 (by simp)
      replace c5 := kn.cell c5 (by simp)
      replace c6 := kn.cell c6 (by simp)
      replace c7 := kn.cell c7 (by simp)
      replace c8 := kn.cell c8 (by simp)
      replace c9 := kn.cell c9 (by simp)
      replace c10 := kn.cell c10 (by simp)
      have K2 := K1.then kn
      clear kn K1
      have KE := @hideH _ K2
      clear K2
      go_wp2
      go_ret
      exact ⟨by rw [eQ.out]; rfl, KE.out⟩
end Go.Proofs.Ytebcmcmboomgfaa

/-
  OWN WORK (by mkpr3.py). record: isRight, kind 5.
-/
namespace Go.Proofs.Ytebcmcmboomgfaa
open Go.RowKit
set_option linter.unusedVariables false
set_option linter.unusedSimpArgs false

set_option maxRecDepth 20000 in
set_option maxHeartbeats 6400000 in
theorem qRight_5 (V : RV) (birth prev id page frm : Int) (before after : List UInt8) (next : Int) (rows : List RowR) (dirty : List RecR) (w : World) (h : SeeR w V (⟨5, birth, prev, id, page, frm, before, after, next, rows, dirty⟩ : Rcd)) : Calls Try.prog 27 #[(⟨5, birth, prev, id, page, frm, before, after, next, rows, dirty⟩ : Rcd).agg V] w fun e w' => e = .returned (.bool (bl (⟨5, birth, prev, id, page, frm, before, after, next, rows, dirty⟩ : Rcd).Right)) ∧ Kept [] w w' := by
  obtain ⟨pb, cb, pa, ca, pr, cr, pd, cd, rfl⟩ := h.shapes
  obtain ⟨B, hB⟩ : ∃ B, B = decide ((0 : Int) = 0 ∧ (0 : Int) = 0 ∧ id = 0 ∧ page = 0 ∧ frm = 0 ∧ next = 0 ∧ before.length = 0 ∧ after.length = 0 ∧ rows.length = 0 ∧ dirty.length = 0) := ⟨_, rfl⟩
  have hb := fun wz => pBlankB 5 0 0 id page frm next pb pa pr pd before.length cb after.length ca rows.length cr dirty.length cd B hB wz
  have RI : (⟨5, birth, prev, id, page, frm, before, after, next, rows, dirty⟩ : Rcd).Right ↔ B = true ∧ ownedOk (⟨5, birth, prev, id, page, frm, before, after, next, rows, dirty⟩ : Rcd) := by
    have e : (⟨5, birth, prev, id, page, frm, before, after, next, rows, dirty⟩ : Rcd).Right ↔ (lsnOk birth ∧ lsnOk prev) ∧ id = 0 ∧ (rows = [] ∧ dirty = []) ∧ next = 0 ∧ (page = 0 ∧ frm = 0 ∧ after = []) ∧ before = [] := by unfold Rcd.Right; simp
    rw [e, hB]
    constructor
    · rintro ⟨a0, a1, a2, a3, a4, a5⟩
      exact ⟨decide_eq_true ⟨rfl, rfl, a1, a4.1, a4.2.1, a3, (by rw [a5]; rfl), (by rw [a4.2.2]; rfl), (by rw [a2.1]; rfl), (by rw [a2.2]; rfl)⟩, a0⟩
    · rintro ⟨hd, s0⟩
      have q := of_decide_eq_true hd
      exact ⟨s0, q.2.2.1, ⟨List.eq_nil_of_length_eq_zero q.2.2.2.2.2.2.2.2.1, List.eq_nil_of_length_eq_zero q.2.2.2.2.2.2.2.2.2⟩, q.2.2.2.2.2.1, ⟨q.2.2.2.1, q.2.2.2.2.1, List.eq_nil_of_length_eq_zero q.2.2.2.2.2.2.2.1⟩, List.eq_nil_of_length_eq_zero q.2.2.2.2.2.2.1⟩
  clear hB
  have ho := fun wz => pOwned (⟨.slice pb before.length cb, .slice pa after.length ca, .slice pr rows.length cr, .slice pd dirty.length cd⟩ : RV) (⟨5, birth, prev, id, page, frm, before, after, next, rows, dirty⟩ : Rcd) wz
  have hr := fun wz (kz : Kept [] w wz) => pRange _ (⟨5, birth, prev, id, page, frm, before, after, next, rows, dirty⟩ : Rcd) wz (h.kept kz)
  have hp := fun wz (kz : Kept [] w wz) (hn : 0 < after.length) => pParts _ _ before after wz (h.before.kept kz) (h.after.kept kz) hn
  have hn := fun wz => pIsNext next wz
  have hi := fun wz => pIsId id wz
  have ht := fun wz (kz : Kept [] w wz) => qTable _ rows wz (h.rows.kept kz)
  have hd := fun wz (kz : Kept [] w wz) => qDirty _ dirty wz (h.dirty.kept kz)
  clear h
  unfold Rcd.agg at ho hr ⊢
  dsimp only at ho hr hp ht hd ⊢
  obtain ⟨Q, hQ⟩ : ∃ Q, Q = bl (⟨5, birth, prev, id, page, frm, before, after, next, rows, dirty⟩ : Rcd).Right := ⟨_, rfl⟩
  rw [← hQ]
  have HQ := @hideH _ (show (¬ (B = true ∧ ownedOk (⟨5, birth, prev, id, page, frm, before, after, next, rows, dirty⟩ : Rcd)) → Q = false) ∧ ((B = true ∧ ownedOk (⟨5, birth, prev, id, page, frm, before, after, next, rows, dirty⟩ : Rcd)) → Q = true) from ⟨fun h => by rw [hQ]; exact bl_f fun q => h (RI.1 q), fun h => by rw [hQ]; exact bl_t (RI.2 h)⟩)
  clear hQ RI
  clear hr
  clear hp
  clear hn
  clear hi
  clear ht
  clear hd
  obtain ⟨wa, hwa⟩ : ∃ wa, wa = w.alloc (.cells #[.int .i64 5, .int .i64 birth, .int .i64 prev, .int .i64 id, .int .i64 page, .int .i64 frm, .slice pb before.length cb, .slice pa after.length ca, .int .i64 next, .slice pr rows.length cr, .slice pd dirty.length cd] 26) := ⟨_, rfl⟩
  have ba : Blk wa w.heap.size 26 [.int .i64 5, .int .i64 birth, .int .i64 prev, .int .i64 id, .int .i64 page, .int .i64 frm, .slice pb before.length cb, .slice pa after.length ca, .int .i64 next, .slice pr rows.length cr, .slice pd dirty.length cd] := by rw [hwa]; exact Blk.new w _ _
  have ka : Kept [] w wa := by rw [hwa]; exact (Kept.refl [] w).alloc _
  have HA := @hideH _ (And.intro hwa (And.intro ba ka))
  clear hwa ba ka
  go_enter Try.func27, Try.ntmps27
  go_wp2_with fail
  rw [← HA.out.1]
  refine (hb _).mono ?_
  rintro e w1 ⟨rfl, k1⟩
  clear hb
  have b1 := (HA.out.2.1.kept ((Kept.refl [] wa).alloc _) (by simp)).kept k1 (by simp)
  have K1 := (HA.out.2.2.alloc _).then k1
  have c0 := b1.cell (j := 0) rfl
  have c1 := b1.cell (j := 1) rfl
  have c2 := b1.cell (j := 2) rfl
  have c3 := b1.cell (j := 3) rfl
  have c4 := b1.cell (j := 4) rfl
  have c5 := b1.cell (j := 5) rfl
  have c6 := b1.cell (j := 6) rfl
  have c7 := b1.cell (j := 7) rfl
  have c8 := b1.cell (j := 8) rfl
  have c9 := b1.cell (j := 9) rfl
  have c10 := b1.cell (j := 10) rfl
  clear b1 k1
  cases B with
  | false =>
    have eQ := @hideH _ (HQ.out.1 fun h => by cases h.1)
    have KE := @hideH _ K1
    clear K1
    go_wp2
    go_ret
    exact ⟨by rw [eQ.out]; rfl, KE.out⟩
  | true =>
    by_cases g0 : ownedOk (⟨5, birth, prev, id, page, frm, before, after, next, rows, dirty⟩ : Rcd)
    · simp only [bl_t g0] at ho
      have q0 := @hideH _ g0
      clear g0
      go_wp2_with fail
      refine (ho _).mono ?_
      rintro e w2 ⟨rfl, kn⟩
      clear ho
      replace c0 := kn.cell c0 (by simp)
      replace c1 := kn.cell c1 (by simp)
      replace c2 := kn.cell c2 (by simp)
      replace c3 := kn.cell c3 (by simp)
      replace c4 := kn.cell c4 (by simp)
      replace c5 := kn.cell c5 (by simp)
      replace c6 := kn.cell c6 (by simp)
      replace c7 := kn.cell c7 (by simp)
      replace c8 := kn.cell c8 (by simp)
      replace c9 := kn.cell c9 (by simp)
      replace c10 := kn.cell c10 (by simp)
      have K2 := K1.then kn
      clear kn K1
      have eQ := @hideH _ (HQ.out.2 ⟨by trivial, q0.out⟩)
      have KE := @hideH _ K2
      clear K2
      go_wp2
      go_ret
      exact ⟨by rw [eQ.out]; rfl, KE.out⟩
    · simp only [bl_f g0] at ho
      have eQ := @hideH _ (HQ.out.1 fun h => g0 (h.2))
      clear g0
      go_wp2_with fail
      refine (ho _).mono ?_
      rintro e w2 ⟨rfl, kn⟩
      clear ho
      replace c0 := kn.cell c0 (by simp)
      replace c1 := kn.cell c1 (by simp)
      replace c2 := kn.cell c2 (by simp)
      replace c3 := kn.cell c3 (by simp)
      replace c4 := kn.cell c4 (by simp)
      replace c5 := kn.cell c5 (by simp)
      replace c6 := kn.cell c6 (by simp)
      replace c7 := kn.cell c7 (by simp)
      replace c8 := kn.cell c8 (by simp)
      replace c9 := kn.cell c9 (by simp)
      replace c10 := kn.cell c10 (by simp)
      have K2 := K1.then kn
      clear kn K1
      have KE := @hideH _ K2
      clear K2
      go_wp2
      go_ret
      exact ⟨by rw [eQ.out]; rfl, KE.out⟩
end Go.Proofs.Ytebcmcmboomgfaa

/-
  OWN WORK (by mkpr3.py). record: isRight, kind 6.
-/
namespace Go.Proofs.Ytebcmcmboomgfaa
open Go.RowKit
set_option linter.unusedVariables false
set_option linter.unusedSimpArgs false

set_option maxRecDepth 20000 in
set_option maxHeartbeats 6400000 in
theorem qRight_6 (V : RV) (birth prev id page frm : Int) (before after : List UInt8) (next : Int) (rows : List RowR) (dirty : List RecR) (w : World) (h : SeeR w V (⟨6, birth, prev, id, page, frm, before, after, next, rows, dirty⟩ : Rcd)) : Calls Try.prog 27 #[(⟨6, birth, prev, id, page, frm, before, after, next, rows, dirty⟩ : Rcd).agg V] w fun e w' => e = .returned (.bool (bl (⟨6, birth, prev, id, page, frm, before, after, next, rows, dirty⟩ : Rcd).Right)) ∧ Kept [] w w' := by
  obtain ⟨pb, cb, pa, ca, pr, cr, pd, cd, rfl⟩ := h.shapes
  obtain ⟨B, hB⟩ : ∃ B, B = decide ((0 : Int) = 0 ∧ (0 : Int) = 0 ∧ id = 0 ∧ page = 0 ∧ frm = 0 ∧ next = 0 ∧ before.length = 0 ∧ after.length = 0 ∧ rows.length = 0 ∧ dirty.length = 0) := ⟨_, rfl⟩
  have hb := fun wz => pBlankB 6 0 0 id page frm next pb pa pr pd before.length cb after.length ca rows.length cr dirty.length cd B hB wz
  have RI : (⟨6, birth, prev, id, page, frm, before, after, next, rows, dirty⟩ : Rcd).Right ↔ B = true ∧ ownedOk (⟨6, birth, prev, id, page, frm, before, after, next, rows, dirty⟩ : Rcd) := by
    have e : (⟨6, birth, prev, id, page, frm, before, after, next, rows, dirty⟩ : Rcd).Right ↔ (lsnOk birth ∧ lsnOk prev) ∧ id = 0 ∧ (rows = [] ∧ dirty = []) ∧ next = 0 ∧ (page = 0 ∧ frm = 0 ∧ after = []) ∧ before = [] := by unfold Rcd.Right; simp
    rw [e, hB]
    constructor
    · rintro ⟨a0, a1, a2, a3, a4, a5⟩
      exact ⟨decide_eq_true ⟨rfl, rfl, a1, a4.1, a4.2.1, a3, (by rw [a5]; rfl), (by rw [a4.2.2]; rfl), (by rw [a2.1]; rfl), (by rw [a2.2]; rfl)⟩, a0⟩
    · rintro ⟨hd, s0⟩
      have q := of_decide_eq_true hd
      exact ⟨s0, q.2.2.1, ⟨List.eq_nil_of_length_eq_zero q.2.2.2.2.2.2.2.2.1, List.eq_nil_of_length_eq_zero q.2.2.2.2.2.2.2.2.2⟩, q.2.2.2.2.2.1, ⟨q.2.2.2.1, q.2.2.2.2.1, List.eq_nil_of_length_eq_zero q.2.2.2.2.2.2.2.1⟩, List.eq_nil_of_length_eq_zero q.2.2.2.2.2.2.1⟩
  clear hB
  have ho := fun wz => pOwned (⟨.slice pb before.length cb, .slice pa after.length ca, .slice pr rows.length cr, .slice pd dirty.length cd⟩ : RV) (⟨6, birth, prev, id, page, frm, before, after, next, rows, dirty⟩ : Rcd) wz
  have hr := fun wz (kz : Kept [] w wz) => pRange _ (⟨6, birth, prev, id, page, frm, before, after, next, rows, dirty⟩ : Rcd) wz (h.kept kz)
  have hp := fun wz (kz : Kept [] w wz) (hn : 0 < after.length) => pParts _ _ before after wz (h.before.kept kz) (h.after.kept kz) hn
  have hn := fun wz => pIsNext next wz
  have hi := fun wz => pIsId id wz
  have ht := fun wz (kz : Kept [] w wz) => qTable _ rows wz (h.rows.kept kz)
  have hd := fun wz (kz : Kept [] w wz) => qDirty _ dirty wz (h.dirty.kept kz)
  clear h
  unfold Rcd.agg at ho hr ⊢
  dsimp only at ho hr hp ht hd ⊢
  obtain ⟨Q, hQ⟩ : ∃ Q, Q = bl (⟨6, birth, prev, id, page, frm, before, after, next, rows, dirty⟩ : Rcd).Right := ⟨_, rfl⟩
  rw [← hQ]
  have HQ := @hideH _ (show (¬ (B = true ∧ ownedOk (⟨6, birth, prev, id, page, frm, before, after, next, rows, dirty⟩ : Rcd)) → Q = false) ∧ ((B = true ∧ ownedOk (⟨6, birth, prev, id, page, frm, before, after, next, rows, dirty⟩ : Rcd)) → Q = true) from ⟨fun h => by rw [hQ]; exact bl_f fun q => h (RI.1 q), fun h => by rw [hQ]; exact bl_t (RI.2 h)⟩)
  clear hQ RI
  clear hr
  clear hp
  clear hn
  clear hi
  clear ht
  clear hd
  obtain ⟨wa, hwa⟩ : ∃ wa, wa = w.alloc (.cells #[.int .i64 6, .int .i64 birth, .int .i64 prev, .int .i64 id, .int .i64 page, .int .i64 frm, .slice pb before.length cb, .slice pa after.length ca, .int .i64 next, .slice pr rows.length cr, .slice pd dirty.length cd] 26) := ⟨_, rfl⟩
  have ba : Blk wa w.heap.size 26 [.int .i64 6, .int .i64 birth, .int .i64 prev, .int .i64 id, .int .i64 page, .int .i64 frm, .slice pb before.length cb, .slice pa after.length ca, .int .i64 next, .slice pr rows.length cr, .slice pd dirty.length cd] := by rw [hwa]; exact Blk.new w _ _
  have ka : Kept [] w wa := by rw [hwa]; exact (Kept.refl [] w).alloc _
  have HA := @hideH _ (And.intro hwa (And.intro ba ka))
  clear hwa ba ka
  go_enter Try.func27, Try.ntmps27
  go_wp2_with fail
  rw [← HA.out.1]
  refine (hb _).mono ?_
  rintro e w1 ⟨rfl, k1⟩
  clear hb
  have b1 := (HA.out.2.1.kept ((Kept.refl [] wa).alloc _) (by simp)).kept k1 (by simp)
  have K1 := (HA.out.2.2.alloc _).then k1
  have c0 := b1.cell (j := 0) rfl
  have c1 := b1.cell (j := 1) rfl
  have c2 := b1.cell (j := 2) rfl
  have c3 := b1.cell (j := 3) rfl
  have c4 := b1.cell (j := 4) rfl
  have c5 := b1.cell (j := 5) rfl
  have c6 := b1.cell (j := 6) rfl
  have c7 := b1.cell (j := 7) rfl
  have c8 := b1.cell (j := 8) rfl
  have c9 := b1.cell (j := 9) rfl
  have c10 := b1.cell (j := 10) rfl
  clear b1 k1
  cases B with
  | false =>
    have eQ := @hideH _ (HQ.out.1 fun h => by cases h.1)
    have KE := @hideH _ K1
    clear K1
    go_wp2
    go_ret
    exact ⟨by rw [eQ.out]; rfl, KE.out⟩
  | true =>
    by_cases g0 : ownedOk (⟨6, birth, prev, id, page, frm, before, after, next, rows, dirty⟩ : Rcd)
    · simp only [bl_t g0] at ho
      have q0 := @hideH _ g0
      clear g0
      go_wp2_with fail
      refine (ho _).mono ?_
      rintro e w2 ⟨rfl, kn⟩
      clear ho
      replace c0 := kn.cell c0 (by simp)
      replace c1 := kn.cell c1 (by simp)
      replace c2 := kn.cell c2 (by simp)
      replace c3 := kn.cell c3 (by simp)
      replace c4 := kn.cell c4 (by simp)
      replace c5 := kn.cell c5 (by simp)
      replace c6 := kn.cell c6 (by simp)
      replace c7 := kn.cell c7 (by simp)
      replace c8 := kn.cell c8 (by simp)
      replace c9 := kn.cell c9 (by simp)
      replace c10 := kn.cell c10 (by simp)
      have K2 := K1.then kn
      clear kn K1
      have eQ := @hideH _ (HQ.out.2 ⟨by trivial, q0.out⟩)
      have KE := @hideH _ K2
      clear K2
      go_wp2
      go_ret
      exact ⟨by rw [eQ.out]; rfl, KE.out⟩
    · simp only [bl_f g0] at ho
      have eQ := @hideH _ (HQ.out.1 fun h => g0 (h.2))
      clear g0
      go_wp2_with fail
      refine (ho _).mono ?_
      rintro e w2 ⟨rfl, kn⟩
      clear ho
      replace c0 := kn.cell c0 (by simp)
      replace c1 := kn.cell c1 (by simp)
      replace c2 := kn.cell c2 (by simp)
      replace c3 := kn.cell c3 (by simp)
      replace c4 := kn.cell c4 (by simp)
      replace c5 := kn.cell c5 (by simp)
      replace c6 := kn.cell c6 (by simp)
      replace c7 := kn.cell c7 (by simp)
      replace c8 := kn.cell c8 (by simp)
      replace c9 := kn.cell c9 (by simp)
      replace c10 := kn.cell c10 (by simp)
      have K2 := K1.then kn
      clear kn K1
      have KE := @hideH _ K2
      clear K2
      go_wp2
      go_ret
      exact ⟨by rw [eQ.out]; rfl, KE.out⟩
end Go.Proofs.Ytebcmcmboomgfaa

/-
  OWN WORK (by mkpr3.py). record: isRight, kind 7.
-/
namespace Go.Proofs.Ytebcmcmboomgfaa
open Go.RowKit
set_option linter.unusedVariables false
set_option linter.unusedSimpArgs false

set_option maxRecDepth 20000 in
set_option maxHeartbeats 6400000 in
theorem qRight_7 (V : RV) (birth prev id page frm : Int) (before after : List UInt8) (next : Int) (rows : List RowR) (dirty : List RecR) (w : World) (h : SeeR w V (⟨7, birth, prev, id, page, frm, before, after, next, rows, dirty⟩ : Rcd)) : Calls Try.prog 27 #[(⟨7, birth, prev, id, page, frm, before, after, next, rows, dirty⟩ : Rcd).agg V] w fun e w' => e = .returned (.bool (bl (⟨7, birth, prev, id, page, frm, before, after, next, rows, dirty⟩ : Rcd).Right)) ∧ Kept [] w w' := by
  obtain ⟨pb, cb, pa, ca, pr, cr, pd, cd, rfl⟩ := h.shapes
  obtain ⟨B, hB⟩ : ∃ B, B = decide (birth = 0 ∧ prev = 0 ∧ id = 0 ∧ page = 0 ∧ frm = 0 ∧ next = 0 ∧ before.length = 0 ∧ after.length = 0 ∧ (0 : Nat) = 0 ∧ (0 : Nat) = 0) := ⟨_, rfl⟩
  have hb := fun wz => pBlankB 7 birth prev id page frm next pb pa none none before.length cb after.length ca 0 0 0 0 B hB wz
  have RI : (⟨7, birth, prev, id, page, frm, before, after, next, rows, dirty⟩ : Rcd).Right ↔ B = true ∧ tableOk rows ∧ dirtyOk dirty := by
    have e : (⟨7, birth, prev, id, page, frm, before, after, next, rows, dirty⟩ : Rcd).Right ↔ (birth = 0 ∧ prev = 0) ∧ id = 0 ∧ listsOk (⟨7, birth, prev, id, page, frm, before, after, next, rows, dirty⟩ : Rcd) ∧ next = 0 ∧ (page = 0 ∧ frm = 0 ∧ after = []) ∧ before = [] := by unfold Rcd.Right; simp
    rw [e, hB]
    constructor
    · rintro ⟨a0, a1, a2, a3, a4, a5⟩
      exact ⟨decide_eq_true ⟨a0.1, a0.2, a1, a4.1, a4.2.1, a3, (by rw [a5]; rfl), (by rw [a4.2.2]; rfl), rfl, rfl⟩, ((listsOk_iff _).1 a2).1, ((listsOk_iff _).1 a2).2⟩
    · rintro ⟨hd, s0, s1⟩
      have q := of_decide_eq_true hd
      exact ⟨⟨q.1, q.2.1⟩, q.2.2.1, (listsOk_iff _).2 ⟨s0, s1⟩, q.2.2.2.2.2.1, ⟨q.2.2.2.1, q.2.2.2.2.1, List.eq_nil_of_length_eq_zero q.2.2.2.2.2.2.2.1⟩, List.eq_nil_of_length_eq_zero q.2.2.2.2.2.2.1⟩
  clear hB
  have ho := fun wz => pOwned (⟨.slice pb before.length cb, .slice pa after.length ca, .slice pr rows.length cr, .slice pd dirty.length cd⟩ : RV) (⟨7, birth, prev, id, page, frm, before, after, next, rows, dirty⟩ : Rcd) wz
  have hr := fun wz (kz : Kept [] w wz) => pRange _ (⟨7, birth, prev, id, page, frm, before, after, next, rows, dirty⟩ : Rcd) wz (h.kept kz)
  have hp := fun wz (kz : Kept [] w wz) (hn : 0 < after.length) => pParts _ _ before after wz (h.before.kept kz) (h.after.kept kz) hn
  have hn := fun wz => pIsNext next wz
  have hi := fun wz => pIsId id wz
  have ht := fun wz (kz : Kept [] w wz) => qTable _ rows wz (h.rows.kept kz)
  have hd := fun wz (kz : Kept [] w wz) => qDirty _ dirty wz (h.dirty.kept kz)
  clear h
  unfold Rcd.agg at ho hr ⊢
  dsimp only at ho hr hp ht hd ⊢
  obtain ⟨Q, hQ⟩ : ∃ Q, Q = bl (⟨7, birth, prev, id, page, frm, before, after, next, rows, dirty⟩ : Rcd).Right := ⟨_, rfl⟩
  rw [← hQ]
  have HQ := @hideH _ (show (¬ (B = true ∧ tableOk rows ∧ dirtyOk dirty) → Q = false) ∧ ((B = true ∧ tableOk rows ∧ dirtyOk dirty) → Q = true) from ⟨fun h => by rw [hQ]; exact bl_f fun q => h (RI.1 q), fun h => by rw [hQ]; exact bl_t (RI.2 h)⟩)
  clear hQ RI
  clear ho
  clear hr
  clear hp
  clear hn
  clear hi
  obtain ⟨wa, hwa⟩ : ∃ wa, wa = w.alloc (.cells #[.int .i64 7, .int .i64 birth, .int .i64 prev, .int .i64 id, .int .i64 page, .int .i64 frm, .slice pb before.length cb, .slice pa after.length ca, .int .i64 next, .slice pr rows.length cr, .slice pd dirty.length cd] 26) := ⟨_, rfl⟩
  have ba : Blk wa w.heap.size 26 [.int .i64 7, .int .i64 birth, .int .i64 prev, .int .i64 id, .int .i64 page, .int .i64 frm, .slice pb before.length cb, .slice pa after.length ca, .int .i64 next, .slice pr rows.length cr, .slice pd dirty.length cd] := by rw [hwa]; exact Blk.new w _ _
  have ka : Kept [] w wa := by rw [hwa]; exact (Kept.refl [] w).alloc _
  have HA := @hideH _ (And.intro hwa (And.intro ba ka))
  clear hwa ba ka
  go_enter Try.func27, Try.ntmps27
  go_wp2_with fail
  rw [← HA.out.1]
  refine (hb _).mono ?_
  rintro e w1 ⟨rfl, k1⟩
  clear hb
  have b1 := (HA.out.2.1.kept ((Kept.refl [] wa).alloc _) (by simp)).kept k1 (by simp)
  have K1 := (HA.out.2.2.alloc _).then k1
  have c0 := b1.cell (j := 0) rfl
  have c1 := b1.cell (j := 1) rfl
  have c2 := b1.cell (j := 2) rfl
  have c3 := b1.cell (j := 3) rfl
  have c4 := b1.cell (j := 4) rfl
  have c5 := b1.cell (j := 5) rfl
  have c6 := b1.cell (j := 6) rfl
  have c7 := b1.cell (j := 7) rfl
  have c8 := b1.cell (j := 8) rfl
  have c9 := b1.cell (j := 9) rfl
  have c10 := b1.cell (j := 10) rfl
  clear b1 k1
  cases B with
  | false =>
    have eQ := @hideH _ (HQ.out.1 fun h => by cases h.1)
    have KE := @hideH _ K1
    clear K1
    go_wp2
    go_ret
    exact ⟨by rw [eQ.out]; rfl, KE.out⟩
  | true =>
    by_cases g0 : tableOk rows
    · simp only [bl_t g0] at ht
      have q0 := @hideH _ g0
      clear g0
      go_wp2_with fail
      refine (ht _ K1).mono ?_
      rintro e w2 ⟨rfl, kn⟩
      clear ht
      replace c0 := kn.cell c0 (by simp)
      replace c1 := kn.cell c1 (by simp)
      replace c2 := kn.cell c2 (by simp)
      replace c3 := kn.cell c3 (by simp)
      replace c4 := kn.cell c4 (by simp)
      replace c5 := kn.cell c5 (by simp)
      replace c6 := kn.cell c6 (by simp)
      replace c7 := kn.cell c7 (by simp)
      replace c8 := kn.cell c8 (by simp)
      replace c9 := kn.cell c9 (by simp)
      replace c10 := kn.cell c10 (by simp)
      have K2 := K1.then kn
      clear kn K1
      by_cases g1 : dirtyOk dirty
      · simp only [bl_t g1] at hd
        have q1 := @hideH _ g1
        clear g1
        go_wp2_with fail
        refine (hd _ K2).mono ?_
        rintro e w3 ⟨rfl, kn⟩
        clear hd
        replace c0 := kn.cell c0 (by simp)
        replace c1 := kn.cell c1 (by simp)
        replace c2 := kn.cell c2 (by simp)
        replace c3 := kn.cell c3 (by simp)
        replace c4 := kn.cell c4 (by simp)
        replace c5 := kn.cell c5 (by simp)
        replace c6 := kn.cell c6 (by simp)
        replace c7 := kn.cell c7 (by simp)
        replace c8 := kn.cell c8 (by simp)
        replace c9 := kn.cell c9 (by simp)
        replace c10 := kn.cell c10 (by simp)
        have K3 := K2.then kn
        clear kn K2
        have eQ := @hideH _ (HQ.out.2 ⟨by trivial, q0.out, q1.out⟩)
        have KE := @hideH _ K3
        clear K3
        go_wp2
        go_ret
        exact ⟨by rw [eQ.out]; rfl, KE.out⟩
      · simp only [bl_f g1] at hd
        have eQ := @hideH _ (HQ.out.1 fun h => g1 (h.2.2))
        clear g1
        go_wp2_with fail
        refine (hd _ K2).mono ?_
        rintro e w3 ⟨rfl, kn⟩
        clear hd
        replace c0 := kn.cell c0 (by simp)
        replace c1 := kn.cell c1 (by simp)
        replace c2 := kn.cell c2 (by simp)
        replace c3 := kn.cell c3 (by simp)
        replace c4 := kn.cell c4 (by simp)
        replace c5 := kn.cell c5 (by simp)
        replace c6 := kn.cell c6 (by simp)
        replace c7 := kn.cell c7 (by simp)
        replace c8 := kn.cell c8 (by simp)
        replace c9 := kn.cell c9 (by simp)
        replace c10 := kn.cell c10 (by simp)
        have K3 := K2.then kn
        clear kn K2
        have KE := @hideH _ K3
        clear K3
        go_wp2
        go_ret
        exact ⟨by rw [eQ.out]; rfl, KE.out⟩
    · simp only [bl_f g0] at ht
      have eQ := @hideH _ (HQ.out.1 fun h => g0 (h.2.1))
      clear g0
      go_wp2_with fail
      refine (ht _ K1).mono ?_
      rintro e w2 ⟨rfl, kn⟩
      clear ht
      replace c0 := kn.cell c0 (by simp)
      replace c1 := kn.cell c1 (by simp)
      replace c2 := kn.cell c2 (by simp)
      replace c3 := kn.cell c3 (by simp)
      replace c4 := kn.cell c4 (by simp)
      replace c5 := kn.cell c5 (by simp)
      replace c6 := kn.cell c6 (by simp)
      replace c7 := kn.cell c7 (by simp)
      replace c8 := kn.cell c8 (by simp)
      replace c9 := kn.cell c9 (by simp)
      replace c10 := kn.cell c10 (by simp)
      have K2 := K1.then kn
      clear kn K1
      have KE := @hideH _ K2
      clear K2
      go_wp2
      go_ret
      exact ⟨by rw [eQ.out]; rfl, KE.out⟩
end Go.Proofs.Ytebcmcmboomgfaa

/-
  OWN WORK (by mkpr3.py). record: isRight.
-/
namespace Go.Proofs.Ytebcmcmboomgfaa
open Go.RowKit
set_option linter.unusedVariables false
set_option linter.unusedSimpArgs false

set_option maxHeartbeats 6400000 in
theorem qRight_out (V : RV) (r : Rcd) (w : World) (h : SeeR w V r) (hk : ¬ (1 ≤ r.kind ∧ r.kind ≤ 7)) : Calls Try.prog 27 #[r.agg V] w fun e w' => e = .returned (.bool (bl r.Right)) ∧ Kept [] w w' := by
  obtain ⟨pb, cb, pa, ca, pr, cr, pd, cd, rfl⟩ := h.shapes
  rw [bl_f (fun hr : r.Right => hk hr.1)]
  have e1 : (r.kind == 1) = false := by simp; omega
  have e2 : (r.kind == 2) = false := by simp; omega
  have e3 : (r.kind == 3) = false := by simp; omega
  have e4 : (r.kind == 4) = false := by simp; omega
  have e5 : (r.kind == 5) = false := by simp; omega
  have e6 : (r.kind == 6) = false := by simp; omega
  have e7 : (r.kind == 7) = false := by simp; omega
  unfold Rcd.agg
  dsimp only
  generalize r.kind = kind at *
  clear h hk
  go_enter Try.func27, Try.ntmps27
  go_wp2
  go_ret
  exact ⟨rfl, ((Kept.refl [] w).alloc _).alloc _⟩
theorem qRight (V : RV) (r : Rcd) (w : World) (h : SeeR w V r) : Calls Try.prog 27 #[r.agg V] w fun e w' => e = .returned (.bool (bl r.Right)) ∧ Kept [] w w' := by
  by_cases hk : 1 ≤ r.kind ∧ r.kind ≤ 7
  · obtain ⟨kind, birth, prev, id, page, frm, before, after, next, rows, dirty⟩ := r
    have : kind = 1 ∨ kind = 2 ∨ kind = 3 ∨ kind = 4 ∨ kind = 5 ∨ kind = 6 ∨ kind = 7 := by simp only at hk; omega
    rcases this with rfl | rfl | rfl | rfl | rfl | rfl | rfl
    · exact qRight_1 V birth prev id page frm before after next rows dirty w h
    · exact qRight_2 V birth prev id page frm before after next rows dirty w h
    · exact qRight_3 V birth prev id page frm before after next rows dirty w h
    · exact qRight_4 V birth prev id page frm before after next rows dirty w h
    · exact qRight_5 V birth prev id page frm before after next rows dirty w h
    · exact qRight_6 V birth prev id page frm before after next rows dirty w h
    · exact qRight_7 V birth prev id page frm before after next rows dirty w h
  · exact qRight_out V r w h hk
end Go.Proofs.Ytebcmcmboomgfaa

/-
  OWN WORK (by mkpr4.py). record: bytesOfKind.
-/
namespace Go.Proofs.Ytebcmcmboomgfaa
open Go.RowKit
set_option linter.unusedVariables false
set_option linter.unusedSimpArgs false

set_option maxRecDepth 20000 in
set_option maxHeartbeats 6400000 in
theorem qKind_1 (V : RV) (birth prev id page frm : Int) (before after : List UInt8) (next : Int) (rows : List RowR) (dirty : List RecR) (w : World) (h : SeeR w V (⟨1, birth, prev, id, page, frm, before, after, next, rows, dirty⟩ : Rcd)) (hR : (⟨1, birth, prev, id, page, frm, before, after, next, rows, dirty⟩ : Rcd).Right) : Calls Try.prog 31 #[(⟨1, birth, prev, id, page, frm, before, after, next, rows, dirty⟩ : Rcd).agg V] w fun e w' => ∃ u, e = .returned u ∧ Acc w w' u (tailB (⟨1, birth, prev, id, page, frm, before, after, next, rows, dirty⟩ : Rcd)) := by
  obtain ⟨pb, cb, pa, ca, pr, cr, pd, cd, rfl⟩ := h.shapes
  have hid : 1 ≤ id ∧ id ≤ 64 := by have q := hR.2.2.1; simp at q; exact q
  have h1 := fun w => qOne id w (by omega) (by omega)
  have eT : tailB (⟨1, birth, prev, id, page, frm, before, after, next, rows, dirty⟩ : Rcd) = putN 1 id.toNat := by unfold tailB; simp
  rw [eT]
  clear eT hid hR h
  unfold Rcd.agg
  dsimp only
  obtain ⟨wa, hwa⟩ : ∃ wa, wa = w.alloc (.cells #[.int .i64 1, .int .i64 birth, .int .i64 prev, .int .i64 id, .int .i64 page, .int .i64 frm, .slice pb before.length cb, .slice pa after.length ca, .int .i64 next, .slice pr rows.length cr, .slice pd dirty.length cd] 26) := ⟨_, rfl⟩
  have ba : Blk wa w.heap.size 26 [.int .i64 1, .int .i64 birth, .int .i64 prev, .int .i64 id, .int .i64 page, .int .i64 frm, .slice pb before.length cb, .slice pa after.length ca, .int .i64 next, .slice pr rows.length cr, .slice pd dirty.length cd] := by rw [hwa]; exact Blk.new w _ _
  have KA := @hideH _ (show Kept [] w wa by rw [hwa]; exact (Kept.refl [] w).alloc _)
  have c0 := ba.cell (j := 0) rfl
  have c1 := ba.cell (j := 1) rfl
  have c2 := ba.cell (j := 2) rfl
  have c3 := ba.cell (j := 3) rfl
  have c4 := ba.cell (j := 4) rfl
  have c5 := ba.cell (j := 5) rfl
  have c6 := ba.cell (j := 6) rfl
  have c7 := ba.cell (j := 7) rfl
  have c8 := ba.cell (j := 8) rfl
  have c9 := ba.cell (j := 9) rfl
  have c10 := ba.cell (j := 10) rfl
  have HBA := @hideH _ ba
  clear ba
  go_enter Try.func31, Try.ntmps31
  go_upto_region 1 with fail
  rw [← hwa]
  clear hwa
  go_wp2_with fail
  refine (h1 _).mono ?_
  rintro e w1 ⟨u1, rfl, a1⟩
  have REL := @hideH _ (a1.low KA.out)
  clear a1
  go_wp2
  go_ret
  exact ⟨_, rfl, REL.out⟩
set_option maxRecDepth 20000 in
set_option maxHeartbeats 6400000 in
theorem qKind_2 (V : RV) (birth prev id page frm : Int) (before after : List UInt8) (next : Int) (rows : List RowR) (dirty : List RecR) (w : World) (h : SeeR w V (⟨2, birth, prev, id, page, frm, before, after, next, rows, dirty⟩ : Rcd)) (hR : (⟨2, birth, prev, id, page, frm, before, after, next, rows, dirty⟩ : Rcd).Right) : Calls Try.prog 31 #[(⟨2, birth, prev, id, page, frm, before, after, next, rows, dirty⟩ : Rcd).agg V] w fun e w' => ∃ u, e = .returned u ∧ Acc w w' u (tailB (⟨2, birth, prev, id, page, frm, before, after, next, rows, dirty⟩ : Rcd)) := by
  obtain ⟨pb, cb, pa, ca, pr, cr, pd, cd, rfl⟩ := h.shapes
  have hrg : rangedOk (⟨2, birth, prev, id, page, frm, before, after, next, rows, dirty⟩ : Rcd) := by have q := hR.2.2.2.2.2.1; simp at q; exact q
  have hRB := fun wz (kz : Kept [] w wz) => qRangeB (⟨.slice pb before.length cb, .slice pa after.length ca, .slice pr rows.length cr, .slice pd dirty.length cd⟩ : RV) (⟨2, birth, prev, id, page, frm, before, after, next, rows, dirty⟩ : Rcd) wz (h.kept kz) hrg
  have hpt : partsOk (⟨2, birth, prev, id, page, frm, before, after, next, rows, dirty⟩ : Rcd) := by have q := hR.2.2.2.2.2.2; simp at q; exact q
  have eT : tailB (⟨2, birth, prev, id, page, frm, before, after, next, rows, dirty⟩ : Rcd) = flat [rangeB (⟨2, birth, prev, id, page, frm, before, after, next, rows, dirty⟩ : Rcd), before, after] := by rw [flat3]; unfold tailB rangeB; simp
  have HLN := @hideH _ (show (flat [rangeB (⟨2, birth, prev, id, page, frm, before, after, next, rows, dirty⟩ : Rcd), before, after]).length ≤ 100000 by rw [flat3]; simp only [List.length_append, rangeB_length]; have q1 := hrg.2.1.2; have q2 := hpt.1; simp only at q1 q2; omega)
  rw [eT]
  have HB := @hideH _ h.before
  have HAF := @hideH _ h.after
  clear eT hrg hR h hpt
  unfold Rcd.agg at hRB ⊢
  dsimp only at hRB HB HAF ⊢
  generalize rangeB (⟨2, birth, prev, id, page, frm, before, after, next, rows, dirty⟩ : Rcd) = RB at hRB HLN ⊢
  obtain ⟨wa, hwa⟩ : ∃ wa, wa = w.alloc (.cells #[.int .i64 2, .int .i64 birth, .int .i64 prev, .int .i64 id, .int .i64 page, .int .i64 frm, .slice pb before.length cb, .slice pa after.length ca, .int .i64 next, .slice pr rows.length cr, .slice pd dirty.length cd] 26) := ⟨_, rfl⟩
  have ba : Blk wa w.heap.size 26 [.int .i64 2, .int .i64 birth, .int .i64 prev, .int .i64 id, .int .i64 page, .int .i64 frm, .slice pb before.length cb, .slice pa after.length ca, .int .i64 next, .slice pr rows.length cr, .slice pd dirty.length cd] := by rw [hwa]; exact Blk.new w _ _
  have KA := @hideH _ (show Kept [] w wa by rw [hwa]; exact (Kept.refl [] w).alloc _)
  have c0 := ba.cell (j := 0) rfl
  have c1 := ba.cell (j := 1) rfl
  have c2 := ba.cell (j := 2) rfl
  have c3 := ba.cell (j := 3) rfl
  have c4 := ba.cell (j := 4) rfl
  have c5 := ba.cell (j := 5) rfl
  have c6 := ba.cell (j := 6) rfl
  have c7 := ba.cell (j := 7) rfl
  have c8 := ba.cell (j := 8) rfl
  have c9 := ba.cell (j := 9) rfl
  have c10 := ba.cell (j := 10) rfl
  have HBA := @hideH _ ba
  clear ba
  go_enter Try.func31, Try.ntmps31
  go_upto_region 1 with fail
  rw [← hwa]
  clear hwa
  have kx : Kept [] wa wa.drew := (Kept.refl [] wa).drew
  go_upto_region 5 with fail
  go_region_held3 (fun w' => w'.cell? ⟨w.heap.size, 0, none⟩ = some (.int .i64 2) ∧ w'.cell? ⟨w.heap.size, 1, none⟩ = some (.int .i64 birth) ∧ w'.cell? ⟨w.heap.size, 2, none⟩ = some (.int .i64 prev) ∧ w'.cell? ⟨w.heap.size, 3, none⟩ = some (.int .i64 id) ∧ w'.cell? ⟨w.heap.size, 4, none⟩ = some (.int .i64 page) ∧ w'.cell? ⟨w.heap.size, 5, none⟩ = some (.int .i64 frm) ∧ w'.cell? ⟨w.heap.size, 6, none⟩ = some (.slice pb before.length cb) ∧ w'.cell? ⟨w.heap.size, 7, none⟩ = some (.slice pa after.length ca) ∧ w'.cell? ⟨w.heap.size, 8, none⟩ = some (.int .i64 next) ∧ w'.cell? ⟨w.heap.size, 9, none⟩ = some (.slice pr rows.length cr) ∧ w'.cell? ⟨w.heap.size, 10, none⟩ = some (.slice pd dirty.length cd))
    (first | (with_reducible exact ⟨kx.cell c0 (by simp), kx.cell c1 (by simp), kx.cell c2 (by simp), kx.cell c3 (by simp), kx.cell c4 (by simp), kx.cell c5 (by simp), kx.cell c6 (by simp), kx.cell c7 (by simp), kx.cell c8 (by simp), kx.cell c9 (by simp), kx.cell c10 (by simp)⟩) | (with_reducible exact ⟨(kx.alloc _).cell c0 (by simp), (kx.alloc _).cell c1 (by simp), (kx.alloc _).cell c2 (by simp), (kx.alloc _).cell c3 (by simp), (kx.alloc _).cell c4 (by simp), (kx.alloc _).cell c5 (by simp), (kx.alloc _).cell c6 (by simp), (kx.alloc _).cell c7 (by simp), (kx.alloc _).cell c8 (by simp), (kx.alloc _).cell c9 (by simp), (kx.alloc _).cell c10 (by simp)⟩) | fail)
    (first
      | (go_at_call 51; refine (hRB _ (KA.out.then kx)).mono ?_; rintro e w1 ⟨u1, rfl, a1⟩; obtain ⟨p1, q1, rfl⟩ := own_shape2 a1.1; replace kx := kx.then a1.2)
      | (go_at_call 28; refine (qJoin _ [RB, before, after] _ (Bss.lit3 w1 _ _ _ _ _ _ _ a1.bs (HB.out.kept (KA.out.then kx)) (HAF.out.kept (KA.out.then kx)) _ rfl) HLN.out).mono ?_; rintro e wj ⟨uj, rfl, aj⟩; have ky := kx; replace kx := (kx.alloc _).then aj.2)
      | fail)
  have REL := @hideH _ (aj.low ((KA.out.then ky).alloc _))
  clear aj ky kx a1 hRB
  go_wp2
  go_ret
  exact ⟨_, rfl, REL.out⟩
set_option maxRecDepth 20000 in
set_option maxHeartbeats 6400000 in
theorem qKind_3 (V : RV) (birth prev id page frm : Int) (before after : List UInt8) (next : Int) (rows : List RowR) (dirty : List RecR) (w : World) (h : SeeR w V (⟨3, birth, prev, id, page, frm, before, after, next, rows, dirty⟩ : Rcd)) (hR : (⟨3, birth, prev, id, page, frm, before, after, next, rows, dirty⟩ : Rcd).Right) : Calls Try.prog 31 #[(⟨3, birth, prev, id, page, frm, before, after, next, rows, dirty⟩ : Rcd).agg V] w fun e w' => ∃ u, e = .returned u ∧ Acc w w' u (tailB (⟨3, birth, prev, id, page, frm, before, after, next, rows, dirty⟩ : Rcd)) := by
  obtain ⟨pb, cb, pa, ca, pr, cr, pd, cd, rfl⟩ := h.shapes
  have hrg : rangedOk (⟨3, birth, prev, id, page, frm, before, after, next, rows, dirty⟩ : Rcd) := by have q := hR.2.2.2.2.2.1; simp at q; exact q
  have hRB := fun wz (kz : Kept [] w wz) => qRangeB (⟨.slice pb before.length cb, .slice pa after.length ca, .slice pr rows.length cr, .slice pd dirty.length cd⟩ : RV) (⟨3, birth, prev, id, page, frm, before, after, next, rows, dirty⟩ : Rcd) wz (h.kept kz) hrg
  have hnx : nextOk next := by have q := hR.2.2.2.2.1; simp at q; exact q
  have h8 := fun w => qEight next w hnx.1 hnx.2
  have eT : tailB (⟨3, birth, prev, id, page, frm, before, after, next, rows, dirty⟩ : Rcd) = flat [rangeB (⟨3, birth, prev, id, page, frm, before, after, next, rows, dirty⟩ : Rcd), after, putN 8 next.toNat] := by rw [flat3]; unfold tailB rangeB; simp
  have HLN := @hideH _ (show (flat [rangeB (⟨3, birth, prev, id, page, frm, before, after, next, rows, dirty⟩ : Rcd), after, putN 8 next.toNat]).length ≤ 100000 by rw [flat3]; simp only [List.length_append, rangeB_length, putN_length]; have q1 := hrg.2.1.2; simp only at q1; omega)
  rw [eT]
  have HB := @hideH _ h.before
  have HAF := @hideH _ h.after
  clear eT hrg hR h hnx
  unfold Rcd.agg at hRB ⊢
  dsimp only at hRB HB HAF ⊢
  generalize rangeB (⟨3, birth, prev, id, page, frm, before, after, next, rows, dirty⟩ : Rcd) = RB at hRB HLN ⊢
  obtain ⟨wa, hwa⟩ : ∃ wa, wa = w.alloc (.cells #[.int .i64 3, .int .i64 birth, .int .i64 prev, .int .i64 id, .int .i64 page, .int .i64 frm, .slice pb before.length cb, .slice pa after.length ca, .int .i64 next, .slice pr rows.length cr, .slice pd dirty.length cd] 26) := ⟨_, rfl⟩
  have ba : Blk wa w.heap.size 26 [.int .i64 3, .int .i64 birth, .int .i64 prev, .int .i64 id, .int .i64 page, .int .i64 frm, .slice pb before.length cb, .slice pa after.length ca, .int .i64 next, .slice pr rows.length cr, .slice pd dirty.length cd] := by rw [hwa]; exact Blk.new w _ _
  have KA := @hideH _ (show Kept [] w wa by rw [hwa]; exact (Kept.refl [] w).alloc _)
  have c0 := ba.cell (j := 0) rfl
  have c1 := ba.cell (j := 1) rfl
  have c2 := ba.cell (j := 2) rfl
  have c3 := ba.cell (j := 3) rfl
  have c4 := ba.cell (j := 4) rfl
  have c5 := ba.cell (j := 5) rfl
  have c6 := ba.cell (j := 6) rfl
  have c7 := ba.cell (j := 7) rfl
  have c8 := ba.cell (j := 8) rfl
  have c9 := ba.cell (j := 9) rfl
  have c10 := ba.cell (j := 10) rfl
  have HBA := @hideH _ ba
  clear ba
  go_enter Try.func31, Try.ntmps31
  go_upto_region 1 with fail
  rw [← hwa]
  clear hwa
  have kx : Kept [] wa wa.drew := (Kept.refl [] wa).drew
  go_upto_region 7 with fail
  go_region_held3 (fun w' => w'.cell? ⟨w.heap.size, 0, none⟩ = some (.int .i64 3) ∧ w'.cell? ⟨w.heap.size, 1, none⟩ = some (.int .i64 birth) ∧ w'.cell? ⟨w.heap.size, 2, none⟩ = some (.int .i64 prev) ∧ w'.cell? ⟨w.heap.size, 3, none⟩ = some (.int .i64 id) ∧ w'.cell? ⟨w.heap.size, 4, none⟩ = some (.int .i64 page) ∧ w'.cell? ⟨w.heap.size, 5, none⟩ = some (.int .i64 frm) ∧ w'.cell? ⟨w.heap.size, 6, none⟩ = some (.slice pb before.length cb) ∧ w'.cell? ⟨w.heap.size, 7, none⟩ = some (.slice pa after.length ca) ∧ w'.cell? ⟨w.heap.size, 8, none⟩ = some (.int .i64 next) ∧ w'.cell? ⟨w.heap.size, 9, none⟩ = some (.slice pr rows.length cr) ∧ w'.cell? ⟨w.heap.size, 10, none⟩ = some (.slice pd dirty.length cd))
    (first | (with_reducible exact ⟨kx.cell c0 (by simp), kx.cell c1 (by simp), kx.cell c2 (by simp), kx.cell c3 (by simp), kx.cell c4 (by simp), kx.cell c5 (by simp), kx.cell c6 (by simp), kx.cell c7 (by simp), kx.cell c8 (by simp), kx.cell c9 (by simp), kx.cell c10 (by simp)⟩) | (with_reducible exact ⟨(kx.alloc _).cell c0 (by simp), (kx.alloc _).cell c1 (by simp), (kx.alloc _).cell c2 (by simp), (kx.alloc _).cell c3 (by simp), (kx.alloc _).cell c4 (by simp), (kx.alloc _).cell c5 (by simp), (kx.alloc _).cell c6 (by simp), (kx.alloc _).cell c7 (by simp), (kx.alloc _).cell c8 (by simp), (kx.alloc _).cell c9 (by simp), (kx.alloc _).cell c10 (by simp)⟩) | fail)
    (first
      | (go_at_call 51; refine (hRB _ (KA.out.then kx)).mono ?_; rintro e w1 ⟨u1, rfl, a1⟩; obtain ⟨p1, q1, rfl⟩ := own_shape2 a1.1; replace kx := kx.then a1.2)
      | (go_at_call 30; refine (h8 _).mono ?_; rintro e w2 ⟨u2, rfl, a2⟩; obtain ⟨p2, q2, rfl⟩ := own_shape2 a2.1; replace kx := kx.then a2.2)
      | (go_at_call 28; refine (qJoin _ [RB, after, putN 8 next.toNat] _ (Bss.lit3 w2 _ _ _ _ _ _ _ (a1.then a2.2).bs (HAF.out.kept (KA.out.then kx)) a2.bs _ rfl) HLN.out).mono ?_; rintro e wj ⟨uj, rfl, aj⟩; have ky := kx; replace kx := (kx.alloc _).then aj.2)
      | fail)
  have REL := @hideH _ (aj.low ((KA.out.then ky).alloc _))
  clear aj ky kx a1 a2 h8 hRB
  go_wp2
  go_ret
  exact ⟨_, rfl, REL.out⟩
set_option maxRecDepth 20000 in
set_option maxHeartbeats 6400000 in
theorem qKind_4 (V : RV) (birth prev id page frm : Int) (before after : List UInt8) (next : Int) (rows : List RowR) (dirty : List RecR) (w : World) (h : SeeR w V (⟨4, birth, prev, id, page, frm, before, after, next, rows, dirty⟩ : Rcd)) (hR : (⟨4, birth, prev, id, page, frm, before, after, next, rows, dirty⟩ : Rcd).Right) : Calls Try.prog 31 #[(⟨4, birth, prev, id, page, frm, before, after, next, rows, dirty⟩ : Rcd).agg V] w fun e w' => ∃ u, e = .returned u ∧ Acc w w' u (tailB (⟨4, birth, prev, id, page, frm, before, after, next, rows, dirty⟩ : Rcd)) := by
  obtain ⟨pb, cb, pa, ca, pr, cr, pd, cd, rfl⟩ := h.shapes
  have eT : tailB (⟨4, birth, prev, id, page, frm, before, after, next, rows, dirty⟩ : Rcd) = [] := by unfold tailB; simp
  rw [eT]
  clear eT hR h
  unfold Rcd.agg
  dsimp only
  obtain ⟨wa, hwa⟩ : ∃ wa, wa = w.alloc (.cells #[.int .i64 4, .int .i64 birth, .int .i64 prev, .int .i64 id, .int .i64 page, .int .i64 frm, .slice pb before.length cb, .slice pa after.length ca, .int .i64 next, .slice pr rows.length cr, .slice pd dirty.length cd] 26) := ⟨_, rfl⟩
  have ba : Blk wa w.heap.size 26 [.int .i64 4, .int .i64 birth, .int .i64 prev, .int .i64 id, .int .i64 page, .int .i64 frm, .slice pb before.length cb, .slice pa after.length ca, .int .i64 next, .slice pr rows.length cr, .slice pd dirty.length cd] := by rw [hwa]; exact Blk.new w _ _
  have KA := @hideH _ (show Kept [] w wa by rw [hwa]; exact (Kept.refl [] w).alloc _)
  have c0 := ba.cell (j := 0) rfl
  have c1 := ba.cell (j := 1) rfl
  have c2 := ba.cell (j := 2) rfl
  have c3 := ba.cell (j := 3) rfl
  have c4 := ba.cell (j := 4) rfl
  have c5 := ba.cell (j := 5) rfl
  have c6 := ba.cell (j := 6) rfl
  have c7 := ba.cell (j := 7) rfl
  have c8 := ba.cell (j := 8) rfl
  have c9 := ba.cell (j := 9) rfl
  have c10 := ba.cell (j := 10) rfl
  have HBA := @hideH _ ba
  clear ba
  go_enter Try.func31, Try.ntmps31
  go_upto_region 1 with fail
  rw [← hwa]
  clear hwa
  go_wp2
  go_ret
  exact ⟨_, rfl, Acc.nil KA.out⟩
set_option maxRecDepth 20000 in
set_option maxHeartbeats 6400000 in
theorem qKind_5 (V : RV) (birth prev id page frm : Int) (before after : List UInt8) (next : Int) (rows : List RowR) (dirty : List RecR) (w : World) (h : SeeR w V (⟨5, birth, prev, id, page, frm, before, after, next, rows, dirty⟩ : Rcd)) (hR : (⟨5, birth, prev, id, page, frm, before, after, next, rows, dirty⟩ : Rcd).Right) : Calls Try.prog 31 #[(⟨5, birth, prev, id, page, frm, before, after, next, rows, dirty⟩ : Rcd).agg V] w fun e w' => ∃ u, e = .returned u ∧ Acc w w' u (tailB (⟨5, birth, prev, id, page, frm, before, after, next, rows, dirty⟩ : Rcd)) := by
  obtain ⟨pb, cb, pa, ca, pr, cr, pd, cd, rfl⟩ := h.shapes
  have eT : tailB (⟨5, birth, prev, id, page, frm, before, after, next, rows, dirty⟩ : Rcd) = [] := by unfold tailB; simp
  rw [eT]
  clear eT hR h
  unfold Rcd.agg
  dsimp only
  obtain ⟨wa, hwa⟩ : ∃ wa, wa = w.alloc (.cells #[.int .i64 5, .int .i64 birth, .int .i64 prev, .int .i64 id, .int .i64 page, .int .i64 frm, .slice pb before.length cb, .slice pa after.length ca, .int .i64 next, .slice pr rows.length cr, .slice pd dirty.length cd] 26) := ⟨_, rfl⟩
  have ba : Blk wa w.heap.size 26 [.int .i64 5, .int .i64 birth, .int .i64 prev, .int .i64 id, .int .i64 page, .int .i64 frm, .slice pb before.length cb, .slice pa after.length ca, .int .i64 next, .slice pr rows.length cr, .slice pd dirty.length cd] := by rw [hwa]; exact Blk.new w _ _
  have KA := @hideH _ (show Kept [] w wa by rw [hwa]; exact (Kept.refl [] w).alloc _)
  have c0 := ba.cell (j := 0) rfl
  have c1 := ba.cell (j := 1) rfl
  have c2 := ba.cell (j := 2) rfl
  have c3 := ba.cell (j := 3) rfl
  have c4 := ba.cell (j := 4) rfl
  have c5 := ba.cell (j := 5) rfl
  have c6 := ba.cell (j := 6) rfl
  have c7 := ba.cell (j := 7) rfl
  have c8 := ba.cell (j := 8) rfl
  have c9 := ba.cell (j := 9) rfl
  have c10 := ba.cell (j := 10) rfl
  have HBA := @hideH _ ba
  clear ba
  go_enter Try.func31, Try.ntmps31
  go_upto_region 1 with fail
  rw [← hwa]
  clear hwa
  go_wp2
  go_ret
  exact ⟨_, rfl, Acc.nil KA.out⟩
set_option maxRecDepth 20000 in
set_option maxHeartbeats 6400000 in
theorem qKind_6 (V : RV) (birth prev id page frm : Int) (before after : List UInt8) (next : Int) (rows : List RowR) (dirty : List RecR) (w : World) (h : SeeR w V (⟨6, birth, prev, id, page, frm, before, after, next, rows, dirty⟩ : Rcd)) (hR : (⟨6, birth, prev, id, page, frm, before, after, next, rows, dirty⟩ : Rcd).Right) : Calls Try.prog 31 #[(⟨6, birth, prev, id, page, frm, before, after, next, rows, dirty⟩ : Rcd).agg V] w fun e w' => ∃ u, e = .returned u ∧ Acc w w' u (tailB (⟨6, birth, prev, id, page, frm, before, after, next, rows, dirty⟩ : Rcd)) := by
  obtain ⟨pb, cb, pa, ca, pr, cr, pd, cd, rfl⟩ := h.shapes
  have eT : tailB (⟨6, birth, prev, id, page, frm, before, after, next, rows, dirty⟩ : Rcd) = [] := by unfold tailB; simp
  rw [eT]
  clear eT hR h
  unfold Rcd.agg
  dsimp only
  obtain ⟨wa, hwa⟩ : ∃ wa, wa = w.alloc (.cells #[.int .i64 6, .int .i64 birth, .int .i64 prev, .int .i64 id, .int .i64 page, .int .i64 frm, .slice pb before.length cb, .slice pa after.length ca, .int .i64 next, .slice pr rows.length cr, .slice pd dirty.length cd] 26) := ⟨_, rfl⟩
  have ba : Blk wa w.heap.size 26 [.int .i64 6, .int .i64 birth, .int .i64 prev, .int .i64 id, .int .i64 page, .int .i64 frm, .slice pb before.length cb, .slice pa after.length ca, .int .i64 next, .slice pr rows.length cr, .slice pd dirty.length cd] := by rw [hwa]; exact Blk.new w _ _
  have KA := @hideH _ (show Kept [] w wa by rw [hwa]; exact (Kept.refl [] w).alloc _)
  have c0 := ba.cell (j := 0) rfl
  have c1 := ba.cell (j := 1) rfl
  have c2 := ba.cell (j := 2) rfl
  have c3 := ba.cell (j := 3) rfl
  have c4 := ba.cell (j := 4) rfl
  have c5 := ba.cell (j := 5) rfl
  have c6 := ba.cell (j := 6) rfl
  have c7 := ba.cell (j := 7) rfl
  have c8 := ba.cell (j := 8) rfl
  have c9 := ba.cell (j := 9) rfl
  have c10 := ba.cell (j := 10) rfl
  have HBA := @hideH _ ba
  clear ba
  go_enter Try.func31, Try.ntmps31
  go_upto_region 1 with fail
  rw [← hwa]
  clear hwa
  go_wp2
  go_ret
  exact ⟨_, rfl, Acc.nil KA.out⟩
set_option maxRecDepth 20000 in
set_option maxHeartbeats 6400000 in
theorem qKind_7 (V : RV) (birth prev id page frm : Int) (before after : List UInt8) (next : Int) (rows : List RowR) (dirty : List RecR) (w : World) (h : SeeR w V (⟨7, birth, prev, id, page, frm, before, after, next, rows, dirty⟩ : Rcd)) (hR : (⟨7, birth, prev, id, page, frm, before, after, next, rows, dirty⟩ : Rcd).Right) : Calls Try.prog 31 #[(⟨7, birth, prev, id, page, frm, before, after, next, rows, dirty⟩ : Rcd).agg V] w fun e w' => ∃ u, e = .returned u ∧ Acc w w' u (tailB (⟨7, birth, prev, id, page, frm, before, after, next, rows, dirty⟩ : Rcd)) := by
  obtain ⟨pb, cb, pa, ca, pr, cr, pd, cd, rfl⟩ := h.shapes
  have hls := (listsOk_iff (⟨7, birth, prev, id, page, frm, before, after, next, rows, dirty⟩ : Rcd)).1 (by have q := hR.2.2.2.1; simp at q; exact q)
  have ht := fun wz (kz : Kept [] w wz) => qTableB _ rows wz (h.rows.kept kz) hls.1
  have hd := fun wz (kz : Kept [] w wz) => qDirtyB _ dirty wz (h.dirty.kept kz) hls.2
  have eT : tailB (⟨7, birth, prev, id, page, frm, before, after, next, rows, dirty⟩ : Rcd) = flat [putN 1 rows.length ++ flatB rowB rows, putN 1 dirty.length ++ flatB recB dirty] := by rw [flat2]; unfold tailB; simp
  have HLN := @hideH _ (show (flat [putN 1 rows.length ++ flatB rowB rows, putN 1 dirty.length ++ flatB recB dirty]).length ≤ 100000 by rw [flat2]; simp only [List.length_append, putN_length]; rw [flatB_len rowB 26 _ (fun x _ => rowB_len x), flatB_len recB 9 _ (fun x _ => recB_len x)]; have q1 := hls.1.1; have q2 := hls.2.1; simp only at q1 q2; omega)
  rw [eT]
  clear eT hls hR h
  unfold Rcd.agg
  dsimp only at ht hd ⊢
  generalize putN 1 rows.length ++ flatB rowB rows = TB at ht HLN ⊢
  generalize putN 1 dirty.length ++ flatB recB dirty = DB at hd HLN ⊢
  obtain ⟨wa, hwa⟩ : ∃ wa, wa = w.alloc (.cells #[.int .i64 7, .int .i64 birth, .int .i64 prev, .int .i64 id, .int .i64 page, .int .i64 frm, .slice pb before.length cb, .slice pa after.length ca, .int .i64 next, .slice pr rows.length cr, .slice pd dirty.length cd] 26) := ⟨_, rfl⟩
  have ba : Blk wa w.heap.size 26 [.int .i64 7, .int .i64 birth, .int .i64 prev, .int .i64 id, .int .i64 page, .int .i64 frm, .slice pb before.length cb, .slice pa after.length ca, .int .i64 next, .slice pr rows.length cr, .slice pd dirty.length cd] := by rw [hwa]; exact Blk.new w _ _
  have KA := @hideH _ (show Kept [] w wa by rw [hwa]; exact (Kept.refl [] w).alloc _)
  have c0 := ba.cell (j := 0) rfl
  have c1 := ba.cell (j := 1) rfl
  have c2 := ba.cell (j := 2) rfl
  have c3 := ba.cell (j := 3) rfl
  have c4 := ba.cell (j := 4) rfl
  have c5 := ba.cell (j := 5) rfl
  have c6 := ba.cell (j := 6) rfl
  have c7 := ba.cell (j := 7) rfl
  have c8 := ba.cell (j := 8) rfl
  have c9 := ba.cell (j := 9) rfl
  have c10 := ba.cell (j := 10) rfl
  have HBA := @hideH _ ba
  clear ba
  go_enter Try.func31, Try.ntmps31
  go_upto_region 1 with fail
  rw [← hwa]
  clear hwa
  have kx : Kept [] wa wa.drew := (Kept.refl [] wa).drew
  go_upto_region 9 with fail
  go_region_held3 (fun w' => w'.cell? ⟨w.heap.size, 9, none⟩ = some (.slice pr rows.length cr) ∧ w'.cell? ⟨w.heap.size, 10, none⟩ = some (.slice pd dirty.length cd))
    (first | (with_reducible exact ⟨kx.cell c9 (by simp), kx.cell c10 (by simp)⟩) | (with_reducible exact ⟨(kx.alloc _).cell c9 (by simp), (kx.alloc _).cell c10 (by simp)⟩) | fail)
    (first
      | (go_at_call 52; refine (ht _ (KA.out.then kx)).mono ?_; rintro e w1 ⟨u1, rfl, a1⟩; obtain ⟨p1, q1, rfl⟩ := own_shape2 a1.1; replace kx := kx.then a1.2)
      | (go_at_call 53; refine (hd _ (KA.out.then kx)).mono ?_; rintro e w2 ⟨u2, rfl, a2⟩; obtain ⟨p2, q2, rfl⟩ := own_shape2 a2.1; replace kx := kx.then a2.2)
      | (go_at_call 28; refine (qJoin _ [TB, DB] _ (Bss.lit2 w2 _ _ _ _ _ (a1.then a2.2).bs a2.bs _ rfl) HLN.out).mono ?_; rintro e wj ⟨uj, rfl, aj⟩; have ky := kx; replace kx := (kx.alloc _).then aj.2)
      | fail)
  have REL := @hideH _ (aj.low ((KA.out.then ky).alloc _))
  clear aj ky kx a1 a2 ht hd
  go_wp2
  go_ret
  exact ⟨_, rfl, REL.out⟩
theorem qKind (V : RV) (r : Rcd) (w : World) (h : SeeR w V r) (hR : r.Right) : Calls Try.prog 31 #[r.agg V] w fun e w' => ∃ u, e = .returned u ∧ Acc w w' u (tailB r) := by
  obtain ⟨kind, birth, prev, id, page, frm, before, after, next, rows, dirty⟩ := r
  have : kind = 1 ∨ kind = 2 ∨ kind = 3 ∨ kind = 4 ∨ kind = 5 ∨ kind = 6 ∨ kind = 7 := by have hk := hR.1; simp only at hk; omega
  rcases this with rfl | rfl | rfl | rfl | rfl | rfl | rfl
  · exact qKind_1 V birth prev id page frm before after next rows dirty w h hR
  · exact qKind_2 V birth prev id page frm before after next rows dirty w h hR
  · exact qKind_3 V birth prev id page frm before after next rows dirty w h hR
  · exact qKind_4 V birth prev id page frm before after next rows dirty w h hR
  · exact qKind_5 V birth prev id page frm before after next rows dirty w h hR
  · exact qKind_6 V birth prev id page frm before after next rows dirty w h hR
  · exact qKind_7 V birth prev id page frm before after next rows dirty w h hR
end Go.Proofs.Ytebcmcmboomgfaa

/-
  OWN WORK. The laws of record: size, by the table.
-/
namespace Go.Proofs.Ytebcmcmboomgfaa
open Go.RowKit
set_option linter.unusedVariables false
set_option linter.unusedSimpArgs false

theorem flatB_length {α : Type} {f : α → List UInt8} {n : Nat} (h : ∀ a, (f a).length = n) : ∀ (l : List α), (flatB f l).length = n * l.length
  | [] => by simp [flatB]
  | a :: r => by simp [flatB, h a, flatB_length h r, Nat.mul_add, Nat.add_comm]
theorem rowB_length (x : RowR) : (rowB x).length = 26 := by simp [rowB, putN_length]
theorem recB_length (x : RecR) : (recB x).length = 9 := by simp [recB, putN_length]
/-- the table -/
def sizeT (r : Rcd) : Nat := if r.kind = 1 then 18 else if r.kind = 2 then 22 + 2 * r.after.length else if r.kind = 3 then 30 + r.after.length else if r.kind = 7 then 19 + 26 * r.rows.length + 9 * r.dirty.length else 17
theorem bytesR_length {r : Rcd} (h : r.Right) : (bytesR r).length = sizeT r := by
  obtain ⟨-, -, -, -, -, -, hp⟩ := h
  unfold bytesR sizeT tailB
  by_cases h1 : r.kind = 1
  · simp [h1, putN_length]
  by_cases h2 : r.kind = 2
  · rw [if_pos h2] at hp
    have := hp.1
    simp [h1, h2, putN_length]
    omega
  by_cases h3 : r.kind = 3
  · simp [h1, h2, h3, putN_length]
    omega
  by_cases h7 : r.kind = 7
  · simp [h1, h2, h3, h7, putN_length, flatB_length rowB_length, flatB_length recB_length]
    omega
  · simp [h1, h2, h3, h7, putN_length]
set_option maxRecDepth 20000 in
set_option maxHeartbeats 3200000 in
theorem size_any (V : RV) (r : Rcd) (w : World) (h : SeeR w V r) (hR : r.Right) : Calls Try.prog 15 #[r.agg V] w fun e w' => e = .returned (.int .i64 ((bytesR r).length : Int)) ∧ Kept [] w w' := by
  rw [bytesR_length hR]
  obtain ⟨pb, cb, pa, ca, pr, cr, pd, cd, rfl⟩ := h.shapes
  have hma : r.after.length ≤ maxLen := by obtain ⟨_, _, e, h1, h2, _⟩ := h.after; cases e; exact Nat.le_trans h1 h2
  have hlim : (r.kind = 7 → r.rows.length ≤ 8 ∧ r.dirty.length ≤ 16) ∧ r.after.length ≤ 140737488355328 ∨ True := .inr trivial
  have h8 : r.kind = 7 → r.rows.length ≤ 8 ∧ r.dirty.length ≤ 16 := fun e => by have := hR.2.2.2.1; rw [if_pos e] at this; exact this.1
  have ha8 : r.kind = 2 ∨ r.kind = 3 → r.after.length ≤ 128 := fun e => by have := hR.2.2.2.2.2.1; rw [if_pos e] at this; exact this.2.1.2
  obtain ⟨kind, birth, prev, id, page, frm, before, after, next, rows, dirty⟩ := r
  clear h hR hma hlim
  unfold Rcd.agg sizeT
  dsimp only at h8 ha8 ⊢
  obtain ⟨na, hna⟩ : ∃ na, na = after.length := ⟨_, rfl⟩
  obtain ⟨nr, hnr⟩ : ∃ nr, nr = rows.length := ⟨_, rfl⟩
  obtain ⟨nd, hnd⟩ : ∃ nd, nd = dirty.length := ⟨_, rfl⟩
  rw [← hna] at ha8
  rw [← hnr, ← hnd] at h8
  simp only [← hna, ← hnr, ← hnd]
  clear hna hnr hnd
  by_cases h1 : kind = 1
  · subst h1
    clear h8 ha8
    go_enter Try.func15, Try.ntmps15
    go_wp2
    go_ret
    exact ⟨rfl, (Kept.refl [] w).alloc _⟩
  have e1 : (kind == 1) = false := by simp [h1]
  by_cases h2 : kind = 2
  · subst h2
    have hb := ha8 (.inl rfl)
    have w1 : IntKind.i64.wrap (2 * (na : Int)) = 2 * (na : Int) := wrap_i64_of (by omega) (by omega)
    have w2 : IntKind.i64.wrap (22 + 2 * (na : Int)) = 22 + 2 * (na : Int) := wrap_i64_of (by omega) (by omega)
    clear h8 ha8 hb
    go_enter Try.func15, Try.ntmps15
    go_wp2
    go_ret
    exact ⟨by simp, (Kept.refl [] w).alloc _⟩
  have e2 : (kind == 2) = false := by simp [h2]
  by_cases h3 : kind = 3
  · subst h3
    have hb := ha8 (.inr rfl)
    have w2 : IntKind.i64.wrap (30 + (na : Int)) = 30 + (na : Int) := wrap_i64_of (by omega) (by omega)
    clear h8 ha8 hb
    go_enter Try.func15, Try.ntmps15
    go_wp2
    go_ret
    exact ⟨by simp, (Kept.refl [] w).alloc _⟩
  have e3 : (kind == 3) = false := by simp [h3]
  by_cases h7 : kind = 7
  · subst h7
    have hb := h8 rfl
    have w1 : IntKind.i64.wrap (26 * (nr : Int)) = 26 * (nr : Int) := wrap_i64_of (by omega) (by omega)
    have w2 : IntKind.i64.wrap (19 + 26 * (nr : Int)) = 19 + 26 * (nr : Int) := wrap_i64_of (by omega) (by omega)
    have w3 : IntKind.i64.wrap (9 * (nd : Int)) = 9 * (nd : Int) := wrap_i64_of (by omega) (by omega)
    have w4 : IntKind.i64.wrap (19 + 26 * (nr : Int) + 9 * (nd : Int)) = 19 + 26 * (nr : Int) + 9 * (nd : Int) := wrap_i64_of (by omega) (by omega)
    clear h8 ha8 hb
    go_enter Try.func15, Try.ntmps15
    go_wp2
    go_ret
    exact ⟨by simp, (Kept.refl [] w).alloc _⟩
  have e7 : (kind == 7) = false := by simp [h7]
  rw [if_neg h1, if_neg h2, if_neg h3, if_neg h7]
  clear h8 ha8
  go_enter Try.func15, Try.ntmps15
  go_wp2
  go_ret
  exact ⟨rfl, (Kept.refl [] w).alloc _⟩
end Go.Proofs.Ytebcmcmboomgfaa

/-
  OWN WORK (by mkpr4.py). record: Bytes, Size.
-/
namespace Go.Proofs.Ytebcmcmboomgfaa
open Go.RowKit
set_option linter.unusedVariables false
set_option linter.unusedSimpArgs false

theorem right_nums {r : Rcd} (h : r.Right) : (0 ≤ r.kind ∧ r.kind < 256) ∧ (0 ≤ r.birth ∧ r.birth ≤ 1152921504606846976) ∧ 0 ≤ r.prev ∧ r.prev ≤ 1152921504606846976 := by
  obtain ⟨⟨k1, k2⟩, hb, -⟩ := h
  refine ⟨by omega, ?_⟩
  split at hb
  · omega
  · obtain ⟨⟨a, a2⟩, b, b2⟩ := hb; omega
theorem bytesR_flat (r : Rcd) : bytesR r = flat [putN 1 r.kind.toNat, putN 8 r.birth.toNat, putN 8 r.prev.toNat, tailB r] := by rw [flat4]; rfl
theorem bytesR_small {r : Rcd} (h : r.Right) : (bytesR r).length ≤ 371 := by
  rw [bytesR_length h]
  unfold sizeT
  obtain ⟨-, -, -, hl, -, hr, -⟩ := h
  split
  · omega
  split
  · rename_i h2; simp [h2] at hr; have := hr.2.1.2; omega
  split
  · rename_i h3; simp [h3] at hr; have := hr.2.1.2; omega
  split
  · rename_i h7; simp [h7] at hl; have := hl.1; omega
  · omega
set_option maxRecDepth 20000 in
set_option maxHeartbeats 6400000 in
theorem qBytes_right (V : RV) (kind birth prev id page frm : Int) (before after : List UInt8) (next : Int) (rows : List RowR) (dirty : List RecR) (w : World) (h : SeeR w V (⟨kind, birth, prev, id, page, frm, before, after, next, rows, dirty⟩ : Rcd)) (hR : (⟨kind, birth, prev, id, page, frm, before, after, next, rows, dirty⟩ : Rcd).Right) : Calls Try.prog 10 #[(⟨kind, birth, prev, id, page, frm, before, after, next, rows, dirty⟩ : Rcd).agg V] w fun e w' => ∃ u, e = .returned (.tuple #[u, .int .i64 0]) ∧ Acc w w' u (bytesR (⟨kind, birth, prev, id, page, frm, before, after, next, rows, dirty⟩ : Rcd)) := by
  obtain ⟨pb, cb, pa, ca, pr, cr, pd, cd, rfl⟩ := h.shapes
  have hrt := fun wz (kz : Kept [] w wz) => qRight _ (⟨kind, birth, prev, id, page, frm, before, after, next, rows, dirty⟩ : Rcd) wz (h.kept kz)
  simp only [bl_t hR] at hrt
  have hkd := fun wz (kz : Kept [] w wz) => qKind _ (⟨kind, birth, prev, id, page, frm, before, after, next, rows, dirty⟩ : Rcd) wz (h.kept kz) hR
  have hn := right_nums hR
  simp only at hn
  have h1 := fun w => qOne kind w hn.1.1 hn.1.2
  have h2 := fun w => qEight birth w hn.2.1.1 hn.2.1.2
  have h3 := fun w => qEight prev w hn.2.2.1 hn.2.2.2
  have HLN := @hideH _ (show (flat [putN 1 kind.toNat, putN 8 birth.toNat, putN 8 prev.toNat, tailB (⟨kind, birth, prev, id, page, frm, before, after, next, rows, dirty⟩ : Rcd)]).length ≤ 100000 by have q := bytesR_small hR; rw [bytesR_flat] at q; simp only at q; omega)
  rw [bytesR_flat (⟨kind, birth, prev, id, page, frm, before, after, next, rows, dirty⟩ : Rcd)]
  clear hn hR h
  unfold Rcd.agg at hrt hkd ⊢
  dsimp only at hrt hkd ⊢
  generalize tailB (⟨kind, birth, prev, id, page, frm, before, after, next, rows, dirty⟩ : Rcd) = TB at hkd HLN ⊢
  obtain ⟨wa, hwa⟩ : ∃ wa, wa = w.alloc (.cells #[.int .i64 kind, .int .i64 birth, .int .i64 prev, .int .i64 id, .int .i64 page, .int .i64 frm, .slice pb before.length cb, .slice pa after.length ca, .int .i64 next, .slice pr rows.length cr, .slice pd dirty.length cd] 26) := ⟨_, rfl⟩
  have ba : Blk wa w.heap.size 26 [.int .i64 kind, .int .i64 birth, .int .i64 prev, .int .i64 id, .int .i64 page, .int .i64 frm, .slice pb before.length cb, .slice pa after.length ca, .int .i64 next, .slice pr rows.length cr, .slice pd dirty.length cd] := by rw [hwa]; exact Blk.new w _ _
  have KA := @hideH _ (show Kept [] w wa by rw [hwa]; exact (Kept.refl [] w).alloc _)
  have c0 := ba.cell (j := 0) rfl
  have c1 := ba.cell (j := 1) rfl
  have c2 := ba.cell (j := 2) rfl
  have c3 := ba.cell (j := 3) rfl
  have c4 := ba.cell (j := 4) rfl
  have c5 := ba.cell (j := 5) rfl
  have c6 := ba.cell (j := 6) rfl
  have c7 := ba.cell (j := 7) rfl
  have c8 := ba.cell (j := 8) rfl
  have c9 := ba.cell (j := 9) rfl
  have c10 := ba.cell (j := 10) rfl
  have HBA := @hideH _ ba
  clear ba
  go_enter Try.func10, Try.ntmps10
  go_upto_region 1 with fail
  rw [← hwa]
  clear hwa
  go_wp2_with fail
  refine (hrt _ KA.out).mono ?_
  rintro e w0 ⟨rfl, k0⟩
  clear hrt
  replace c0 := k0.cell c0 (by simp)
  replace c1 := k0.cell c1 (by simp)
  replace c2 := k0.cell c2 (by simp)
  replace c3 := k0.cell c3 (by simp)
  replace c4 := k0.cell c4 (by simp)
  replace c5 := k0.cell c5 (by simp)
  replace c6 := k0.cell c6 (by simp)
  replace c7 := k0.cell c7 (by simp)
  replace c8 := k0.cell c8 (by simp)
  replace c9 := k0.cell c9 (by simp)
  replace c10 := k0.cell c10 (by simp)
  have KB := @hideH _ (KA.out.then k0)
  clear k0 KA
  have tk : True := trivial
  have kx : Kept [] w0 w0.drew := (Kept.refl [] w0).drew
  go_upto_region 3 with fail
  go_region_held3 (fun w' => w'.cell? ⟨w.heap.size, 0, none⟩ = some (.int .i64 kind) ∧ w'.cell? ⟨w.heap.size, 1, none⟩ = some (.int .i64 birth) ∧ w'.cell? ⟨w.heap.size, 2, none⟩ = some (.int .i64 prev) ∧ w'.cell? ⟨w.heap.size, 3, none⟩ = some (.int .i64 id) ∧ w'.cell? ⟨w.heap.size, 4, none⟩ = some (.int .i64 page) ∧ w'.cell? ⟨w.heap.size, 5, none⟩ = some (.int .i64 frm) ∧ w'.cell? ⟨w.heap.size, 6, none⟩ = some (.slice pb before.length cb) ∧ w'.cell? ⟨w.heap.size, 7, none⟩ = some (.slice pa after.length ca) ∧ w'.cell? ⟨w.heap.size, 8, none⟩ = some (.int .i64 next) ∧ w'.cell? ⟨w.heap.size, 9, none⟩ = some (.slice pr rows.length cr) ∧ w'.cell? ⟨w.heap.size, 10, none⟩ = some (.slice pd dirty.length cd))
    (first | (with_reducible exact ⟨kx.cell c0 (by simp), kx.cell c1 (by simp), kx.cell c2 (by simp), kx.cell c3 (by simp), kx.cell c4 (by simp), kx.cell c5 (by simp), kx.cell c6 (by simp), kx.cell c7 (by simp), kx.cell c8 (by simp), kx.cell c9 (by simp), kx.cell c10 (by simp)⟩) | (with_reducible exact ⟨(kx.alloc _).cell c0 (by simp), (kx.alloc _).cell c1 (by simp), (kx.alloc _).cell c2 (by simp), (kx.alloc _).cell c3 (by simp), (kx.alloc _).cell c4 (by simp), (kx.alloc _).cell c5 (by simp), (kx.alloc _).cell c6 (by simp), (kx.alloc _).cell c7 (by simp), (kx.alloc _).cell c8 (by simp), (kx.alloc _).cell c9 (by simp), (kx.alloc _).cell c10 (by simp)⟩) | fail)
    (first
      | (go_at_call 29; refine (h1 _).mono ?_; rintro e w1 ⟨u1, rfl, a1⟩; obtain ⟨p1, q1, rfl⟩ := own_shape2 a1.1; replace kx := kx.then a1.2)
      | (go_at_call 30; clear tk; refine (h2 _).mono ?_; rintro e w2 ⟨u2, rfl, a2⟩; obtain ⟨p2, q2, rfl⟩ := own_shape2 a2.1; replace kx := kx.then a2.2)
      | (go_at_call 30; refine (h3 _).mono ?_; rintro e w3 ⟨u3, rfl, a3⟩; obtain ⟨p3, q3, rfl⟩ := own_shape2 a3.1; replace kx := kx.then a3.2)
      | (go_at_call 31; refine (hkd _ (KB.out.then kx)).mono ?_; rintro e w4 ⟨u4, rfl, a4⟩; obtain ⟨p4, q4, rfl⟩ := own_shape2 a4.1; replace kx := kx.then a4.2)
      | (go_at_call 28; refine (qJoin _ [putN 1 kind.toNat, putN 8 birth.toNat, putN 8 prev.toNat, TB] _ (Bss.lit4 w4 _ _ _ _ _ _ _ _ _ (((a1.then a2.2).then a3.2).then a4.2).bs ((a2.then a3.2).then a4.2).bs (a3.then a4.2).bs a4.bs _ rfl) HLN.out).mono ?_; rintro e wj ⟨uj, rfl, aj⟩; have ky := kx; replace kx := (kx.alloc _).then aj.2)
      | fail)
  have REL := @hideH _ (aj.low ((KB.out.then ky).alloc _))
  clear aj ky kx a1 a2 a3 a4 h1 h2 h3 hkd
  go_wp2
  go_ret2
  exact ⟨_, rfl, REL.out⟩
set_option maxHeartbeats 1600000 in
theorem qBytes_wrong (V : RV) (kind birth prev id page frm : Int) (before after : List UInt8) (next : Int) (rows : List RowR) (dirty : List RecR) (w : World) (h : SeeR w V (⟨kind, birth, prev, id, page, frm, before, after, next, rows, dirty⟩ : Rcd)) (hR : ¬ (⟨kind, birth, prev, id, page, frm, before, after, next, rows, dirty⟩ : Rcd).Right) : Calls Try.prog 10 #[(⟨kind, birth, prev, id, page, frm, before, after, next, rows, dirty⟩ : Rcd).agg V] w fun e w' => e = .returned (.tuple #[.slice none 0 0, .int .i64 90]) ∧ Kept [] w w' := by
  obtain ⟨pb, cb, pa, ca, pr, cr, pd, cd, rfl⟩ := h.shapes
  have hrt := fun wz (kz : Kept [] w wz) => qRight _ (⟨kind, birth, prev, id, page, frm, before, after, next, rows, dirty⟩ : Rcd) wz (h.kept kz)
  simp only [bl_f hR] at hrt
  clear hR h
  unfold Rcd.agg at hrt ⊢
  dsimp only at hrt ⊢
  obtain ⟨wa, hwa⟩ : ∃ wa, wa = w.alloc (.cells #[.int .i64 kind, .int .i64 birth, .int .i64 prev, .int .i64 id, .int .i64 page, .int .i64 frm, .slice pb before.length cb, .slice pa after.length ca, .int .i64 next, .slice pr rows.length cr, .slice pd dirty.length cd] 26) := ⟨_, rfl⟩
  have ba : Blk wa w.heap.size 26 [.int .i64 kind, .int .i64 birth, .int .i64 prev, .int .i64 id, .int .i64 page, .int .i64 frm, .slice pb before.length cb, .slice pa after.length ca, .int .i64 next, .slice pr rows.length cr, .slice pd dirty.length cd] := by rw [hwa]; exact Blk.new w _ _
  have KA := @hideH _ (show Kept [] w wa by rw [hwa]; exact (Kept.refl [] w).alloc _)
  have c0 := ba.cell (j := 0) rfl
  have c1 := ba.cell (j := 1) rfl
  have c2 := ba.cell (j := 2) rfl
  have c3 := ba.cell (j := 3) rfl
  have c4 := ba.cell (j := 4) rfl
  have c5 := ba.cell (j := 5) rfl
  have c6 := ba.cell (j := 6) rfl
  have c7 := ba.cell (j := 7) rfl
  have c8 := ba.cell (j := 8) rfl
  have c9 := ba.cell (j := 9) rfl
  have c10 := ba.cell (j := 10) rfl
  have HBA := @hideH _ ba
  clear ba
  go_enter Try.func10, Try.ntmps10
  go_upto_region 1 with fail
  rw [← hwa]
  clear hwa
  go_wp2_with fail
  refine (hrt _ KA.out).mono ?_
  rintro e w0 ⟨rfl, k0⟩
  clear hrt
  have KB := @hideH _ (KA.out.then k0)
  clear k0
  go_wp2
  go_ret2
  exact ⟨rfl, KB.out⟩
theorem qBytes (V : RV) (r : Rcd) (w : World) (h : SeeR w V r) : Calls Try.prog 10 #[r.agg V] w fun e w' => ∃ u, e = .returned (.tuple #[u, .int .i64 (errF r)]) ∧ Acc w w' u (bytesF r) := by
  obtain ⟨kind, birth, prev, id, page, frm, before, after, next, rows, dirty⟩ := r
  by_cases hR : (⟨kind, birth, prev, id, page, frm, before, after, next, rows, dirty⟩ : Rcd).Right
  · rw [errF_t hR, bytesF_t hR]
    exact qBytes_right V kind birth prev id page frm before after next rows dirty w h hR
  · rw [errF_f hR, bytesF_f hR]
    refine (qBytes_wrong V kind birth prev id page frm before after next rows dirty w h hR).mono ?_
    rintro e w' ⟨rfl, k⟩
    exact ⟨_, rfl, Acc.nil k⟩
set_option maxHeartbeats 800000 in
theorem qSize (V : RV) (r : Rcd) (w : World) (h : SeeR w V r) : Calls Try.prog 14 #[r.agg V] w fun e w' => e = .returned (.int .i64 ((bytesF r).length : Int)) ∧ Kept [] w w' := by
  obtain ⟨pb, cb, pa, ca, pr, cr, pd, cd, rfl⟩ := h.shapes
  have hb := fun wz (kz : Kept [] w wz) => qBytes _ r wz (h.kept kz)
  clear h
  unfold Rcd.agg at hb ⊢
  dsimp only at hb ⊢
  go_enter Try.func14, Try.ntmps14
  go_wp2_with fail
  refine (hb _ ((Kept.refl [] w).alloc _)).mono ?_
  rintro e w1 ⟨u, rfl, a⟩
  obtain ⟨p, q, rfl⟩ := own_shape2 a.1
  have KE := @hideH _ (((Kept.refl [] w).alloc _).then a.2)
  clear a hb
  go_wp2
  go_ret
  exact ⟨rfl, KE.out⟩
end Go.Proofs.Ytebcmcmboomgfaa

/-
  OWN WORK. octet's reader: NewReader, take, Row, Number, Int, Left, End.
-/
namespace Go.Proofs.Ytebcmcmboomgfaa
open Go.RowKit
set_option linter.unusedVariables false

theorem own_shape {w : World} {base e size : Nat} {v : Value} {n : Nat} {xs : List Value} (h : w.ownsRow base e size v n xs) : ∃ p n c, v = .slice p n c := by
  rcases h.2 with ⟨rfl, _⟩ | ⟨g, cap, cur, rfl, _⟩
  · exact ⟨_, _, _, rfl⟩
  · exact ⟨_, _, _, rfl⟩

set_option maxHeartbeats 400000 in
theorem newReader_lo (v : Value) (l : List UInt8) (w : World) (hv : Bs w v l) (hl : l.length ≤ 140737488355328) :
    Calls Try.prog 34 #[v] w fun e w' => ∃ g p n c, e = .returned (.pointer (some ⟨g, 0, none⟩)) ∧ w.heap.size ≤ g ∧ w'.heap[g]? = some (.cells #[.slice p n c] 92 (0, 0)) ∧ Bs w' (.slice p n c) l ∧ (∀ x, (Value.slice p n c).ownBlock = some x → w.heap.size ≤ x) ∧ Kept [] w w' := by
  go_enter Try.func34, Try.ntmps34
  go_wp2_with (go_at_call 59; refine (clone_any _ _ _ hv hl).mono ?_; rintro e w1 ⟨v', rfl, hown, hk⟩; obtain ⟨p, n, c, rfl⟩ := own_shape hown)
  go_ret
  exact ⟨w1.heap.size, p, n, c, rfl, hk.size, heap_alloc_new w1 _, (Bs.ofOwn hown).kept ((Kept.refl [] _).alloc _), fun x hx => own_ge hown x hx, hk.alloc _⟩
set_option maxHeartbeats 400000 in
theorem newReader_any (v : Value) (l : List UInt8) (w : World) (hv : Bs w v l) (hl : l.length ≤ 140737488355328) :
    Calls Try.prog 34 #[v] w fun e w' => ∃ g, e = .returned (.pointer (some ⟨g, 0, none⟩)) ∧ w.heap.size ≤ g ∧ Rd 92 w' g l ∧ Kept [] w w' := by
  go_enter Try.func34, Try.ntmps34
  go_wp2_with (go_at_call 59; refine (clone_any _ _ _ hv hl).mono ?_; rintro e w1 ⟨v', rfl, hown, hk⟩; obtain ⟨p, n, c, rfl⟩ := own_shape hown)
  go_ret
  exact ⟨w1.heap.size, rfl, hk.size, Rd.fresh (Bs.ofOwn hown), hk.alloc _⟩

set_option maxHeartbeats 400000 in
theorem take_any (g : Nat) (l : List UInt8) (n : Nat) (w : World) (hr : Rd 92 w g l) (hn : n ≤ l.length) :
    Calls Try.prog 82 #[.pointer (some ⟨g, 0, none⟩), .int .i64 (n : Int)] w fun e w' => ∃ v', e = .returned v' ∧ Bs w' v' (l.take n) ∧ Rd 92 w' g (l.drop n) ∧ Kept [g] w w' := by
  obtain ⟨p, m, c, hg, hb⟩ := hr
  obtain ⟨p', c', e', h1, h2, -⟩ := id hb
  cases e'
  obtain ⟨p2, hr1, hr2, hb1, hb2⟩ := hb.cuts (P := Try.prog) 22 5 Try.underlying22 sz8 n hn
  obtain ⟨hc, hf⟩ := Rd.cell hg
  obtain ⟨hrd, hkp⟩ := Rd.set hg hb2
  go_enter Try.func82, Try.ntmps82
  go_wp2
  go_ret
  exact ⟨_, rfl, hb1.keptBox hkp (fun x hx => by simp at hx; subst hx; exact .inl ⟨_, _, _, _, _, hg⟩), hrd, hkp⟩

theorem end_any (g : Nat) (l : List UInt8) (w : World) (hr : Rd 92 w g l) :
    Calls Try.prog 58 #[.pointer (some ⟨g, 0, none⟩)] w fun e w' => e = .returned (.int .i64 (if l.length = 0 then 0 else 11)) ∧ w' = w := by
  obtain ⟨p, m, c, hg, hb⟩ := hr
  obtain ⟨p', c', e', h1, h2, -⟩ := id hb
  cases e'
  obtain ⟨hc, hf⟩ := Rd.cell hg
  by_cases h0 : l.length = 0
  · have h0' : ¬ (0 : Int) < (l.length : Int) := by omega
    rw [if_pos h0]
    clear h0
    go_enter Try.func58, Try.ntmps58
    go_wp2
    go_ret
    exact ⟨rfl, rfl⟩
  · have h0' : (0 : Int) < (l.length : Int) := by omega
    rw [if_neg h0]
    clear h0
    go_enter Try.func58, Try.ntmps58
    go_wp2
    go_ret
    exact ⟨rfl, rfl⟩

theorem end_nil (g : Nat) (w : World) (hr : Rd 92 w g []) :
    Calls Try.prog 58 #[.pointer (some ⟨g, 0, none⟩)] w fun e w' => e = .returned (.int .i64 0) ∧ w' = w := end_any g [] w hr
theorem row_neg (g : Nat) (n : Int) (w : World) (hn : n < 0) :
    Calls Try.prog 87 #[.pointer (some ⟨g, 0, none⟩), .int .i64 n] w fun e w' => e = .returned (.tuple #[.slice none 0 0, .int .i64 30]) ∧ w' = w := by
  go_enter Try.func87, Try.ntmps87
  go_wp2
  go_ret2
  exact ⟨rfl, rfl⟩
theorem row_short (g : Nat) (l : List UInt8) (n : Int) (w : World) (hr : Rd 92 w g l) (hn : (l.length : Int) < n) :
    Calls Try.prog 87 #[.pointer (some ⟨g, 0, none⟩), .int .i64 n] w fun e w' => e = .returned (.tuple #[.slice none 0 0, .int .i64 10]) ∧ w' = w := by
  obtain ⟨p, m, c, hg, hb⟩ := hr
  obtain ⟨p', c', e', h1, h2, -⟩ := id hb
  cases e'
  obtain ⟨hc, hf⟩ := Rd.cell hg
  have h0 : ¬ n < 0 := by omega
  go_enter Try.func87, Try.ntmps87
  go_wp2
  go_ret2
  exact ⟨rfl, rfl⟩
set_option maxHeartbeats 400000 in
theorem row_any (g : Nat) (l : List UInt8) (n : Nat) (w : World) (hr : Rd 92 w g l) (hn : n ≤ l.length) (hl : l.length ≤ 140737488355328) :
    Calls Try.prog 87 #[.pointer (some ⟨g, 0, none⟩), .int .i64 (n : Int)] w fun e w' => ∃ v', e = .returned (.tuple #[v', .int .i64 0]) ∧ w'.ownsRow w.heap.size 5 1 v' n (u8s (l.take n)) ∧ Rd 92 w' g (l.drop n) ∧ Kept [g] w w' := by
  obtain ⟨p, m, c, hg, hb⟩ := id hr
  obtain ⟨p', c', e', h1, h2, -⟩ := id hb
  cases e'
  obtain ⟨hc, hf⟩ := Rd.cell hg
  have h0 : ¬ (n : Int) < 0 := by omega
  have h0' : ¬ (l.length : Int) < (n : Int) := by omega
  clear hb
  go_enter Try.func87, Try.ntmps87
  go_wp2_with (first | (go_at_call 82; refine (take_any g l n _ hr hn).mono ?_; rintro e w1 ⟨v1, rfl, hb1, hr1, hk1⟩) | (go_at_call 59; refine (clone_any _ _ _ hb1 (by simp; omega)).mono ?_; rintro e w2 ⟨v2, rfl, hown2, hk2⟩))
  go_ret2
  have hlen : (l.take n).length = n := by simp; omega
  rw [hlen] at hown2
  exact ⟨v2, rfl, own_mono hown2 hk1.size, hr1.kept hk2 (by simp), hk1.then hk2⟩

theorem number_bad (g : Nat) (n : Int) (w : World) (h1 : n ≠ 1) (h2 : n ≠ 2) (h4 : n ≠ 4) (h8 : n ≠ 8) :
    Calls Try.prog 71 #[.pointer (some ⟨g, 0, none⟩), .int .i64 n] w fun e w' => e = .returned (.tuple #[.int .u64 0, .int .i64 30]) ∧ w' = w := by
  have e1 : (n != 1) = true := by simpa using h1
  have e2 : (n != 2) = true := by simpa using h2
  have e4 : (n != 4) = true := by simpa using h4
  have e8 : (n != 8) = true := by simpa using h8
  clear h1 h2 h4 h8
  go_enter Try.func71, Try.ntmps71
  go_wp2
  go_ret2
  exact ⟨rfl, rfl⟩
theorem number_short (g : Nat) (l : List UInt8) (n : Nat) (w : World) (hr : Rd 92 w g l) (hn : n = 1 ∨ n = 2 ∨ n = 4 ∨ n = 8) (hl : l.length < n) :
    Calls Try.prog 71 #[.pointer (some ⟨g, 0, none⟩), .int .i64 (n : Int)] w fun e w' => e = .returned (.tuple #[.int .u64 0, .int .i64 10]) ∧ w' = w := by
  obtain ⟨p, m, c, hg, hb⟩ := hr
  obtain ⟨p', c', e', h1, h2, -⟩ := id hb
  cases e'
  obtain ⟨hc, hf⟩ := Rd.cell hg
  rcases hn with rfl | rfl | rfl | rfl
  all_goals
    go_enter Try.func71, Try.ntmps71
    go_wp2
    go_ret2
    exact ⟨rfl, rfl⟩
set_option maxHeartbeats 800000 in
theorem number_any (g : Nat) (l : List UInt8) (n : Nat) (w : World) (hr : Rd 92 w g l) (hn : n = 1 ∨ n = 2 ∨ n = 4 ∨ n = 8) (hl : n ≤ l.length) :
    Calls Try.prog 71 #[.pointer (some ⟨g, 0, none⟩), .int .i64 (n : Int)] w fun e w' => e = .returned (.tuple #[.int .u64 (low (l.take n) : Int), .int .i64 0]) ∧ Rd 92 w' g (l.drop n) ∧ Kept [g] w w' := by
  obtain ⟨p, m, c, hg, hb⟩ := id hr
  obtain ⟨p', c', e', h1, h2, -⟩ := id hb
  cases e'
  obtain ⟨hc, hf⟩ := Rd.cell hg
  clear hb
  have hT := fun n hn => take_any g l n w hr hn
  have HT : Hid (∀ n : Nat, n ≤ l.length → Calls Try.prog 82 #[.pointer (some ⟨g, 0, none⟩), .int .i64 (n : Int)] w fun e w' => ∃ v', e = .returned v' ∧ Bs w' v' (l.take n) ∧ Rd 92 w' g (l.drop n) ∧ Kept [g] w w') := hT
  clear hT
  rcases hn with rfl | rfl | rfl | rfl
  · go_enter Try.func71, Try.ntmps71
    go_wp2_with (first | (go_at_call 82; refine (HT.out 1 hl).mono ?_; rintro e w1 ⟨v1, rfl, hb1, hr1, hk1⟩) | (go_at_call 81; refine (low_any _ _ _ hb1 (by simp; omega)).mono ?_; rintro e w2 ⟨rfl, rfl⟩))
    go_ret2
    exact ⟨rfl, hr1, hk1⟩
  · go_enter Try.func71, Try.ntmps71
    go_wp2_with (first | (go_at_call 82; refine (HT.out 2 hl).mono ?_; rintro e w1 ⟨v1, rfl, hb1, hr1, hk1⟩) | (go_at_call 81; refine (low_any _ _ _ hb1 (by simp; omega)).mono ?_; rintro e w2 ⟨rfl, rfl⟩))
    go_ret2
    exact ⟨rfl, hr1, hk1⟩
  · go_enter Try.func71, Try.ntmps71
    go_wp2_with (first | (go_at_call 82; refine (HT.out 4 hl).mono ?_; rintro e w1 ⟨v1, rfl, hb1, hr1, hk1⟩) | (go_at_call 81; refine (low_any _ _ _ hb1 (by simp; omega)).mono ?_; rintro e w2 ⟨rfl, rfl⟩))
    go_ret2
    exact ⟨rfl, hr1, hk1⟩
  · go_enter Try.func71, Try.ntmps71
    go_wp2_with (first | (go_at_call 82; refine (HT.out 8 hl).mono ?_; rintro e w1 ⟨v1, rfl, hb1, hr1, hk1⟩) | (go_at_call 81; refine (low_any _ _ _ hb1 (by simp; omega)).mono ?_; rintro e w2 ⟨rfl, rfl⟩))
    go_ret2
    exact ⟨rfl, hr1, hk1⟩

theorem int_short (g : Nat) (l : List UInt8) (w : World) (hr : Rd 92 w g l) (hl : l.length < 8) :
    Calls Try.prog 77 #[.pointer (some ⟨g, 0, none⟩)] w fun e w' => e = .returned (.tuple #[.int .i64 0, .int .i64 10]) ∧ w' = w := by
  obtain ⟨p, m, c, hg, hb⟩ := id hr
  obtain ⟨hc, hf⟩ := Rd.cell hg
  go_enter Try.func77, Try.ntmps77
  go_wp2_with (go_at_call 85; refine (get64_short _ _ _ hb hl).mono ?_; rintro e w1 ⟨rfl, rfl⟩)
  go_ret2
  exact ⟨rfl, rfl⟩
theorem int_big (g : Nat) (l : List UInt8) (w : World) (hr : Rd 92 w g l) (hl : 8 ≤ l.length) (hv : 1152921504606846976 < low (l.take 8)) :
    Calls Try.prog 77 #[.pointer (some ⟨g, 0, none⟩)] w fun e w' => e = .returned (.tuple #[.int .i64 0, .int .i64 30]) ∧ w' = w := by
  obtain ⟨p, m, c, hg, hb⟩ := id hr
  obtain ⟨hc, hf⟩ := Rd.cell hg
  have hv' : (1152921504606846976 : Int) < (low (l.take 8) : Int) := by omega
  clear hv
  go_enter Try.func77, Try.ntmps77
  go_wp2_with (go_at_call 85; refine (get64_any _ _ _ hb hl).mono ?_; rintro e w1 ⟨rfl, rfl⟩)
  go_ret2
  exact ⟨rfl, rfl⟩
set_option maxHeartbeats 800000 in
theorem int_any (g : Nat) (l : List UInt8) (w : World) (hr : Rd 92 w g l) (hl : 8 ≤ l.length) (hv : low (l.take 8) ≤ 1152921504606846976) :
    Calls Try.prog 77 #[.pointer (some ⟨g, 0, none⟩)] w fun e w' => e = .returned (.tuple #[.int .i64 (low (l.take 8) : Int), .int .i64 0]) ∧ Rd 92 w' g (l.drop 8) ∧ Kept [g] w w' := by
  obtain ⟨p, m, c, hg, hb⟩ := id hr
  obtain ⟨hc, hf⟩ := Rd.cell hg
  have hv' : (low (l.take 8) : Int) ≤ (1152921504606846976 : Int) := by omega
  have hwr : IntKind.i64.wrap (low (l.take 8) : Int) = (low (l.take 8) : Int) := by rw [IntKind.wrap_i64]; omega
  clear hv
  go_enter Try.func77, Try.ntmps77
  go_wp2_with (first | (go_at_call 85; refine (get64_any _ _ _ hb hl).mono ?_; rintro e w1 ⟨rfl, rfl⟩) | (go_at_call 82; refine (take_any g l 8 _ hr hl).mono ?_; rintro e w1 ⟨v1, rfl, hb1, hr1, hk1⟩))
  go_ret2
  exact ⟨rfl, hr1, hk1⟩
end Go.Proofs.Ytebcmcmboomgfaa

/-
  OWN WORK (by mkpr0.py). octet's reader, with where its bytes lie.
-/
namespace Go.Proofs.Ytebcmcmboomgfaa
open Go.RowKit
set_option linter.unusedVariables false

/-- a reader whose bytes lie in a block below b -/
def RdL (b : Nat) (w : World) (g : Nat) (l : List UInt8) : Prop := ∃ p n c, w.heap[g]? = some (.cells #[.slice p n c] 92 (0, 0)) ∧ Bs w (.slice p n c) l ∧ ∀ x, (Value.slice p n c).ownBlock = some x → x < b
theorem hideLo {p : Prop} (h : p) : Hid p := h
theorem RdL.kept {b : Nat} {w w' : World} {g : Nat} {l : List UInt8} (h : RdL b w g l) (k : Kept [] w w') : RdL b w' g l := by
  have hl := h
  obtain ⟨p, n, c, h1, h2, h3⟩ := h
  exact ⟨p, n, c, (k.block g (Array.getElem?_eq_some_iff.1 h1).1 (by simp)).trans h1, h2.kept k, h3⟩
theorem RdL.rd {b : Nat} {w : World} {g : Nat} {l : List UInt8} (h : RdL b w g l) : Rd 92 w g l := by
  obtain ⟨p, n, c, h1, h2, -⟩ := h
  exact ⟨p, n, c, h1, h2⟩
theorem Bs.cutsB {P : Program} (t e : TypeId) (hu : P.underlying t = some (.slice e)) (hsz : (P.info? e).map (·.size) = some 1) {w : World} {p : Option Addr} {n c : Nat} {l : List UInt8} (h : Bs w (.slice p n c) l) (k : Nat) (hk : k ≤ n) :
    ∃ p2, (∀ u, (Instr.slice t (.slice p n c) none (some (.int .i64 (k : Int))) none).run P u = .ok (.slice p k c) u) ∧
      (∀ u, (Instr.slice t (.slice p n c) (some (.int .i64 (k : Int))) none none).run P u = .ok (.slice p2 (n - k) (c - k)) u) ∧ Bs w (.slice p k c) (l.take k) ∧ Bs w (.slice p2 (n - k) (c - k)) (l.drop k) ∧ ∀ m m' x, (Value.slice p2 m m').ownBlock = some x → (Value.slice p n c).ownBlock = some x := by
  obtain ⟨p', c', e', h1, h2, -⟩ := id h
  cases e'
  have hc := h.cut (P := P) hk
  refine ⟨_, fun u => run_cut_to u t e hu hsz p _ c k (by omega), fun u => run_cut_from u t e hu hsz p _ c k hk, hc.1, hc.2, fun m m' x hx => ?_⟩
  cases p with
  | none => split at hx <;> simp [Value.ownBlock] at hx
  | some a => split at hx <;> simpa [Value.ownBlock, add_block] using hx

set_option maxHeartbeats 400000 in
theorem take_lo (b g : Nat) (l : List UInt8) (n : Nat) (w : World) (hr : RdL b w g l) (hn : n ≤ l.length) :
    Calls Try.prog 82 #[.pointer (some ⟨g, 0, none⟩), .int .i64 (n : Int)] w fun e w' => ∃ v', e = .returned v' ∧ Bs w' v' (l.take n) ∧ RdL b w' g (l.drop n) ∧ Kept [g] w w' := by
  obtain ⟨p, m, c, hg, hb, hlo⟩ := hr
  obtain ⟨p', c', e', h1, h2, -⟩ := id hb
  cases e'
  obtain ⟨p2, hr1, hr2, hb1, hb2, hb3⟩ := hb.cutsB (P := Try.prog) 22 5 Try.underlying22 sz8 n hn
  obtain ⟨hc, hf⟩ := Rd.cell hg
  obtain ⟨hrd, hkp⟩ := Rd.set hg hb2
  have HLO := @hideLo _ (fun x hx => hlo x (hb3 (l.length - n) (c - n) x hx))
  go_enter Try.func82, Try.ntmps82
  go_wp2
  go_ret
  exact ⟨_, rfl, hb1.keptBox hkp (fun x hx => by simp at hx; subst hx; exact .inl ⟨_, _, _, _, _, hg⟩), ⟨p2, _, _, one_setCell hg, hb2.keptBox hkp (fun x hx => by simp at hx; subst hx; exact .inl ⟨_, _, _, _, _, hg⟩), HLO.out⟩, hkp⟩
set_option maxHeartbeats 400000 in
theorem row_lo (b g : Nat) (l : List UInt8) (n : Nat) (w : World) (hr : RdL b w g l) (hn : n ≤ l.length) (hl : l.length ≤ 140737488355328) :
    Calls Try.prog 87 #[.pointer (some ⟨g, 0, none⟩), .int .i64 (n : Int)] w fun e w' => ∃ v', e = .returned (.tuple #[v', .int .i64 0]) ∧ w'.ownsRow w.heap.size 5 1 v' n (u8s (l.take n)) ∧ RdL b w' g (l.drop n) ∧ Kept [g] w w' := by
  obtain ⟨p, m, c, hg, hb, hlo⟩ := id hr
  obtain ⟨p', c', e', h1, h2, -⟩ := id hb
  cases e'
  obtain ⟨hc, hf⟩ := Rd.cell hg
  have h0 : ¬ (n : Int) < 0 := by omega
  have h0' : ¬ (l.length : Int) < (n : Int) := by omega
  clear hb hlo
  go_enter Try.func87, Try.ntmps87
  go_wp2_with (first | (go_at_call 82; refine (take_lo b g l n _ hr hn).mono ?_; rintro e w1 ⟨v1, rfl, hb1, hr1, hk1⟩) | (go_at_call 59; refine (clone_any _ _ _ hb1 (by simp; omega)).mono ?_; rintro e w2 ⟨v2, rfl, hown2, hk2⟩))
  go_ret2
  have hlen : (l.take n).length = n := by simp; omega
  rw [hlen] at hown2
  exact ⟨v2, rfl, own_mono hown2 hk1.size, hr1.kept hk2, hk1.then hk2⟩
set_option maxHeartbeats 800000 in
theorem number_lo (b g : Nat) (l : List UInt8) (n : Nat) (w : World) (hr : RdL b w g l) (hn : n = 1 ∨ n = 2) (hl : n ≤ l.length) :
    Calls Try.prog 71 #[.pointer (some ⟨g, 0, none⟩), .int .i64 (n : Int)] w fun e w' => e = .returned (.tuple #[.int .u64 (low (l.take n) : Int), .int .i64 0]) ∧ RdL b w' g (l.drop n) ∧ Kept [g] w w' := by
  obtain ⟨p, m, c, hg, hb, hlo⟩ := id hr
  obtain ⟨p', c', e', h1, h2, -⟩ := id hb
  cases e'
  obtain ⟨hc, hf⟩ := Rd.cell hg
  clear hb hlo
  have HT := @hideLo _ (fun (n : Nat) (hn : n ≤ l.length) => take_lo b g l n w hr hn)
  rcases hn with rfl | rfl
  · go_enter Try.func71, Try.ntmps71
    go_wp2_with (first | (go_at_call 82; refine (HT.out 1 hl).mono ?_; rintro e w1 ⟨v1, rfl, hb1, hr1, hk1⟩) | (go_at_call 81; refine (low_any _ _ _ hb1 (by simp; omega)).mono ?_; rintro e w2 ⟨rfl, rfl⟩))
    go_ret2
    exact ⟨rfl, hr1, hk1⟩
  · go_enter Try.func71, Try.ntmps71
    go_wp2_with (first | (go_at_call 82; refine (HT.out 2 hl).mono ?_; rintro e w1 ⟨v1, rfl, hb1, hr1, hk1⟩) | (go_at_call 81; refine (low_any _ _ _ hb1 (by simp; omega)).mono ?_; rintro e w2 ⟨rfl, rfl⟩))
    go_ret2
    exact ⟨rfl, hr1, hk1⟩
set_option maxHeartbeats 800000 in
theorem int_lo (b g : Nat) (l : List UInt8) (w : World) (hr : RdL b w g l) (hl : 8 ≤ l.length) (hv : low (l.take 8) ≤ 1152921504606846976) :
    Calls Try.prog 77 #[.pointer (some ⟨g, 0, none⟩)] w fun e w' => e = .returned (.tuple #[.int .i64 (low (l.take 8) : Int), .int .i64 0]) ∧ RdL b w' g (l.drop 8) ∧ Kept [g] w w' := by
  obtain ⟨p, m, c, hg, hb, hlo⟩ := id hr
  obtain ⟨hc, hf⟩ := Rd.cell hg
  have hv' : (low (l.take 8) : Int) ≤ (1152921504606846976 : Int) := by omega
  have hwr : IntKind.i64.wrap (low (l.take 8) : Int) = (low (l.take 8) : Int) := by rw [IntKind.wrap_i64]; omega
  clear hv hlo
  go_enter Try.func77, Try.ntmps77
  go_wp2_with (first | (go_at_call 85; refine (get64_any _ _ _ hb hl).mono ?_; rintro e w1 ⟨rfl, rfl⟩) | (go_at_call 82; refine (take_lo b g l 8 _ hr hl).mono ?_; rintro e w1 ⟨v1, rfl, hb1, hr1, hk1⟩))
  go_ret2
  exact ⟨rfl, hr1, hk1⟩
theorem newReader_low (v : Value) (l : List UInt8) (w : World) (hv : Bs w v l) (hl : l.length ≤ 140737488355328) :
    Calls Try.prog 34 #[v] w fun e w' => ∃ g, e = .returned (.pointer (some ⟨g, 0, none⟩)) ∧ w.heap.size ≤ g ∧ RdL w'.heap.size w' g l ∧ Kept [] w w' := by
  go_enter Try.func34, Try.ntmps34
  go_wp2_with (go_at_call 59; refine (clone_any _ _ _ hv hl).mono ?_; rintro e w1 ⟨v', rfl, hown, hk⟩; obtain ⟨p, n, c, rfl⟩ := own_shape hown)
  go_ret
  exact ⟨w1.heap.size, rfl, hk.size, ⟨p, n, c, heap_alloc_new w1 _, (Bs.ofOwn hown).kept ((Kept.refl [] _).alloc _), fun x hx => Nat.lt_of_lt_of_le (hown.lt x hx).2 (by simp)⟩, hk.alloc _⟩
end Go.Proofs.Ytebcmcmboomgfaa

/-
  OWN WORK (by mkpr5.py). record: giveUp, number, eight, row.
-/
namespace Go.Proofs.Ytebcmcmboomgfaa
open Go.RowKit
set_option linter.unusedVariables false
set_option linter.unusedSimpArgs false

/-- an error that was given up with -/
def Gave (e : Ending) : Prop := ∃ x : Int, e = .panicked [{ v := .iface 28 (.int .i64 x), recovered := false }]
theorem qGive0 (w : World) : Calls Try.prog 56 #[.int .i64 0] w fun e w' => e = .returned (.tuple #[]) ∧ w' = w := by
  go_enter Try.func56, Try.ntmps56
  go_wp2
  go_end0
  exact ⟨rfl, rfl⟩
theorem qGive (x : Int) (hx : x ≠ 0) (w : World) : Calls Try.prog 56 #[.int .i64 x] w fun e w' => e = .panicked [{ v := .iface 28 (.int .i64 x), recovered := false }] ∧ w' = w := by
  have hb : (x != 0) = true := by simpa using hx
  go_enter Try.func56, Try.ntmps56
  go_wp2
  exact ⟨rfl, rfl, rfl⟩
theorem takeN_low : ∀ (l : List UInt8), takeN l = low l
  | [] => rfl
  | x :: r => by simp [takeN, low, takeN_low r]
theorem num_low {n v : Nat} {l r : List UInt8} (h : num n l = some (v, r)) : n ≤ l.length ∧ v = low (l.take n) ∧ r = l.drop n ∧ low (l.take n) ≤ 1152921504606846976 := by
  unfold num at h
  split at h
  · cases h
  split at h
  · rename_i h1 h2
    simp at h
    rw [takeN_low] at h h2
    exact ⟨by omega, h.1.symm, h.2.symm, h2⟩
  · cases h
theorem num_none {n : Nat} {l : List UInt8} (h : num n l = none) : l.length < n ∨ (n ≤ l.length ∧ 1152921504606846976 < low (l.take n)) := by
  unfold num at h
  split at h
  · rename_i h1; exact .inl h1
  split at h
  · cases h
  · rename_i h1 h2
    rw [takeN_low] at h2
    refine .inr ⟨by omega, ?_⟩
    unfold topLsn at h2
    omega
/-- the reader g, and the source that holds it -/
abbrev Rs (bb : Nat) (w : World) (g : Nat) (l : List UInt8) : Prop := RdL bb w g l
def src (g : Nat) : Value := .agg #[.pointer (some ⟨g, 0, none⟩)]
theorem Rs.alloc {bb : Nat} {w : World} {g : Nat} {l : List UInt8} (h : Rs bb w g l) (o : Obj) : Rs bb (w.alloc o) g l := h.kept ((Kept.refl [] w).alloc _)
theorem kept_box {w w' : World} {g : Nat} {o : Obj} (k : Kept [g] (w.alloc o) w') : Kept [g] w w' := ((Kept.refl [g] w).alloc o).trans k (fun x hx => .inl hx)

set_option maxHeartbeats 800000 in
theorem qNum1_some (bb g v : Nat) (l r : List UInt8) (w : World) (hr : Rs bb w g l) (h : num 1 l = some (v, r)) : Calls Try.prog 54 #[src g, .int .i64 1] w fun e w' => e = .returned (.int .i64 (v : Int)) ∧ Rs bb w' g r ∧ Kept [g] w w' := by
  obtain ⟨h1, rfl, rfl, -⟩ := num_low h
  have hlt : low (l.take 1) < 65536 := by have := low_lt (l.take 1); rw [List.length_take, Nat.min_eq_left h1] at this; omega
  have hc := number_lo bb g l 1 (w.alloc (.cells #[.pointer (some ⟨g, 0, none⟩)] 64)) (hr.alloc _) (by omega) h1
  have hw : IntKind.i64.wrap (low (l.take 1) : Int) = (low (l.take 1) : Int) := wrap_i64_of (by omega) (by omega)
  generalize low (l.take 1) = v at *
  clear h hlt
  unfold src
  go_enter Try.func54, Try.ntmps54
  go_wp2_with fail
  refine hc.mono ?_
  rintro e w1 ⟨rfl, hr1, k1⟩
  clear hc
  go_wp2_with fail
  refine (qGive0 _).mono ?_
  rintro e w2 ⟨rfl, rfl⟩
  have KE := @hideH _ (And.intro hr1 (kept_box k1))
  clear hr1 k1
  go_wp2
  go_ret
  exact ⟨rfl, KE.out⟩
set_option maxHeartbeats 800000 in
theorem qNum1_none (bb g : Nat) (l : List UInt8) (w : World) (hr : Rs bb w g l) (h : num 1 l = none) : Calls Try.prog 54 #[src g, .int .i64 1] w fun e w' => Gave e ∧ Kept [g] w w' := by
  have h1 : l.length < 1 := by
    rcases num_none h with q | ⟨q1, q2⟩
    · exact q
    · have := low_lt (l.take 1); rw [List.length_take, Nat.min_eq_left q1] at this; omega
  have hc := number_short g l 1 (w.alloc (.cells #[.pointer (some ⟨g, 0, none⟩)] 64)) (hr.alloc _).rd (by omega) h1
  clear h h1 hr
  unfold src
  go_enter Try.func54, Try.ntmps54
  go_wp2_with fail
  refine hc.mono ?_
  rintro e w1 ⟨rfl, rfl⟩
  clear hc
  go_wp2_with fail
  refine (qGive 10 (by decide) _).mono ?_
  rintro e w2 ⟨rfl, rfl⟩
  exact ⟨rfl, ⟨_, rfl⟩, (Kept.refl [g] w).alloc _⟩
set_option maxHeartbeats 800000 in
theorem qNum2_some (bb g v : Nat) (l r : List UInt8) (w : World) (hr : Rs bb w g l) (h : num 2 l = some (v, r)) : Calls Try.prog 54 #[src g, .int .i64 2] w fun e w' => e = .returned (.int .i64 (v : Int)) ∧ Rs bb w' g r ∧ Kept [g] w w' := by
  obtain ⟨h1, rfl, rfl, -⟩ := num_low h
  have hlt : low (l.take 2) < 65536 := by have := low_lt (l.take 2); rw [List.length_take, Nat.min_eq_left h1] at this; omega
  have hc := number_lo bb g l 2 (w.alloc (.cells #[.pointer (some ⟨g, 0, none⟩)] 64)) (hr.alloc _) (by omega) h1
  have hw : IntKind.i64.wrap (low (l.take 2) : Int) = (low (l.take 2) : Int) := wrap_i64_of (by omega) (by omega)
  generalize low (l.take 2) = v at *
  clear h hlt
  unfold src
  go_enter Try.func54, Try.ntmps54
  go_wp2_with fail
  refine hc.mono ?_
  rintro e w1 ⟨rfl, hr1, k1⟩
  clear hc
  go_wp2_with fail
  refine (qGive0 _).mono ?_
  rintro e w2 ⟨rfl, rfl⟩
  have KE := @hideH _ (And.intro hr1 (kept_box k1))
  clear hr1 k1
  go_wp2
  go_ret
  exact ⟨rfl, KE.out⟩
set_option maxHeartbeats 800000 in
theorem qNum2_none (bb g : Nat) (l : List UInt8) (w : World) (hr : Rs bb w g l) (h : num 2 l = none) : Calls Try.prog 54 #[src g, .int .i64 2] w fun e w' => Gave e ∧ Kept [g] w w' := by
  have h1 : l.length < 2 := by
    rcases num_none h with q | ⟨q1, q2⟩
    · exact q
    · have := low_lt (l.take 2); rw [List.length_take, Nat.min_eq_left q1] at this; omega
  have hc := number_short g l 2 (w.alloc (.cells #[.pointer (some ⟨g, 0, none⟩)] 64)) (hr.alloc _).rd (by omega) h1
  clear h h1 hr
  unfold src
  go_enter Try.func54, Try.ntmps54
  go_wp2_with fail
  refine hc.mono ?_
  rintro e w1 ⟨rfl, rfl⟩
  clear hc
  go_wp2_with fail
  refine (qGive 10 (by decide) _).mono ?_
  rintro e w2 ⟨rfl, rfl⟩
  exact ⟨rfl, ⟨_, rfl⟩, (Kept.refl [g] w).alloc _⟩
set_option maxHeartbeats 800000 in
theorem qEt_some (bb g v : Nat) (l r : List UInt8) (w : World) (hr : Rs bb w g l) (h : num 8 l = some (v, r)) : Calls Try.prog 57 #[src g] w fun e w' => e = .returned (.int .i64 (v : Int)) ∧ Rs bb w' g r ∧ Kept [g] w w' := by
  obtain ⟨h1, rfl, rfl, h2⟩ := num_low h
  have hc := int_lo bb g l (w.alloc (.cells #[.pointer (some ⟨g, 0, none⟩)] 64)) (hr.alloc _) h1 h2
  generalize low (l.take 8) = v at *
  clear h h2
  unfold src
  go_enter Try.func57, Try.ntmps57
  go_wp2_with fail
  refine hc.mono ?_
  rintro e w1 ⟨rfl, hr1, k1⟩
  clear hc
  go_wp2_with fail
  refine (qGive0 _).mono ?_
  rintro e w2 ⟨rfl, rfl⟩
  have KE := @hideH _ (And.intro hr1 (kept_box k1))
  clear hr1 k1
  go_wp2
  go_ret
  exact ⟨rfl, KE.out⟩
set_option maxHeartbeats 800000 in
theorem qEt_none (bb g : Nat) (l : List UInt8) (w : World) (hr : Rs bb w g l) (h : num 8 l = none) : Calls Try.prog 57 #[src g] w fun e w' => Gave e ∧ Kept [g] w w' := by
  have hq : ∃ x : Int, x ≠ 0 ∧ Calls Try.prog 77 #[.pointer (some ⟨g, 0, none⟩)] (w.alloc (.cells #[.pointer (some ⟨g, 0, none⟩)] 64)) fun e w' => e = .returned (.tuple #[.int .i64 0, .int .i64 x]) ∧ w' = (w.alloc (.cells #[.pointer (some ⟨g, 0, none⟩)] 64)) := by
    rcases num_none h with q | ⟨q1, q2⟩
    · exact ⟨10, by decide, int_short g l _ (hr.alloc _).rd q⟩
    · exact ⟨30, by decide, int_big g l _ (hr.alloc _).rd q1 q2⟩
  obtain ⟨x, hx, hc⟩ := hq
  clear h hr
  unfold src
  go_enter Try.func57, Try.ntmps57
  go_wp2_with fail
  refine hc.mono ?_
  rintro e w1 ⟨rfl, rfl⟩
  clear hc
  go_wp2_with fail
  refine (qGive x hx _).mono ?_
  rintro e w2 ⟨rfl, rfl⟩
  exact ⟨rfl, ⟨_, rfl⟩, (Kept.refl [g] w).alloc _⟩
theorem raw_parts {n : Nat} {l x r : List UInt8} (h : raw n l = some (x, r)) : n ≤ l.length ∧ x = l.take n ∧ r = l.drop n := by
  unfold raw at h
  split at h
  · cases h
  · rename_i h1
    simp at h
    exact ⟨by omega, h.1.symm, h.2.symm⟩
theorem raw_none {n : Nat} {l : List UInt8} (h : raw n l = none) : l.length < n := by
  unfold raw at h
  split at h
  · rename_i h1; exact h1
  · cases h
set_option maxHeartbeats 800000 in
theorem qRaw_some (bb g n : Nat) (l x r : List UInt8) (w : World) (hr : Rs bb w g l) (h : raw n l = some (x, r)) (hl : l.length ≤ 140737488355328) : Calls Try.prog 84 #[src g, .int .i64 (n : Int)] w fun e w' => ∃ u, e = .returned u ∧ w'.ownsRow w.heap.size 5 1 u x.length (u8s x) ∧ Rs bb w' g r ∧ Kept [g] w w' := by
  obtain ⟨h1, rfl, rfl⟩ := raw_parts h
  have hc := row_lo bb g l n (w.alloc (.cells #[.pointer (some ⟨g, 0, none⟩)] 64)) (hr.alloc _) h1 hl
  have HL := @hideH _ hl
  clear h hl
  unfold src
  go_enter Try.func84, Try.ntmps84
  go_wp2_with fail
  refine hc.mono ?_
  rintro e w1 ⟨u, rfl, ho, hr1, k1⟩
  clear hc
  go_wp2_with fail
  refine (qGive0 _).mono ?_
  rintro e w2 ⟨rfl, rfl⟩
  have KE := @hideH _ (And.intro (own_mono ho (show w.heap.size ≤ _ by simp)) (And.intro hr1 (kept_box k1)))
  clear hr1 k1 ho
  go_wp2
  go_ret
  exact ⟨u, rfl, by rw [List.length_take, Nat.min_eq_left h1]; exact KE.out.1, KE.out.2⟩
set_option maxHeartbeats 800000 in
theorem qRaw_none (bb g n : Nat) (l : List UInt8) (w : World) (hr : Rs bb w g l) (h : raw n l = none) : Calls Try.prog 84 #[src g, .int .i64 (n : Int)] w fun e w' => Gave e ∧ Kept [g] w w' := by
  have hc := row_short g l (n : Int) (w.alloc (.cells #[.pointer (some ⟨g, 0, none⟩)] 64)) (hr.alloc _).rd (by have := raw_none h; omega)
  clear h hr
  unfold src
  go_enter Try.func84, Try.ntmps84
  go_wp2_with fail
  refine hc.mono ?_
  rintro e w1 ⟨rfl, rfl⟩
  clear hc
  go_wp2_with fail
  refine (qGive 10 (by decide) _).mono ?_
  rintro e w2 ⟨rfl, rfl⟩
  exact ⟨rfl, ⟨_, rfl⟩, (Kept.refl [g] w).alloc _⟩
end Go.Proofs.Ytebcmcmboomgfaa

/-
  OWN WORK. The document's records (tidemarkref09): the tape: take.
-/
namespace Go.Proofs.Ytebcmcmboomgfaa
open Go.RowKit
set_option linter.unusedVariables false
set_option linter.unusedSimpArgs false

/-- the tape at block g: the bytes l, read up to n -/
def Tp (w : World) (g : Nat) (tv : Value) (l : List UInt8) (n : Nat) (bad : Bool) : Prop := Blk w g 73 [tv, .int .i64 (n : Int), .bool bad] ∧ Bs w tv l ∧ n ≤ l.length ∧ (l ≠ [] → ∀ x, tv.ownBlock = some x → x ≠ g)
theorem Bs.keptOwnNe {w w' : World} {v : Value} {l : List UInt8} {S : List Nat} (h : Bs w v l) (k : Kept S w w') (hS : l ≠ [] → ∀ x, v.ownBlock = some x → x ∉ S) : Bs w' v l := by
  by_cases hl : l = []
  · subst hl
    obtain ⟨p, c, e, h1, h2, h3, -⟩ := h
    exact ⟨p, c, e, h1, h2, h3, fun a _ i x hx => by simp at hx⟩
  · exact h.keptOwn k (hS hl)
theorem takeN_drop : ∀ (m : Nat) (l : List UInt8), takeN (l.drop m) * 256 ^ m ≤ takeN l
  | 0, l => by simp
  | m + 1, [] => by simp [takeN]
  | m + 1, b :: r => by
    have := takeN_drop m r
    simp only [List.drop_succ_cons, takeN, Nat.pow_succ]
    calc takeN (r.drop m) * (256 ^ m * 256) = (takeN (r.drop m) * 256 ^ m) * 256 := by rw [Nat.mul_assoc]
      _ ≤ takeN r * 256 := Nat.mul_le_mul_right _ this
      _ ≤ b.toNat + 256 * takeN r := by omega
theorem takeN_at {l : List UInt8} {m : Nat} {x : UInt8} (h : l[m]? = some x) : takeN (l.drop m) = x.toNat + 256 * takeN (l.drop (m + 1)) := by
  obtain ⟨hm, rfl⟩ := List.getElem?_eq_some_iff.1 h
  rw [List.drop_eq_getElem_cons hm]
  rfl
theorem num_big {n m : Nat} {l : List UInt8} (hn : n ≤ l.length) (hm : 1 ≤ m) (h : 4503599627370496 < takeN ((l.take n).drop m)) : num n l = none := by
  have h1 := takeN_drop m (l.take n)
  have h2 : 256 ^ 1 ≤ 256 ^ m := Nat.pow_le_pow_right (by omega) hm
  have h3 : takeN ((l.take n).drop m) * 256 ≤ takeN (l.take n) := Nat.le_trans (Nat.mul_le_mul_left _ (by simpa using h2)) h1
  unfold num
  rw [if_neg (by omega), if_neg (by unfold topLsn; omega)]
theorem Tp.set {w : World} {g : Nat} {tv : Value} {l : List UInt8} {n : Nat} {bad : Bool} (h : Tp w g tv l n bad) (n' : Nat) (hn : n' ≤ l.length) : Tp (w.setCell ⟨g, 1, none⟩ (.int .i64 (n' : Int))) g tv l n' bad ∧ Kept [g] w (w.setCell ⟨g, 1, none⟩ (.int .i64 (n' : Int))) := by
  obtain ⟨h1, h2, h3, h4⟩ := h
  obtain ⟨b, k⟩ := h1.set 1 (.int .i64 (n' : Int))
  exact ⟨⟨b, h2.keptOwnNe k (fun h0 x hx hm => by simp at hm; exact h4 h0 x hx hm), hn, h4⟩, k⟩
theorem Tp.spoil {w : World} {g : Nat} {tv : Value} {l : List UInt8} {n : Nat} {bad : Bool} (h : Tp w g tv l n bad) : Tp (w.setCell ⟨g, 2, none⟩ (.bool true)) g tv l n true ∧ Kept [g] w (w.setCell ⟨g, 2, none⟩ (.bool true)) := by
  obtain ⟨h1, h2, h3, h4⟩ := h
  obtain ⟨b, k⟩ := h1.set 2 (.bool true)
  exact ⟨⟨b, h2.keptOwnNe k (fun h0 x hx hm => by simp at hm; exact h4 h0 x hx hm), h3, h4⟩, k⟩
theorem Tp.kept {w w' : World} {g : Nat} {tv : Value} {l : List UInt8} {n : Nat} {bad : Bool} (h : Tp w g tv l n bad) (k : Kept [] w w') : Tp w' g tv l n bad := by
  obtain ⟨h1, h2, h3, h4⟩ := h
  exact ⟨h1.kept k (by simp), h2.kept k, h3, h4⟩
/-- what take answers -/
def Took (g n at' : Nat) (tv : Value) (l : List UInt8) (bad : Bool) (w : World) (e : Ending) (w' : World) : Prop := ∃ (v n2 : Nat) (b2 : Bool), e = .returned (.int .i64 (v : Int)) ∧ Tp w' g tv l n2 b2 ∧ Kept [g] w w' ∧ Hid ((num n (l.drop at') = some (v, l.drop n2) ∧ b2 = bad) ∨ (num n (l.drop at') = none ∧ v = 0 ∧ b2 = true))
theorem Took.of {g n at' : Nat} {tv : Value} {l : List UInt8} {bad : Bool} {w : World} {e : Ending} {w' : World} (v n2 : Nat) (b2 : Bool) (h1 : e = .returned (.int .i64 (v : Int))) (h2 : Tp w' g tv l n2 b2) (h3 : Kept [g] w w') (h4 : (num n (l.drop at') = some (v, l.drop n2) ∧ b2 = bad) ∨ (num n (l.drop at') = none ∧ v = 0 ∧ b2 = true)) : Took g n at' tv l bad w e w' := ⟨v, n2, b2, h1, h2, h3, h4⟩
set_option maxRecDepth 20000 in
set_option maxHeartbeats 6400000 in
theorem rTake (g n at' : Nat) (tv : Value) (l : List UInt8) (bad : Bool) (w : World) (h : Tp w g tv l at' bad) (hn : 1 ≤ n ∧ n ≤ 8) :
    Calls Try.prog 37 #[.pointer (some ⟨g, 0, none⟩), .int .i64 (n : Int)] w (Took g n at' tv l bad w) := by
  haveI HNE : ∀ w2, Nonempty (Calm w2) := calmNe
  obtain ⟨p, c, rfl, -⟩ := id h.2.1
  have HT := @hideH _ h
  obtain ⟨bT, bs, hat, hne⟩ := h
  have HBT := @hideH _ bT
  have hmx : l.length ≤ maxLen := by obtain ⟨_, _, e, h1, h2, _⟩ := bs; cases e; exact Nat.le_trans h1 h2
  have HMX := @hideH _ hmx
  have HN := @hideH _ hn
  have HAT := @hideH _ hat
  have HBS := @hideH _ bs
  have c0 := bT.cell (j := 0) rfl
  have c1 := bT.cell (j := 1) rfl
  have f2 := bT.free 2
  have f1 := bT.free 1
  have wl : IntKind.i64.wrap ((l.length : Int) - (at' : Int)) = ((l.length - at' : Nat) : Int) := by rw [show (l.length : Int) - (at' : Int) = ((l.length - at' : Nat) : Int) by omega]; exact wrap_i64_of (by omega) (by unfold maxLen at hmx; omega)
  clear bT bs hne hmx hn hat
  by_cases hs : l.length - at' < n
  · have hs' : ((l.length - at' : Nat) : Int) < (n : Int) := by omega
    have hnum := @hideH _ (show num n (l.drop at') = none by unfold num; rw [if_pos (by rw [List.length_drop]; exact hs)])
    go_enter Try.func37, Try.ntmps37
    go_upto_region 1 with fail
    have s_c0 := fun (s : Calm w) => s.kept.cell c0 (by simp)
    have s_c1 := fun (s : Calm w) => s.kept.cell c1 (by simp)
    have KR := @hideH _ (Kept.refl [] w)
    refine wp_region_calm KR.out (by kernel_rfl) (by kernel_rfl) ?_
    repeat (go_big_quiet_step (fail))
    refine wpQuiet_nil ?_
    intro _ hw'
    obtain ⟨sq, hw''⟩ := hw'
    subst hw''
    have ks := sq.kept
    generalize sq.at = wx at ks ⊢
    clear sq
    replace c0 := ks.cell c0 (by simp)
    replace c1 := ks.cell c1 (by simp)
    clear KR s_c0 s_c1
    have fx := (HBT.out.kept ks (by simp)).free 2
    have cx := (HBT.out.kept ks (by simp)).cell (j := 2) rfl
    have FIN := @hideH _ (HT.out.kept ks).spoil
    have KS := @hideH _ ks
    clear c0 c1 f1 f2 ks wl
    go_wp2
    go_ret
    exact Took.of 0 (at') true rfl FIN.out.1 ((KS.out.mono (by simp)).trans FIN.out.2 (fun x hx => .inl hx)) (.inr ⟨hnum.out, rfl, rfl⟩)
  · have hs' : ¬ ((l.length - at' : Nat) : Int) < (n : Int) := by omega
    obtain ⟨X, hX⟩ : ∃ X, X = (l.drop at').take n := ⟨_, rfl⟩
    have HX := @hideH _ (show X = (l.drop at').take n ∧ X.length = n by refine ⟨hX, ?_⟩; rw [hX, List.length_take, List.length_drop]; omega)
    have HS := @hideH _ (show n ≤ (l.drop at').length by rw [List.length_drop]; omega)
    have wn1 : IntKind.i64.wrap ((n : Int) - 1) = (n : Int) - 1 := wrap_i64_of (by omega) (by have := HN.out; omega)
    clear hX
    go_enter Try.func37, Try.ntmps37
    go_upto_region 1 with fail
    have s_c0 := fun (s : Calm w) => s.kept.cell c0 (by simp)
    have s_c1 := fun (s : Calm w) => s.kept.cell c1 (by simp)
    have KR := @hideH _ (Kept.refl [] w)
    refine wp_region_calm KR.out (by kernel_rfl) (by kernel_rfl) ?_
    repeat (go_big_quiet_step (fail))
    refine wpQuiet_nil ?_
    intro _ hw'
    obtain ⟨sq, hw''⟩ := hw'
    subst hw''
    have ks := sq.kept
    generalize sq.at = wx at ks ⊢
    clear sq
    replace c0 := ks.cell c0 (by simp)
    replace c1 := ks.cell c1 (by simp)
    clear KR s_c0 s_c1
    have KS := @hideH _ ks
    clear c0 c1 f1 f2 ks wl
    go_wp2
    go_loopw [5, 6] (fun vv vi wr => ∃ m : Nat, m ≤ n ∧ vi = .int .i64 ((m : Int) - 1) ∧ vv = .int .i64 ((takeN (X.drop m) : Nat) : Int) ∧ Hid (Kept [] w wr)) (fun _ vi _ => (intOf vi + 1).toNat)
    case atStart => exact ⟨n, Nat.le_refl _, rfl, by rw [List.drop_eq_nil_of_le (by rw [HX.out.2]; exact Nat.le_refl _)]; rfl, KS.out⟩
    case round =>
      clear KS
      obtain ⟨m, hm, rfl, rfl, hh⟩ := hrel
      obtain ⟨v, hv⟩ : ∃ v, v = takeN (X.drop m) := ⟨_, rfl⟩
      have HV := @hideH _ hv
      rw [← hv]
      clear hv
      have c0 := hh.out.cell (HBT.out.cell (j := 0) rfl) (by simp)
      have c1 := hh.out.cell (HBT.out.cell (j := 1) rfl) (by simp)
      have f1 := (HBT.out.kept hh.out (by simp)).free 1
      have f2 := (HBT.out.kept hh.out (by simp)).free 2
      have c2 := (HBT.out.kept hh.out (by simp)).cell (j := 2) rfl
      by_cases hm0 : m = 0
      · have hi : ¬ (0 : Int) ≤ (m : Int) - 1 := by omega
        have hvX : v = takeN ((l.drop at').take n) := by rw [HV.out, hm0, HX.out.1]; rfl
        have wa : IntKind.i64.wrap ((at' : Int) + (n : Int)) = ((at' + n : Nat) : Int) := by rw [show (at' : Int) + (n : Int) = ((at' + n : Nat) : Int) by omega]; exact wrap_i64_of (by omega) (by have e1 := HMX.out; have e2 := HAT.out; have e3 := HN.out; unfold maxLen at e1; omega)
        obtain ⟨hT1, hK1⟩ := (HT.out.kept hh.out).set (at' + n) (by have e1 := HS.out; rw [List.length_drop] at e1; have e2 := HN.out; omega)
        have ecast : ((at' + n : Nat) : Int) = (at' : Int) + (n : Int) := by omega
        rw [ecast] at hT1 hK1
        obtain ⟨w5, hw5⟩ : ∃ w5, w5 = wr.setCell ⟨g, 1, none⟩ (.int .i64 ((at' : Int) + (n : Int))) := ⟨_, rfl⟩
        rw [← hw5] at hT1 hK1
        rw [ecast] at wa
        have HT1 := @hideH _ hT1
        have HK1 := @hideH _ ((hh.out.mono (by simp)).trans hK1 (fun x hx => .inl hx))
        obtain ⟨b5, -⟩ := HT1.out
        have e2 := b5.cell (j := 2) rfl
        have g2 := b5.free 2
        have HW5 := @hideH _ hw5
        clear b5 hT1 hK1 ecast hm0
        by_cases hv2 : v ≤ topLsn
        · have hd : decide ((1152921504606846976 : Int) < (v : Int)) = false := by unfold topLsn at hv2; exact decide_eq_false (by omega)
          have FIN := @hideH _ (show num n (l.drop at') = some (v, l.drop (at' + n)) by unfold num; rw [if_neg (by have := HS.out; omega), ← hvX, if_pos hv2, List.drop_drop])
          clear hvX hv2
          go_upto_region 13 with fail
          rw [← HW5.out]
          clear hw5
          go_wp2
          go_ret
          exact Took.of v (at' + n) bad rfl HT1.out HK1.out (.inl ⟨FIN.out, rfl⟩)
        · have hd : decide ((1152921504606846976 : Int) < (v : Int)) = true := by unfold topLsn at hv2; exact decide_eq_true (by omega)
          have FIN := @hideH _ (show num n (l.drop at') = none by unfold num; rw [if_neg (by have := HS.out; omega), ← hvX, if_neg hv2])
          obtain ⟨hT2, hK2⟩ := HT1.out.spoil
          have HT2 := @hideH _ hT2
          have HK2 := @hideH _ (HK1.out.trans hK2 (fun x hx => .inl hx))
          clear hvX hv2 hT2 hK2
          go_upto_region 13 with fail
          rw [← HW5.out]
          clear hw5
          go_wp2
          go_ret
          exact Took.of 0 (at' + n) true rfl HT2.out HK2.out (.inr ⟨FIN.out, rfl, rfl⟩)
      · have hi : (0 : Int) ≤ (m : Int) - 1 := by omega
        by_cases hv2 : v ≤ 4503599627370496
        · have hd : decide ((4503599627370496 : Int) < (v : Int)) = false := decide_eq_false (by omega)
          obtain ⟨j, hj⟩ : ∃ j, m = j + 1 := ⟨m - 1, by omega⟩
          subst hj
          have hji : ((j + 1 : Nat) : Int) - 1 = (j : Int) := by omega
          obtain ⟨x, hx⟩ : ∃ x, l[at' + j]? = some x := ⟨_, List.getElem?_eq_getElem (by have e1 := HS.out; rw [List.length_drop] at e1; omega)⟩
          have hxX : X[j]? = some x := by rw [HX.out.1, List.getElem?_take, if_pos (by omega), List.getElem?_drop]; exact hx
          obtain ⟨b, o, c', ev, -, -, -, hc⟩ := HBS.out.pos (by have e1 := (List.getElem?_eq_some_iff.1 hx).1; omega)
          obtain rfl : p = some ⟨b, o, none⟩ := by simp at ev; exact ev.1
          have cx := hh.out.cell (hc _ x hx) (by simp)
          have hxl := x.toNat_lt
          obtain ⟨y, hy⟩ : ∃ y, y = x.toNat := ⟨_, rfl⟩
          rw [← hy] at cx hxl
          have wi : IntKind.i64.wrap ((at' : Int) + (j : Int)) = (at' : Int) + (j : Int) := wrap_i64_of (by omega) (by have e1 := HMX.out; have e2 := HAT.out; have e3 := HN.out; unfold maxLen at e1; omega)
          have wi2 : ((at' : Int) + (j : Int)).toNat = at' + j := by omega
          have bi1 : (at' : Int) + (j : Int) < (l.length : Int) := by have e1 := HS.out; rw [List.length_drop] at e1; omega
          have bi0 : (0 : Int) ≤ (at' : Int) + (j : Int) := by omega
          have w1 : IntKind.i64.wrap ((v : Int) * 256) = (v : Int) * 256 := wrap_i64_of (by omega) (by omega)
          have w2 : IntKind.i64.wrap ((v : Int) * 256 + (y : Int)) = (v : Int) * 256 + (y : Int) := wrap_i64_of (by omega) (by omega)
          have w3 : IntKind.i64.wrap (y : Int) = (y : Int) := wrap_i64_of (by omega) (by omega)
          have w4 : IntKind.i64.wrap ((j : Int) - 1) = (j : Int) - 1 := wrap_i64_of (by omega) (by have e3 := HN.out; omega)
          have REL := @hideH _ (show ((takeN (X.drop j) : Nat) : Int) = (v : Int) * 256 + (y : Int) by rw [takeN_at hxX, ← HV.out, hy]; omega)
          have HKR := @hideH _ hh.out
          clear hx hxX hc ev hy hxl hv2 hh c2 f1 f2
          go_upto_region 11 with fail
          have s_c0 := fun (s : Calm wr) => s.kept.cell c0 (by simp)
          have s_c1 := fun (s : Calm wr) => s.kept.cell c1 (by simp)
          have s_cx := fun (s : Calm wr) => s.kept.cell cx (by simp)
          clear c0 c1 cx
          have KR := @hideH _ (Kept.refl [] wr)
          refine wp_region_calm KR.out (by kernel_rfl) (by kernel_rfl) ?_
          repeat (go_big_quiet_step (fail))
          refine wpQuiet_nil ?_
          intro _ hw'
          obtain ⟨sq, hw''⟩ := hw'
          subst hw''
          have ks := sq.kept
          generalize sq.at = wx at ks ⊢
          clear sq
          clear KR s_c0 s_c1 s_cx
          have HK9 := @hideH _ (HKR.out.then ks)
          clear ks
          go_wp2
          go_roundw
          case rel => exact ⟨j, by omega, by first | rfl | (exact congrArg (Value.int .i64) (by omega)), by rw [REL.out], HK9⟩
          case measure => simp [intOf]
        · have hd : decide ((4503599627370496 : Int) < (v : Int)) = true := decide_eq_true (by omega)
          have FIN := @hideH _ (show num n (l.drop at') = none from num_big HS.out (m := m) (by omega) (by rw [← HX.out.1, ← HV.out]; omega))
          obtain ⟨hT2, hK2⟩ := (HT.out.kept hh.out).spoil
          have HT2 := @hideH _ hT2
          have HK2 := @hideH _ ((hh.out.mono (by simp)).trans hK2 (fun x hx => .inl hx))
          clear hv2 hT2 hK2 hh
          go_wp2
          go_ret
          exact Took.of 0 (at') true rfl HT2.out HK2.out (.inr ⟨FIN.out, rfl, rfl⟩)
end Go.Proofs.Ytebcmcmboomgfaa

