/-
  OWN WORK. The plain list of the law, in memory; spot, taken, outside, tells.
-/
import Derived.Test.YtoildbbfnhjfoaaRows
import Derived.Deep.QuietTactic
import Derived.BigQuiet
import Derived.Test.YtoildbbfnhjfoaaRows3
import Derived.Test.YtoildbbfnhjfoaaHomeLaw
import Derived.Test.YtoildbbfnhjfoaaHomeRep
import Derived.Test.YtoildbbfnhjfoaaFam
namespace Go.Proofs.Ytoildbbfnhjfoaa
open Go.RowKit
set_option linter.unusedVariables false

def hcells : List (Nat × Nat × Nat) → List Value
  | [] => []
  | x :: r => .int .i64 (x.1 : Int) :: .int .u64 (x.2.1 : Int) :: .int .i64 (x.2.2 : Int) :: hcells r
theorem hcells_length (hs : List (Nat × Nat × Nat)) : (hcells hs).length = hs.length * 3 := by
  induction hs with
  | nil => rfl
  | cons x r ih => simp only [hcells, List.length_cons, ih]; omega
theorem hcells_one (hs : List (Nat × Nat × Nat)) (u : Value) (h : u ∈ hcells hs) : u.oneCell' = true := by
  induction hs with
  | nil => cases h
  | cons x r ih =>
    simp only [hcells, List.mem_cons] at h
    rcases h with rfl | rfl | rfl | h
    · rfl
    · rfl
    · rfl
    · exact ih h
theorem hcells_append (a b : List (Nat × Nat × Nat)) : hcells (a ++ b) = hcells a ++ hcells b := by
  induction a with
  | nil => rfl
  | cons x r ih => simp [hcells, ih]
theorem hcells_at {hs : List (Nat × Nat × Nat)} {i : Nat} {x : Nat × Nat × Nat} (h : hs[i]? = some x) : (hcells hs)[i * 3]? = some (.int .i64 (x.1 : Int)) ∧ (hcells hs)[i * 3 + 1]? = some (.int .u64 (x.2.1 : Int)) ∧ (hcells hs)[i * 3 + 2]? = some (.int .i64 (x.2.2 : Int)) := by
  induction hs generalizing i with
  | nil => simp at h
  | cons y r ih =>
    cases i with
    | zero =>
      simp at h
      subst h
      exact ⟨rfl, rfl, rfl⟩
    | succ i =>
      obtain ⟨h1, h2, h3⟩ := ih (by simpa using h)
      simp only [hcells, show (i + 1) * 3 = i * 3 + 1 + 1 + 1 by omega, List.getElem?_cons_succ, show i * 3 + 1 + 1 + 1 + 1 = (i * 3 + 1) + 1 + 1 + 1 by omega, show i * 3 + 1 + 1 + 1 + 2 = (i * 3 + 2) + 1 + 1 + 1 by omega]
      exact ⟨h1, h2, h3⟩
theorem hcells_take (hs : List (Nat × Nat × Nat)) (i : Nat) : hcells (hs.take i) = (hcells hs).take (i * 3) := by
  induction hs generalizing i with
  | nil => simp [hcells]
  | cons y r ih =>
    cases i with
    | zero => simp [hcells]
    | succ i => simp only [List.take_succ_cons, hcells, show (i + 1) * 3 = i * 3 + 1 + 1 + 1 by omega, ih]
theorem hcells_drop (hs : List (Nat × Nat × Nat)) (i : Nat) : hcells (hs.drop i) = (hcells hs).drop (i * 3) := by
  induction hs generalizing i with
  | nil => simp [hcells]
  | cons y r ih =>
    cases i with
    | zero => simp
    | succ i => simp only [List.drop_succ_cons, hcells, show (i + 1) * 3 = i * 3 + 1 + 1 + 1 by omega, ih]
theorem hcells_set {hs : List (Nat × Nat × Nat)} {i : Nat} {x : Nat × Nat × Nat} (h : hs[i]? = some x) (v : Nat) : (hcells hs).set (i * 3 + 1) (.int .u64 (v : Int)) = hcells (hs.set i (x.1, v, x.2.2)) := by
  induction hs generalizing i with
  | nil => simp at h
  | cons y r ih =>
    cases i with
    | zero =>
      simp at h
      subst h
      rfl
    | succ i =>
      simp only [hcells, List.set_cons_succ, show (i + 1) * 3 + 1 = (i * 3 + 1) + 1 + 1 + 1 by omega, ih (by simpa using h)]
theorem byte_eq' {l m : List UInt8} {i : Nat} (h : i < l.length) (k : i < m.length) (he : l[i]? = m[i]?) : (l[i].toNat : Int) = (m[i].toNat : Int) := by
  rw [List.getElem?_eq_getElem h, List.getElem?_eq_getElem k] at he
  simp only [Option.some.injEq] at he
  rw [he]
def Hs (w : World) (base : Nat) (v : Value) (hs : List (Nat × Nat × Nat)) : Prop := Row w base 3 v hs.length (hcells hs)
theorem Hs.nil (w : World) (base : Nat) : Hs w base (.slice none 0 0) [] := Row.nil w base 3
/-- one element, laid just now -/
theorem src_new {P : Program} (w : World) (t e : TypeId) (ht : P.underlying t = some (.slice e)) (x : Nat × Nat × Nat) : Src P 3 t (.slice (some ⟨w.heap.size, 0, none⟩) 1 1) 1 (hcells [x]) (w.alloc (.cells #[.int .i64 (x.1 : Int), .int .u64 (x.2.1 : Int), .int .i64 (x.2.2 : Int)] e)) := by
  refine Src.ofSlice _ ht _ _ _ _ rfl (fun j u hj => ?_) (hcells_one _)
  have e1 : (w.alloc (.cells #[.int .i64 (x.1 : Int), .int .u64 (x.2.1 : Int), .int .i64 (x.2.2 : Int)] e)).cell? ⟨w.heap.size, j, none⟩ = _ := World.cell?_alloc_new w _ _ j
  rw [add_none (a := ⟨w.heap.size, 0, none⟩) rfl]
  simp only [Nat.zero_add]
  rw [e1, ← hj]
  simp [hcells]
/-- where a key stands in the list -/
def SpotIs (hs : List (Nat × Nat × Nat)) (key : Nat) (z : Int) : Prop := (z = -1 ∧ ∀ (i : Nat) x, hs[i]? = some x → x.1 ≠ key) ∨ ∃ (i : Nat) (x : Nat × Nat × Nat), z = (i : Int) ∧ hs[i]? = some x ∧ x.1 = key
theorem spot_any (v : Value) (hs : List (Nat × Nat × Nat)) (key : Nat) (w : World) (base : Nat) (h : Hs w base v hs) (hl : hs.length ≤ 8) :
    Calls Try.prog 19 #[v, .int .i64 (key : Int)] w fun e w' => ∃ z, e = .returned (.int .i64 z) ∧ SpotIs hs key z ∧ w' = w := by
  obtain ⟨p, c, rfl, h3, h4⟩ := Row.shape h
  go_enter Try.func19, Try.ntmps19
  go_wp2
  go_loop [5] (fun i => ∃ k : Nat, k ≤ hs.length ∧ i = .int .i64 (k : Int) ∧ Hid (∀ (i : Nat) x, i < k → hs[i]? = some x → x.1 ≠ key)) (fun i => hs.length - (intOf i).toNat)
  case atStart => exact ⟨0, Nat.zero_le _, rfl, (show ∀ (i : Nat) x, i < 0 → hs[i]? = some x → x.1 ≠ key by intro i x hi; omega)⟩
  case round =>
    obtain ⟨k, hk, rfl, hno⟩ := hrel
    by_cases hlt : k < hs.length
    · obtain ⟨g, rfl, h6, h7, h8, h9⟩ := Row.pos h (by omega)
      obtain ⟨x, hx⟩ : ∃ x, hs[k]? = some x := ⟨_, List.getElem?_eq_getElem hlt⟩
      have hc := h8 _ _ (hcells_at hx).1
      have HX : Hid (hs[k]? = some x) := hx
      clear h8 h9 hx
      by_cases e : x.1 = key
      · have e' : (x.1 : Int) = (key : Int) := by omega
        rw [e'] at hc
        clear e'
        go_wp2
        go_ret
        exact ⟨_, rfl, .inr ⟨k, x, rfl, HX.out, e⟩, rfl⟩
      · have e' : ¬ (x.1 : Int) = (key : Int) := by omega
        go_wp2
        go_round
        case rel => exact ⟨k + 1, by omega, by go_num, (show ∀ (i : Nat) y, i < k + 1 → hs[i]? = some y → y.1 ≠ key by
          intro i y hi hy
          rcases Nat.lt_or_ge i k with c | c
          · exact hno.out i y c hy
          · obtain rfl : i = k := by omega
            rw [HX.out] at hy
            cases hy
            exact e)⟩
        case measure => simp [intOf]; omega
    · obtain rfl : k = hs.length := by omega
      go_wp2
      go_ret
      exact ⟨_, rfl, .inl ⟨rfl, fun i x hx => hno.out i x (List.getElem?_eq_some_iff.1 hx).1 hx⟩, rfl⟩
/-- is a slot taken? -/
def TakenIs (hs : List (Nat × Nat × Nat)) (t : Nat) (b : Bool) : Prop := b = true ↔ ∃ (i : Nat) (x : Nat × Nat × Nat), hs[i]? = some x ∧ x.2.2 = t
theorem taken_any (v : Value) (hs : List (Nat × Nat × Nat)) (t : Nat) (w : World) (base : Nat) (h : Hs w base v hs) (hl : hs.length ≤ 8) :
    Calls Try.prog 21 #[v, .int .i64 (t : Int)] w fun e w' => ∃ b, e = .returned (.bool b) ∧ TakenIs hs t b ∧ w' = w := by
  obtain ⟨p, c, rfl, h3, h4⟩ := Row.shape h
  go_enter Try.func21, Try.ntmps21
  go_wp2
  go_loop [5] (fun i => ∃ k : Nat, k ≤ hs.length ∧ i = .int .i64 (k : Int) ∧ Hid (∀ (i : Nat) x, i < k → hs[i]? = some x → x.2.2 ≠ t)) (fun i => hs.length - (intOf i).toNat)
  case atStart => exact ⟨0, Nat.zero_le _, rfl, (show ∀ (i : Nat) x, i < 0 → hs[i]? = some x → x.2.2 ≠ t by intro i x hi; omega)⟩
  case round =>
    obtain ⟨k, hk, rfl, hno⟩ := hrel
    by_cases hlt : k < hs.length
    · obtain ⟨g, rfl, h6, h7, h8, h9⟩ := Row.pos h (by omega)
      obtain ⟨x, hx⟩ : ∃ x, hs[k]? = some x := ⟨_, List.getElem?_eq_getElem hlt⟩
      have hc := h8 _ _ (hcells_at hx).2.2
      have HX : Hid (hs[k]? = some x) := hx
      clear h8 h9 hx
      by_cases e : x.2.2 = t
      · have e' : (x.2.2 : Int) = (t : Int) := by omega
        rw [e'] at hc
        clear e'
        go_wp2
        go_ret
        exact .inr ⟨rfl, ⟨fun _ => ⟨k, x, HX.out, e⟩, fun _ => rfl⟩, rfl⟩
      · have e' : ¬ (x.2.2 : Int) = (t : Int) := by omega
        go_wp2
        go_round
        case rel => exact ⟨k + 1, by omega, by go_num, (show ∀ (i : Nat) y, i < k + 1 → hs[i]? = some y → y.2.2 ≠ t by
          intro i y hi hy
          rcases Nat.lt_or_ge i k with c | c
          · exact hno.out i y c hy
          · obtain rfl : i = k := by omega
            rw [HX.out] at hy
            cases hy
            exact e)⟩
        case measure => simp [intOf]; omega
    · obtain rfl : k = hs.length := by omega
      go_wp2
      go_ret
      exact .inl ⟨rfl, ⟨fun h => (by cases h), fun ⟨i, x, hx, e⟩ => absurd e (hno.out i x (List.getElem?_eq_some_iff.1 hx).1 hx)⟩, rfl⟩
set_option maxHeartbeats 1600000 in
/-- what changes lies in one slot -/
theorem outside_any (u v : Value) (a r : List UInt8) (t : Nat) (w : World) (hr : r.length = 16) (ht : t < slotsOf a) (hu : Bs w u a) (hv : Bs w v (withSlot a t r)) :
    Calls Try.prog 20 #[u, v, .int .i64 (t : Int)] w fun e w' => e = .returned (.bool true) ∧ Kept [] w w' := by
  have hsl := slots_le a
  have hal := slots_len a (by omega)
  have hbl : (withSlot a t r).length = a.length := withSlot_length hr ht
  obtain ⟨b, hb⟩ : ∃ b, b = withSlot a t r := ⟨_, rfl⟩
  rw [← hb] at hv hbl
  have HB : Hid (∀ i, ¬ (16 + 16 * t ≤ i ∧ i < 32 + 16 * t) → b[i]? = a[i]?) := (show ∀ i, ¬ (16 + 16 * t ≤ i ∧ i < 32 + 16 * t) → b[i]? = a[i]? by
    intro i hi
    rw [hb, withSlot_at hr ht, if_neg hi])
  clear hb
  obtain ⟨bu, ou, cu, rfl, hu1, hu2, hu3, hcu⟩ := hu.pos (by omega)
  obtain ⟨bv, ov, cv, rfl, hv1, hv2, hv3, hcv⟩ := hv.pos (by omega)
  have HU : Hid (∀ (i : Nat) x, a[i]? = some x → w.cell? ⟨bu, ou + i, none⟩ = some (.int .u8 (x.toNat : Int))) := hcu
  have HV : Hid (∀ (i : Nat) x, b[i]? = some x → w.cell? ⟨bv, ov + i, none⟩ = some (.int .u8 (x.toNat : Int))) := hcv
  obtain ⟨n, hn⟩ : ∃ n, n = a.length := ⟨_, rfl⟩
  rw [hbl, ← hn]
  have HN : Hid (n = a.length ∧ b.length = a.length ∧ n ≤ 152) := (show n = a.length ∧ b.length = a.length ∧ n ≤ 152 by omega)
  have hlen : n ≤ 9223372036854775807 := by omega
  have ew1 : IntKind.i64.wrap (16 * (t : Int)) = 16 * (t : Int) := by rw [IntKind.wrap_i64]; omega
  have ew2 : IntKind.i64.wrap (16 + 16 * (t : Int)) = 16 + 16 * (t : Int) := by rw [IntKind.wrap_i64]; omega
  have ew3 : IntKind.i64.wrap (32 + 16 * (t : Int)) = 32 + 16 * (t : Int) := by rw [IntKind.wrap_i64]; omega
  clear hcu hcv hu hv hal hbl hn hr ht hsl hu1 hv1
  go_enter Try.func20, Try.ntmps20
  go_wp2
  go_loopw [7] (fun i wr => ∃ k : Nat, k ≤ n ∧ i = .int .i64 (k : Int) ∧ Kept [] w wr) (fun i _ => n - (intOf i).toNat)
  case atStart => exact ⟨0, Nat.zero_le _, rfl, Kept.refl [] _⟩
  case round =>
    obtain ⟨k, hk, rfl, kw⟩ := hrel
    by_cases hlt : k < n
    · have hka : k < a.length := by have := HN.out; omega
      have hkb : k < b.length := by have := HN.out; omega
      have hlt' : (k : Int) < (n : Int) := by omega
      have ca := kw.cell (HU.out k a[k] (List.getElem?_eq_getElem hka)) (by simp)
      have cb := kw.cell (HV.out k b[k] (List.getElem?_eq_getElem hkb)) (by simp)
      by_cases hin : 16 + 16 * t ≤ k ∧ k < 32 + 16 * t
      · have c1 : ¬ (k : Int) < 16 + 16 * (t : Int) := by omega
        have c2 : ¬ 32 + 16 * (t : Int) ≤ (k : Int) := by omega
        have g1 : decide ((k : Int) < 16 + 16 * (t : Int)) = false := decide_eq_false c1
        have g2 : decide (32 + 16 * (t : Int) ≤ (k : Int)) = false := decide_eq_false c2
        clear hin c1 c2
        go_wp2
        go_quiet (fail)
        go_wp2
        go_roundw
        case rel => exact ⟨k + 1, by omega, by go_num, kw.drewN' _⟩
        case measure => simp [intOf]; omega
      · have e1 : (b[k].toNat : Int) = (a[k].toNat : Int) := byte_eq' hkb hka (HB.out k hin)
        rw [e1] at cb
        clear e1
        by_cases c1 : (k : Int) < 16 + 16 * (t : Int)
        · clear hin
          go_wp2
          go_quiet (fail)
          go_wp2
          go_roundw
          case rel => exact ⟨k + 1, by omega, by go_num, kw.drewN' _⟩
          case measure => simp [intOf]; omega
        · have c2 : 32 + 16 * (t : Int) ≤ (k : Int) := by omega
          clear hin
          go_wp2
          go_quiet (fail)
          go_wp2
          go_roundw
          case rel => exact ⟨k + 1, by omega, by go_num, kw.drewN' _⟩
          case measure => simp [intOf]; omega
    · obtain rfl : k = n := by omega
      go_wp2
      go_ret
      exact ⟨rfl, kw⟩
end Go.Proofs.Ytoildbbfnhjfoaa
