/-
  OWN WORK. A slice of slices of bytes; octet.Join and the document's Join.
-/
import Derived.Test.YtppdidimhchlgaaRows
import Derived.Test.YtppdidimhchlgaaGet
namespace Go.Proofs.Ytppdidimhchlgaa
open Go.RowKit
set_option linter.unusedVariables false

/-- THE VALUE v IS A SLICE OF SLICES OF THESE BYTES IN w. -/
def Bss (w : World) (v : Value) (ls : List (List UInt8)) : Prop :=
  ∃ (p : Option Addr) (c : Nat), v = .slice p ls.length c ∧ ls.length ≤ c ∧ c ≤ maxLen ∧ (p = none → c = 0) ∧
    ∀ a, p = some a → ∀ (i : Nat) l, ls[i]? = some l → ∃ q d, w.cell? (a.add i) = some (.slice q l.length d) ∧ Bs w (.slice q l.length d) l
theorem Bss.pos {w : World} {v : Value} {ls : List (List UInt8)} (h : Bss w v ls) (hl : 0 < ls.length) :
    ∃ b o c, v = .slice (some ⟨b, o, none⟩) ls.length c ∧ ls.length ≤ c ∧ c ≤ maxLen ∧ b < w.heap.size ∧
      ∀ (i : Nat) l, ls[i]? = some l → ∃ q d, w.cell? ⟨b, o + i, none⟩ = some (.slice q l.length d) ∧ Bs w (.slice q l.length d) l := by
  obtain ⟨p, c, rfl, h1, h2, h3, h4⟩ := h
  cases p with
  | none => have := h3 rfl; omega
  | some a =>
    obtain ⟨q, d, hc, _⟩ := h4 a rfl 0 ls[0] (List.getElem?_eq_getElem hl)
    have hs := spot_of_cell hc
    have hs' : a.spot = none := by
      unfold Addr.add at hs
      split at hs <;> simp_all
    have hb := lt_of_cell hc
    rw [add_block] at hb
    refine ⟨a.block, a.off, c, by obtain ⟨b, o, s⟩ := a; simp_all, h1, h2, hb, fun i x hx => ?_⟩
    rw [← add_none hs' i]
    exact h4 a rfl i x hx
theorem Bss.kept {w w' : World} {v : Value} {ls : List (List UInt8)} (h : Bss w v ls) (k : Kept [] w w') : Bss w' v ls := by
  obtain ⟨p, c, rfl, h1, h2, h3, h4⟩ := h
  refine ⟨p, c, rfl, h1, h2, h3, fun a e i l hl => ?_⟩
  obtain ⟨q, d, hc, hb⟩ := h4 a e i l hl
  exact ⟨q, d, k.cell hc (by simp), hb.kept k⟩
/-- a literal's slices in a block of their own -/
theorem Bss.lit (w : World) (e : TypeId) (vs : List Value) (ls : List (List UInt8)) (hl : vs.length = ls.length) (hm : ls.length ≤ maxLen) (hB : ∀ (i : Nat) v l, vs[i]? = some v → ls[i]? = some l → Bs w v l) (H : Nat) (hH : w.heap.size = H) :
    Bss (w.alloc (.cells vs.toArray e)) (.slice (some ⟨H, 0, none⟩) ls.length ls.length) ls := by
  subst hH
  refine ⟨_, ls.length, rfl, Nat.le_refl _, hm, fun e => (by cases e), fun a ha i l hi => ?_⟩
  cases ha
  have hv : i < vs.length := by rw [hl]; exact (List.getElem?_eq_some_iff.1 hi).1
  have hb := hB i vs[i] l (List.getElem?_eq_getElem hv) hi
  obtain ⟨q, d, hq, -⟩ := id hb
  refine ⟨q, d, ?_, ?_⟩
  · have := World.news_of_block (heap_alloc_new w (.cells vs.toArray e)) i vs[i] (by simp)
    rw [← hq]
    exact this
  · rw [← hq]
    exact hb.kept ((Kept.refl [] w).alloc _)
/-- the rows one behind the other -/
def flat (ls : List (List UInt8)) : List UInt8 := ls.flatten
theorem flat_nil : flat [] = [] := rfl
theorem flat_take (ls : List (List UInt8)) (k : Nat) (l : List UInt8) (h : ls[k]? = some l) : flat (ls.take (k + 1)) = flat (ls.take k) ++ l := by
  obtain ⟨hk, rfl⟩ := List.getElem?_eq_some_iff.1 h
  unfold flat
  rw [List.take_succ_eq_append_getElem hk, List.flatten_append]
  simp
theorem flat_le (ls : List (List UInt8)) (k : Nat) : (flat (ls.take k)).length ≤ (flat ls).length := by
  unfold flat
  have : ls.flatten = (ls.take k).flatten ++ (ls.drop k).flatten := by rw [← List.flatten_append, List.take_append_drop]
  rw [this, List.length_append]; omega

set_option maxHeartbeats 800000 in
theorem join_any (v : Value) (ls : List (List UInt8)) (w : World) (hv : Bss w v ls) (ht : (flat ls).length ≤ 140737488355328) :
    Calls Try.prog 11 #[v] w fun e w' => ∃ v', e = .returned v' ∧ w'.ownsRow w.heap.size 5 1 v' (flat ls).length (u8s (flat ls)) ∧ Kept [] w w' := by
  have hmk := fun u => run_make_bs (P := Try.prog) u 25 5 Try.underlying25 (by kernel_rfl) 0 (flat ls).length (by omega) (by omega)
  have hown0 := own_made w 5 w.heap.size 0 (flat ls).length (Nat.le_refl _) (by omega) (by unfold maxLen; omega)
  rw [show ((0 : Nat) : Int) = 0 from rfl] at hmk
  by_cases h0 : ls.length = 0
  · obtain rfl : ls = [] := List.eq_nil_of_length_eq_zero h0
    obtain ⟨p, c, rfl, -⟩ := hv
    simp only [flat_nil, List.length_nil] at hmk hown0
    rw [show ((0 : Nat) : Int) = 0 from rfl] at hmk
    go_enter Try.func11, Try.ntmps11
    go_wp2
    refine wp_loop_rounds 1 ?_
    rw [rounds_succ]
    go_wp2
    refine wp_loop_rounds 1 ?_
    rw [rounds_succ]
    go_wp2
    go_ret
    exact ⟨_, rfl, by simpa [u8s, flat_nil] using hown0, (Kept.refl [] w).alloc _⟩
  · obtain ⟨b, o, c, rfl, h1, h2, hb, hcell⟩ := id (hv.pos (by omega))
    have hlen : ls.length ≤ 9223372036854775807 := by unfold maxLen at h2; omega
    go_enter Try.func11, Try.ntmps11
    go_wp2
    go_loop [3, 11] (fun s i => ∃ k : Nat, k ≤ ls.length ∧ i = .int .i64 k ∧ s = .int .i64 ((flat (ls.take k)).length : Int)) (fun _ i => ls.length - (intOf i).toNat)
    case atStart => exact ⟨0, Nat.zero_le _, rfl, rfl⟩
    case round =>
      obtain ⟨k, hk, rfl, rfl⟩ := hrel
      by_cases hlt : k < ls.length
      · obtain ⟨l, hl⟩ : ∃ l, ls[k]? = some l := ⟨_, List.getElem?_eq_getElem hlt⟩
        obtain ⟨q, d, hc, hB⟩ := hcell k l hl
        have hf1 := flat_le ls (k + 1)
        rw [flat_take ls k l hl, List.length_append] at hf1
        have HL : Hid (ls[k]? = some l) := hl
        clear hl
        go_wp2
        go_round
        case rel => exact ⟨k + 1, by omega, by go_num, by rw [flat_take ls k l HL.out, List.length_append]; go_num⟩
        case measure => simp [intOf]; omega
      · have e : ls.take k = ls := List.take_of_length_le (by omega)
        rw [e]
        clear e
        go_wp2
        go_loopw [6, 24] (fun s i wr => ∃ k : Nat, k ≤ ls.length ∧ i = .int .i64 k ∧ wr.ownsRow w.heap.size 5 1 s (flat (ls.take k)).length (u8s (flat (ls.take k))) ∧ Kept [] w wr) (fun _ i _ => ls.length - (intOf i).toNat)
        case atStart => exact ⟨0, Nat.zero_le _, rfl, by simpa [u8s, flat] using hown0, (Kept.refl [] w).alloc _⟩
        case round =>
          obtain ⟨j, hj, rfl, hown, hkept⟩ := hrel
          have hsz := hkept.size
          by_cases hjt : j < ls.length
          · obtain ⟨l, hl⟩ : ∃ l, ls[j]? = some l := ⟨_, List.getElem?_eq_getElem hjt⟩
            obtain ⟨q, d, hc, hB⟩ := hcell j l hl
            have hc' := hkept.cell hc (by simp)
            have hB' := hB.kept hkept
            have hf1 := flat_le ls (j + 1)
            have hf2 := flat_take ls j l hl
            rw [hf2, List.length_append] at hf1
            have HL : Hid (flat (ls.take (j + 1)) = flat (ls.take j) ++ l) := hf2
            clear hl hf2 hc hB hmk hown0
            go_wp2_with (at_builtin; refine wpList_append_bs rfl (.tmp 28) (.tmp 29) 25 rfl w.heap.size 5 Try.underlying25 (by kernel_rfl) _ _ _ (by rfl) hown _ l (by rfl) hB' (by omega) hsz ?_; intro v2 w2 hown2 hg2 hat2)
            have hk2 : Kept [] w w2 := hkept.grown hg2 fun m hm => .inr (own_ge hown m hm)
            go_roundw
            case rel => exact ⟨j + 1, by omega, by go_num, by rw [HL.out, List.length_append, u8s_append]; exact hown2, hk2⟩
            case measure => simp [intOf]; omega
          · have e : ls.take j = ls := List.take_of_length_le (by omega)
            rw [e] at hown
            clear e
            go_wp2
            go_ret
            exact ⟨_, rfl, hown, hkept⟩

set_option maxHeartbeats 800000 in
theorem refJoin_any (v : Value) (ls : List (List UInt8)) (w : World) (hv : Bss w v ls) (ht : (flat ls).length ≤ 140737488355328) :
    Calls Try.prog 12 #[v] w fun e w' => ∃ v', e = .returned v' ∧ w'.ownsRow w.heap.size 5 1 v' (flat ls).length (u8s (flat ls)) ∧ Kept [] w w' := by
  by_cases h0 : ls.length = 0
  · obtain rfl : ls = [] := List.eq_nil_of_length_eq_zero h0
    obtain ⟨p, c, rfl, -⟩ := hv
    go_enter Try.func12, Try.ntmps12
    go_wp2
    refine wp_loop_rounds 1 ?_
    rw [rounds_succ]
    go_wp2
    go_ret
    exact ⟨_, rfl, World.ownsRow_nil _ _ _ _, Kept.refl [] _⟩
  · obtain ⟨b, o, c, rfl, h1, h2, hb, hcell⟩ := id (hv.pos (by omega))
    have hlen : ls.length ≤ 9223372036854775807 := by unfold maxLen at h2; omega
    go_enter Try.func12, Try.ntmps12
    go_wp2
    go_loopw [3, 4] (fun s i wr => ∃ k : Nat, k ≤ ls.length ∧ i = .int .i64 k ∧ wr.ownsRow w.heap.size 5 1 s (flat (ls.take k)).length (u8s (flat (ls.take k))) ∧ Kept [] w wr) (fun _ i _ => ls.length - (intOf i).toNat)
    case atStart => exact ⟨0, Nat.zero_le _, rfl, World.ownsRow_nil _ _ _ _, Kept.refl [] _⟩
    case round =>
      obtain ⟨k, hk, rfl, hown, hkept⟩ := hrel
      have hsz := hkept.size
      by_cases hlt : k < ls.length
      · obtain ⟨l, hl⟩ : ∃ l, ls[k]? = some l := ⟨_, List.getElem?_eq_getElem hlt⟩
        obtain ⟨q, d, hc, hB⟩ := hcell k l hl
        have hc' := hkept.cell hc (by simp)
        have hB' := hB.kept hkept
        have hf1 := flat_le ls (k + 1)
        have hf2 := flat_take ls k l hl
        rw [hf2, List.length_append] at hf1
        have HL : Hid (flat (ls.take (k + 1)) = flat (ls.take k) ++ l) := hf2
        clear hl hf2 hc hB
        go_wp2_with (at_builtin; refine wpList_append_bs rfl (.tmp 11) (.tmp 15) 25 rfl w.heap.size 5 Try.underlying25 (by kernel_rfl) _ _ _ (by rfl) hown _ l (by rfl) hB' (by omega) hsz ?_; intro v2 w2 hown2 hg2 hat2)
        have hk2 : Kept [] w w2 := hkept.grown hg2 fun m hm => .inr (own_ge hown m hm)
        go_roundw
        case rel => exact ⟨k + 1, by omega, by go_num, by rw [HL.out, List.length_append, u8s_append]; exact hown2, hk2⟩
        case measure => simp [intOf]; omega
      · have e : ls.take k = ls := List.take_of_length_le (by omega)
        rw [e] at hown
        clear e
        go_wp2
        go_ret
        exact ⟨_, rfl, hown, hkept⟩
end Go.Proofs.Ytppdidimhchlgaa
