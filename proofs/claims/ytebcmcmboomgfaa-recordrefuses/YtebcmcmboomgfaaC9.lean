import Derived.Lib.SlBytesConst
import Derived.Test.YtebcmcmboomgfaaRows
import Derived.Recover
import Derived.Test.YtebcmcmboomgfaaC8
/-
  OWN WORK. '[]byte("..")' of a constant text.
-/
namespace Go.Proofs.Ytebcmcmboomgfaa
open Go.RowKit
set_option linter.unusedVariables false

theorem run_lit {P : Program} (w : World) (t e : TypeId) (C : Array Value) (n c g : Nat) (hg : g = w.heap.size) (ht : P.underlying t = some (.slice e)) (he : P.underlying e = some (.int .u8)) :
    (convert t t (.slice (some ⟨g, 0, none⟩) n c)).run P (w.alloc (.cells C e)) = .ok (.slice (some ⟨g, 0, none⟩) n c) (w.alloc (.cells C e (C.size, C.size + 1))) := by
  subst hg; exact Lib.run_convert_bytes_const w t e C n c ht he
theorem Bs.litF (w : World) (e : TypeId) (l : List UInt8) (cs : Array Value) (fr : Nat × Nat) (hcs : cs = (u8s l).toArray) (hl : l.length ≤ maxLen) (H : Nat) (hH : w.heap.size = H) : Bs (w.alloc (.cells cs e fr)) (.slice (some ⟨H, 0, none⟩) l.length l.length) l := by
  subst hcs
  subst hH
  exact Bs.mk (Nat.le_refl _) hl fun i x hx => by
    have := World.news_of_block (heap_alloc_new w (.cells (u8s l).toArray e fr)) i (.int .u8 (x.toNat : Int)) (by simp [u8s, hx])
    rwa [add_none rfl] at this
end Go.Proofs.Ytebcmcmboomgfaa

/-
  OWN WORK. octet.Put at its four widths.
-/
namespace Go.Proofs.Ytebcmcmboomgfaa
open Go.RowKit
set_option linter.unusedVariables false

set_option maxHeartbeats 800000 in
theorem put8_any (v : Value) (l : List UInt8) (x : Nat) (w : World) (hv : Bs w v l) (hl : l.length ≤ 140737488355000) (hx : (x : Int) < 256) :
    Calls Try.prog 49 #[v, .int .u8 (x : Int)] w fun e w' => ∃ v', e = .returned v' ∧ w'.ownsRow w.heap.size 5 1 v' (l.length + 1) (u8s (l ++ lay 1 x)) ∧ Kept [] w w' := by
  have hmk := fun u => run_make_bs (P := Try.prog) u 22 5 Try.underlying22 (by kernel_rfl) l.length (l.length + 1) (by omega) (by omega)
  have ec : ((l.length + 1 : Nat) : Int) = (l.length : Int) + 1 := by omega
  rw [ec] at hmk
  have hown0 := own_made w 5 w.heap.size l.length (l.length + 1) (Nat.le_refl _) (by omega) (by unfold maxLen; omega)
  have hB : Bs (w.alloc (.cells (madeCells #[.int .u8 0] (l.length + 1)) 5)) v l := hv.kept ((Kept.refl [] w).alloc _)
  have hwr : IntKind.u64.wrap (x : Int) = (x : Int) := by rw [IntKind.wrap_u64]; omega
  clear hx
  obtain ⟨p, c, rfl, h1, h2, h3, h4⟩ := hv
  go_enter Try.func49, Try.ntmps49
  go_wp2_with (first | (go_at_call 68; refine (width8_any _).mono ?_; rintro e w' ⟨rfl, rfl⟩) | (refine wpList_copy_bs rfl (.tmp 16) (.tmp 17) 22 rfl _ 5 Try.underlying22 (by kernel_rfl) _ _ _ (by rfl) hown0 _ l (by rfl) hB rfl ?_; intro w1 hown1 hg1))
  have hk1 : Kept [] w' w1 := ((Kept.refl [] w').alloc _).grown hg1 fun k hk => .inr (own_ge hown0 k hk)
  clear hmk hown0 hB hg1 h3 h4
  go_loopw [6, 20] (fun s i wr => ∃ k : Nat, k ≤ 1 ∧ i = .int .i64 k ∧ wr.ownsRow w'.heap.size 5 1 s (l.length + k) (u8s (l ++ lay k x)) ∧ Kept [] w' wr) (fun _ i _ => 1 - (intOf i).toNat)
  case atStart => exact ⟨0, Nat.zero_le _, rfl, by simpa [lay] using hown1, hk1⟩
  case round =>
    obtain ⟨k, hk, rfl, hown, hkept⟩ := hrel
    have hsz := hkept.size
    clear hown1 hk1 ec
    by_cases hlt : k < 1
    · go_wp2_with (at_builtin; refine wpList_append_bs rfl (.tmp 23) (.tmp 30) 22 rfl w'.heap.size 5 Try.underlying22 (by kernel_rfl) _ _ _ (by rfl) (hown.alloc _) _ [UInt8.ofNat (x / 256 ^ k)] (by rfl) (Bs.one wr 5 _ _ (byte_of x k)) (by simp; omega) (by simp; omega) ?_; intro v2 w2 hown2 hg2 hat2)
      have hk2 : Kept [] w' w2 := (hkept.alloc _).grown hg2 fun j hj => .inr (own_ge hown j hj)
      go_roundw
      case rel => exact ⟨k + 1, by omega, by go_num, by rw [lay_succ, ← List.append_assoc, u8s_append]; exact hown2, hk2⟩
      case measure => simp [intOf]; omega
    · go_wp2
      go_ret
      obtain rfl : k = 1 := by omega
      exact ⟨_, rfl, hown, hkept⟩

set_option maxHeartbeats 800000 in
theorem put16_any (v : Value) (l : List UInt8) (x : Nat) (w : World) (hv : Bs w v l) (hl : l.length ≤ 140737488355000) (hx : (x : Int) < 65536) :
    Calls Try.prog 80 #[v, .int .u16 (x : Int)] w fun e w' => ∃ v', e = .returned v' ∧ w'.ownsRow w.heap.size 5 1 v' (l.length + 2) (u8s (l ++ lay 2 x)) ∧ Kept [] w w' := by
  have hmk := fun u => run_make_bs (P := Try.prog) u 22 5 Try.underlying22 (by kernel_rfl) l.length (l.length + 2) (by omega) (by omega)
  have ec : ((l.length + 2 : Nat) : Int) = (l.length : Int) + 2 := by omega
  rw [ec] at hmk
  have hown0 := own_made w 5 w.heap.size l.length (l.length + 2) (Nat.le_refl _) (by omega) (by unfold maxLen; omega)
  have hB : Bs (w.alloc (.cells (madeCells #[.int .u8 0] (l.length + 2)) 5)) v l := hv.kept ((Kept.refl [] w).alloc _)
  have hwr : IntKind.u64.wrap (x : Int) = (x : Int) := by rw [IntKind.wrap_u64]; omega
  clear hx
  obtain ⟨p, c, rfl, h1, h2, h3, h4⟩ := hv
  go_enter Try.func80, Try.ntmps80
  go_wp2_with (first | (go_at_call 86; refine (width16_any _).mono ?_; rintro e w' ⟨rfl, rfl⟩) | (refine wpList_copy_bs rfl (.tmp 16) (.tmp 17) 22 rfl _ 5 Try.underlying22 (by kernel_rfl) _ _ _ (by rfl) hown0 _ l (by rfl) hB rfl ?_; intro w1 hown1 hg1))
  have hk1 : Kept [] w' w1 := ((Kept.refl [] w').alloc _).grown hg1 fun k hk => .inr (own_ge hown0 k hk)
  clear hmk hown0 hB hg1 h3 h4
  go_loopw [6, 20] (fun s i wr => ∃ k : Nat, k ≤ 2 ∧ i = .int .i64 k ∧ wr.ownsRow w'.heap.size 5 1 s (l.length + k) (u8s (l ++ lay k x)) ∧ Kept [] w' wr) (fun _ i _ => 2 - (intOf i).toNat)
  case atStart => exact ⟨0, Nat.zero_le _, rfl, by simpa [lay] using hown1, hk1⟩
  case round =>
    obtain ⟨k, hk, rfl, hown, hkept⟩ := hrel
    have hsz := hkept.size
    clear hown1 hk1 ec
    by_cases hlt : k < 2
    · go_wp2_with (at_builtin; refine wpList_append_bs rfl (.tmp 23) (.tmp 30) 22 rfl w'.heap.size 5 Try.underlying22 (by kernel_rfl) _ _ _ (by rfl) (hown.alloc _) _ [UInt8.ofNat (x / 256 ^ k)] (by rfl) (Bs.one wr 5 _ _ (byte_of x k)) (by simp; omega) (by simp; omega) ?_; intro v2 w2 hown2 hg2 hat2)
      have hk2 : Kept [] w' w2 := (hkept.alloc _).grown hg2 fun j hj => .inr (own_ge hown j hj)
      go_roundw
      case rel => exact ⟨k + 1, by omega, by go_num, by rw [lay_succ, ← List.append_assoc, u8s_append]; exact hown2, hk2⟩
      case measure => simp [intOf]; omega
    · go_wp2
      go_ret
      obtain rfl : k = 2 := by omega
      exact ⟨_, rfl, hown, hkept⟩

set_option maxHeartbeats 800000 in
theorem put64_any (v : Value) (l : List UInt8) (x : Nat) (w : World) (hv : Bs w v l) (hl : l.length ≤ 140737488355000) (hx : (x : Int) < 18446744073709551616) :
    Calls Try.prog 50 #[v, .int .u64 (x : Int)] w fun e w' => ∃ v', e = .returned v' ∧ w'.ownsRow w.heap.size 5 1 v' (l.length + 8) (u8s (l ++ lay 8 x)) ∧ Kept [] w w' := by
  have hmk := fun u => run_make_bs (P := Try.prog) u 22 5 Try.underlying22 (by kernel_rfl) l.length (l.length + 8) (by omega) (by omega)
  have ec : ((l.length + 8 : Nat) : Int) = (l.length : Int) + 8 := by omega
  rw [ec] at hmk
  have hown0 := own_made w 5 w.heap.size l.length (l.length + 8) (Nat.le_refl _) (by omega) (by unfold maxLen; omega)
  have hB : Bs (w.alloc (.cells (madeCells #[.int .u8 0] (l.length + 8)) 5)) v l := hv.kept ((Kept.refl [] w).alloc _)
  have hwr : IntKind.u64.wrap (x : Int) = (x : Int) := by rw [IntKind.wrap_u64]; omega
  clear hx
  obtain ⟨p, c, rfl, h1, h2, h3, h4⟩ := hv
  go_enter Try.func50, Try.ntmps50
  go_wp2_with (first | (go_at_call 69; refine (width64_any _).mono ?_; rintro e w' ⟨rfl, rfl⟩) | (refine wpList_copy_bs rfl (.tmp 16) (.tmp 17) 22 rfl _ 5 Try.underlying22 (by kernel_rfl) _ _ _ (by rfl) hown0 _ l (by rfl) hB rfl ?_; intro w1 hown1 hg1))
  have hk1 : Kept [] w' w1 := ((Kept.refl [] w').alloc _).grown hg1 fun k hk => .inr (own_ge hown0 k hk)
  clear hmk hown0 hB hg1 h3 h4
  go_loopw [6, 20] (fun s i wr => ∃ k : Nat, k ≤ 8 ∧ i = .int .i64 k ∧ wr.ownsRow w'.heap.size 5 1 s (l.length + k) (u8s (l ++ lay k x)) ∧ Kept [] w' wr) (fun _ i _ => 8 - (intOf i).toNat)
  case atStart => exact ⟨0, Nat.zero_le _, rfl, by simpa [lay] using hown1, hk1⟩
  case round =>
    obtain ⟨k, hk, rfl, hown, hkept⟩ := hrel
    have hsz := hkept.size
    clear hown1 hk1 ec
    by_cases hlt : k < 8
    · go_wp2_with (at_builtin; refine wpList_append_bs rfl (.tmp 23) (.tmp 29) 22 rfl w'.heap.size 5 Try.underlying22 (by kernel_rfl) _ _ _ (by rfl) (hown.alloc _) _ [UInt8.ofNat (x / 256 ^ k)] (by rfl) (Bs.one wr 5 _ _ (byte_of x k)) (by simp; omega) (by simp; omega) ?_; intro v2 w2 hown2 hg2 hat2)
      have hk2 : Kept [] w' w2 := (hkept.alloc _).grown hg2 fun j hj => .inr (own_ge hown j hj)
      go_roundw
      case rel => exact ⟨k + 1, by omega, by go_num, by rw [lay_succ, ← List.append_assoc, u8s_append]; exact hown2, hk2⟩
      case measure => simp [intOf]; omega
    · go_wp2
      go_ret
      obtain rfl : k = 8 := by omega
      exact ⟨_, rfl, hown, hkept⟩
end Go.Proofs.Ytebcmcmboomgfaa

/-
  OWN WORK. octet.Join and the document's Join.
-/
namespace Go.Proofs.Ytebcmcmboomgfaa
open Go.RowKit
set_option linter.unusedVariables false

set_option maxHeartbeats 800000 in
theorem join_any (v : Value) (ls : List (List UInt8)) (w : World) (hv : Bss w v ls) (ht : (flat ls).length ≤ 140737488355328) :
    Calls Try.prog 28 #[v] w fun e w' => ∃ v', e = .returned v' ∧ w'.ownsRow w.heap.size 5 1 v' (flat ls).length (u8s (flat ls)) ∧ Kept [] w w' := by
  have hmk := fun u => run_make_bs (P := Try.prog) u 22 5 Try.underlying22 (by kernel_rfl) 0 (flat ls).length (by omega) (by omega)
  have hown0 := own_made w 5 w.heap.size 0 (flat ls).length (Nat.le_refl _) (by omega) (by unfold maxLen; omega)
  rw [show ((0 : Nat) : Int) = 0 from rfl] at hmk
  by_cases h0 : ls.length = 0
  · obtain rfl : ls = [] := List.eq_nil_of_length_eq_zero h0
    obtain ⟨p, c, rfl, -⟩ := hv
    simp only [flat_nil, List.length_nil] at hmk hown0
    rw [show ((0 : Nat) : Int) = 0 from rfl] at hmk
    go_enter Try.func28, Try.ntmps28
    go_wp2
    refine wp_loop_rounds 1 ?_
    rw [rounds_succ]
    go_wp2
    refine wp_loop_rounds 1 ?_
    rw [rounds_succ]
    go_wp2
    go_ret
    exact ⟨_, rfl, by simpa [u8s, flat_nil] using hown0, (Kept.refl [] w).alloc _⟩
  · obtain ⟨b, o, c, rfl, h1, h2, hb, hcell⟩ := id (hv.pos (by omega))
    have hlen : ls.length ≤ 9223372036854775807 := by unfold maxLen at h2; omega
    go_enter Try.func28, Try.ntmps28
    go_wp2
    go_loop [3, 11] (fun s i => ∃ k : Nat, k ≤ ls.length ∧ i = .int .i64 k ∧ s = .int .i64 ((flat (ls.take k)).length : Int)) (fun _ i => ls.length - (intOf i).toNat)
    case atStart => exact ⟨0, Nat.zero_le _, rfl, rfl⟩
    case round =>
      obtain ⟨k, hk, rfl, rfl⟩ := hrel
      by_cases hlt : k < ls.length
      · obtain ⟨l, hl⟩ : ∃ l, ls[k]? = some l := ⟨_, List.getElem?_eq_getElem hlt⟩
        obtain ⟨q, d, hc, hB⟩ := hcell k l hl
        have hf1 := flat_le ls (k + 1)
        rw [flat_take ls k l hl, List.length_append] at hf1
        have HL : Hid (ls[k]? = some l) := hl
        clear hl
        go_wp2
        go_round
        case rel => exact ⟨k + 1, by omega, by go_num, by rw [flat_take ls k l HL.out, List.length_append]; go_num⟩
        case measure => simp [intOf]; omega
      · have e : ls.take k = ls := List.take_of_length_le (by omega)
        rw [e]
        clear e
        go_wp2
        go_loopw [6, 24] (fun s i wr => ∃ k : Nat, k ≤ ls.length ∧ i = .int .i64 k ∧ wr.ownsRow w.heap.size 5 1 s (flat (ls.take k)).length (u8s (flat (ls.take k))) ∧ Kept [] w wr) (fun _ i _ => ls.length - (intOf i).toNat)
        case atStart => exact ⟨0, Nat.zero_le _, rfl, by simpa [u8s, flat] using hown0, (Kept.refl [] w).alloc _⟩
        case round =>
          obtain ⟨j, hj, rfl, hown, hkept⟩ := hrel
          have hsz := hkept.size
          by_cases hjt : j < ls.length
          · obtain ⟨l, hl⟩ : ∃ l, ls[j]? = some l := ⟨_, List.getElem?_eq_getElem hjt⟩
            obtain ⟨q, d, hc, hB⟩ := hcell j l hl
            have hc' := hkept.cell hc (by simp)
            have hB' := hB.kept hkept
            have hf1 := flat_le ls (j + 1)
            have hf2 := flat_take ls j l hl
            rw [hf2, List.length_append] at hf1
            have HL : Hid (flat (ls.take (j + 1)) = flat (ls.take j) ++ l) := hf2
            clear hl hf2 hc hB hmk hown0
            go_wp2_with (at_builtin; refine wpList_append_bs rfl (.tmp 28) (.tmp 29) 22 rfl w.heap.size 5 Try.underlying22 (by kernel_rfl) _ _ _ (by rfl) hown _ l (by rfl) hB' (by omega) hsz ?_; intro v2 w2 hown2 hg2 hat2)
            have hk2 : Kept [] w w2 := hkept.grown hg2 fun m hm => .inr (own_ge hown m hm)
            go_roundw
            case rel => exact ⟨j + 1, by omega, by go_num, by rw [HL.out, List.length_append, u8s_append]; exact hown2, hk2⟩
            case measure => simp [intOf]; omega
          · have e : ls.take j = ls := List.take_of_length_le (by omega)
            rw [e] at hown
            clear e
            go_wp2
            go_ret
            exact ⟨_, rfl, hown, hkept⟩

end Go.Proofs.Ytebcmcmboomgfaa

/-
  OWN WORK. record: one, two, eight; Join, for rows that are made.
-/
namespace Go.Proofs.Ytebcmcmboomgfaa
open Go.RowKit
set_option linter.unusedVariables false
set_option linter.unusedSimpArgs false

theorem ofNat_mod8 (n : Nat) : UInt8.ofNat (n % 256) = UInt8.ofNat n := by
  apply UInt8.toNat_inj.1
  simp
theorem lay_putN : ∀ (n v : Nat), lay n v = putN n v
  | 0, v => rfl
  | n + 1, v => by
    rw [putN_next, ← lay_putN n v, ofNat_mod8]
    simp [lay, List.range_succ]
theorem qOne (z : Int) (w : World) (h0 : 0 ≤ z) (h1 : z < 256) : Calls Try.prog 29 #[.int .i64 z] w fun e w' => ∃ u, e = .returned u ∧ Acc w w' u (putN 1 z.toNat) := by
  obtain ⟨n, rfl⟩ : ∃ n : Nat, z = n := ⟨z.toNat, by omega⟩
  have hw : IntKind.u8.wrap (n : Int) = (n : Int) := by simp only [IntKind.wrap, IntKind.signed, IntKind.bits]; simp; omega
  have hp := fun w => put8_any (.slice none 0 0) [] n w (Bs.nil w) (by simp) h1
  go_enter Try.func29, Try.ntmps29
  go_wp2_with fail
  refine (hp _).mono ?_
  rintro e w1 ⟨u, rfl, ho, hk⟩
  go_wp2
  go_ret
  refine ⟨u, rfl, ?_, hk⟩
  rw [putN_length, Int.toNat_natCast, ← lay_putN]
  exact ho
theorem qTwo (z : Int) (w : World) (h0 : 0 ≤ z) (h1 : z < 65536) : Calls Try.prog 70 #[.int .i64 z] w fun e w' => ∃ u, e = .returned u ∧ Acc w w' u (putN 2 z.toNat) := by
  obtain ⟨n, rfl⟩ : ∃ n : Nat, z = n := ⟨z.toNat, by omega⟩
  have hw : IntKind.u16.wrap (n : Int) = (n : Int) := by simp only [IntKind.wrap, IntKind.signed, IntKind.bits]; simp; omega
  have hp := fun w => put16_any (.slice none 0 0) [] n w (Bs.nil w) (by simp) h1
  have H := @hideH _ h1
  clear h1
  go_enter Try.func70, Try.ntmps70
  go_wp2_with fail
  refine (hp _).mono ?_
  rintro e w1 ⟨u, rfl, ho, hk⟩
  go_wp2
  go_ret
  refine ⟨u, rfl, ?_, hk⟩
  rw [putN_length, Int.toNat_natCast, ← lay_putN]
  exact ho
theorem qEight (z : Int) (w : World) (h0 : 0 ≤ z) (h1 : z ≤ 1152921504606846976) : Calls Try.prog 30 #[.int .i64 z] w fun e w' => ∃ u, e = .returned u ∧ Acc w w' u (putN 8 z.toNat) := by
  obtain ⟨n, rfl⟩ : ∃ n : Nat, z = n := ⟨z.toNat, by omega⟩
  have hw : IntKind.u64.wrap (n : Int) = (n : Int) := by simp only [IntKind.wrap, IntKind.signed, IntKind.bits]; simp; omega
  have hp := fun w => put64_any (.slice none 0 0) [] n w (Bs.nil w) (by simp) (by omega)
  have H := @hideH _ h1
  clear h1
  go_enter Try.func30, Try.ntmps30
  go_wp2_with fail
  refine (hp _).mono ?_
  rintro e w1 ⟨u, rfl, ho, hk⟩
  go_wp2
  go_ret
  refine ⟨u, rfl, ?_, hk⟩
  rw [putN_length, Int.toNat_natCast, ← lay_putN]
  exact ho
theorem qJoin (v : Value) (ls : List (List UInt8)) (w : World) (hv : Bss w v ls) (ht : (flat ls).length ≤ 100000) : Calls Try.prog 28 #[v] w fun e w' => ∃ u, e = .returned u ∧ Acc w w' u (flat ls) := by
  refine (join_any v ls w hv (by omega)).mono ?_
  rintro e w' ⟨u, rfl, ho, hk⟩
  exact ⟨u, rfl, ho, hk⟩
theorem Acc.bs {w0 w : World} {u : Value} {b : List UInt8} (h : Acc w0 w u b) : Bs w u b := Bs.ofOwn h.1
theorem Acc.low {w0 w1 w : World} {u : Value} {b : List UInt8} (h : Acc w1 w u b) (k : Kept [] w0 w1) : Acc w0 w u b := ⟨own_baseK h.1 k.size, k.then h.2⟩
theorem Bss.lit4 (w : World) (e : TypeId) (a b c d : Value) (la lb lc ld : List UInt8) (ha : Bs w a la) (hb : Bs w b lb) (hc : Bs w c lc) (hd : Bs w d ld) (H : Nat) (hH : w.heap.size = H) : Bss (w.alloc (.cells #[a, b, c, d] e)) (.slice (some ⟨H, 0, none⟩) 4 4) [la, lb, lc, ld] :=
  Bss.lit w e [a, b, c, d] [la, lb, lc, ld] rfl (by simp [maxLen]) (fun i v l hv hl => by
    match i, hv, hl with
    | 0, hv, hl => simp at hv hl; subst hv hl; exact ha
    | 1, hv, hl => simp at hv hl; subst hv hl; exact hb
    | 2, hv, hl => simp at hv hl; subst hv hl; exact hc
    | 3, hv, hl => simp at hv hl; subst hv hl; exact hd
    | i + 4, hv, hl => simp at hv) H hH
theorem Bss.lit6 (w : World) (e : TypeId) (a b c d x y : Value) (la lb lc ld lx ly : List UInt8) (ha : Bs w a la) (hb : Bs w b lb) (hc : Bs w c lc) (hd : Bs w d ld) (hx : Bs w x lx) (hy : Bs w y ly) (H : Nat) (hH : w.heap.size = H) : Bss (w.alloc (.cells #[a, b, c, d, x, y] e)) (.slice (some ⟨H, 0, none⟩) 6 6) [la, lb, lc, ld, lx, ly] :=
  Bss.lit w e [a, b, c, d, x, y] [la, lb, lc, ld, lx, ly] rfl (by simp [maxLen]) (fun i v l hv hl => by
    match i, hv, hl with
    | 0, hv, hl => simp at hv hl; subst hv hl; exact ha
    | 1, hv, hl => simp at hv hl; subst hv hl; exact hb
    | 2, hv, hl => simp at hv hl; subst hv hl; exact hc
    | 3, hv, hl => simp at hv hl; subst hv hl; exact hd
    | 4, hv, hl => simp at hv hl; subst hv hl; exact hx
    | 5, hv, hl => simp at hv hl; subst hv hl; exact hy
    | i + 6, hv, hl => simp at hv) H hH
end Go.Proofs.Ytebcmcmboomgfaa

/-
  OWN WORK. record: rangeBytes.
-/
namespace Go.Proofs.Ytebcmcmboomgfaa
open Go.RowKit
set_option linter.unusedVariables false
set_option linter.unusedSimpArgs false

theorem flat3 (a b c : List UInt8) : flat [a, b, c] = a ++ (b ++ c) := by simp [flat]
theorem flat2 (a b : List UInt8) : flat [a, b] = a ++ b := by simp [flat]
theorem flat4 (a b c d : List UInt8) : flat [a, b, c, d] = a ++ (b ++ (c ++ d)) := by simp [flat]
theorem flat6 (a b c d x y : List UInt8) : flat [a, b, c, d, x, y] = a ++ (b ++ (c ++ (d ++ (x ++ y)))) := by simp [flat]
def rangeB (r : Rcd) : List UInt8 := putN 1 r.page.toNat ++ (putN 2 r.frm.toNat ++ putN 2 r.after.length)
theorem rangeB_length (r : Rcd) : (rangeB r).length = 5 := by simp [rangeB, putN_length]
set_option maxRecDepth 20000 in
set_option maxHeartbeats 3200000 in
theorem qRangeB (V : RV) (r : Rcd) (w : World) (h : SeeR w V r) (hr : rangedOk r) : Calls Try.prog 51 #[r.agg V] w fun e w' => ∃ u, e = .returned u ∧ Acc w w' u (rangeB r) := by
  obtain ⟨pb, cb, pa, ca, pr, cr, pd, cd, rfl⟩ := h.shapes
  have h1 := fun w => qOne r.page w hr.1.1 (by have := hr.1.2; omega)
  have h2 := fun w => qTwo r.frm w (by have := hr.2.2.1; omega) (by have := hr.2.2.2; omega)
  have h3 := fun w => qTwo (r.after.length : Int) w (by omega) (by have := hr.2.1.2; omega)
  rw [Int.toNat_natCast] at h3
  unfold rangeB
  unfold Rcd.agg
  dsimp only
  generalize r.after.length = na at *
  generalize r.page = page at *
  generalize r.frm = frm at *
  generalize r.before.length = nb at *
  generalize r.rows.length = nr at *
  generalize r.dirty.length = nd at *
  clear h hr
  obtain ⟨wa, hwa⟩ : ∃ wa, wa = w.alloc (.cells #[.int .i64 r.kind, .int .i64 r.birth, .int .i64 r.prev, .int .i64 r.id, .int .i64 page, .int .i64 frm, .slice pb nb cb, .slice pa na ca, .int .i64 r.next, .slice pr nr cr, .slice pd nd cd] 26) := ⟨_, rfl⟩
  have ba : Blk wa w.heap.size 26 [.int .i64 r.kind, .int .i64 r.birth, .int .i64 r.prev, .int .i64 r.id, .int .i64 page, .int .i64 frm, .slice pb nb cb, .slice pa na ca, .int .i64 r.next, .slice pr nr cr, .slice pd nd cd] := by rw [hwa]; exact Blk.new w _ _
  have KA := @hideH _ (show Kept [] w wa by rw [hwa]; exact (Kept.refl [] w).alloc _)
  have c4 := ba.cell (j := 4) rfl
  have c5 := ba.cell (j := 5) rfl
  have c7 := ba.cell (j := 7) rfl
  have tk : True := trivial
  have kx : Kept [] wa wa.drew := (Kept.refl [] wa).drew
  clear ba
  go_enter Try.func51, Try.ntmps51
  go_upto_region 1 with fail
  rw [← hwa]
  clear hwa
  go_region_held3 (fun w' => w'.cell? ⟨w.heap.size, 4, none⟩ = some (.int .i64 page) ∧ w'.cell? ⟨w.heap.size, 5, none⟩ = some (.int .i64 frm) ∧ w'.cell? ⟨w.heap.size, 7, none⟩ = some (.slice pa na ca))
    (first | (with_reducible exact ⟨kx.cell c4 (by simp), kx.cell c5 (by simp), kx.cell c7 (by simp)⟩) | (with_reducible exact ⟨(kx.alloc _).cell c4 (by simp), (kx.alloc _).cell c5 (by simp), (kx.alloc _).cell c7 (by simp)⟩) | fail)
    (first
      | (go_at_call 29; refine (h1 _).mono ?_; rintro e w1 ⟨u1, rfl, a1⟩; obtain ⟨p1, q1, rfl⟩ := own_shape2 a1.1; replace kx := kx.then a1.2)
      | (go_at_call 70; clear tk; refine (h2 _).mono ?_; rintro e w2 ⟨u2, rfl, a2⟩; obtain ⟨p2, q2, rfl⟩ := own_shape2 a2.1; replace kx := kx.then a2.2)
      | (go_at_call 70; refine (h3 _).mono ?_; rintro e w3 ⟨u3, rfl, a3⟩; obtain ⟨p3, q3, rfl⟩ := own_shape2 a3.1; replace kx := kx.then a3.2)
      | (go_at_call 28; refine (qJoin _ _ _ (Bss.lit3 w3 _ _ _ _ _ _ _ ((a1.then a2.2).then a3.2).bs (a2.then a3.2).bs a3.bs _ rfl) (by rw [flat3]; simp [putN_length])).mono ?_; rintro e w4 ⟨u4, rfl, a4⟩; have ky := kx; replace kx := (kx.alloc _).then a4.2)
      | fail)
  go_wp2
  go_ret
  refine ⟨u4, rfl, ?_⟩
  rw [← flat3]
  exact a4.low ((KA.out.then ky).alloc _)
end Go.Proofs.Ytebcmcmboomgfaa

/-
  OWN WORK. record's small questions: isLsn, isLsnOrNone, isId, isPage, isOwned, isBlank, isRange, partAtEnds.
-/
namespace Go.Proofs.Ytebcmcmboomgfaa
open Go.RowKit
set_option linter.unusedVariables false
set_option linter.unusedSimpArgs false

theorem pIsLsn (n : Int) (w : World) : Calls Try.prog 65 #[.int .i64 n] w fun e w' => e = .returned (.bool (bl (lsnOk n))) ∧ w' = w := by
  by_cases h1 : 1 ≤ n
  · have hq : bl (lsnOk n) = decide (n ≤ 1152921504606846976) := by unfold lsnOk; rw [bl_d]; simp [h1]
    rw [hq]
    clear hq
    go_enter Try.func65, Try.ntmps65
    go_wp2
    go_ret
    exact ⟨by simp, rfl⟩
  · have hq : bl (lsnOk n) = false := bl_f (fun h => h1 h.1)
    rw [hq]
    clear hq
    go_enter Try.func65, Try.ntmps65
    go_wp2
    go_ret
    exact ⟨by simp, rfl⟩
def idOk (n : Int) : Prop := 1 ≤ n ∧ n ≤ 64
def pageOk (n : Int) : Prop := 0 ≤ n ∧ n < 16
theorem pIsId (n : Int) (w : World) : Calls Try.prog 42 #[.int .i64 n] w fun e w' => e = .returned (.bool (bl (idOk n))) ∧ w' = w := by
  by_cases h1 : 1 ≤ n
  · have hq : bl (idOk n) = decide (n ≤ 64) := by unfold idOk; rw [bl_d]; simp [h1]
    rw [hq]
    clear hq
    go_enter Try.func42, Try.ntmps42
    go_wp2
    go_ret
    exact ⟨by simp, rfl⟩
  · have hq : bl (idOk n) = false := bl_f (fun h => h1 h.1)
    rw [hq]
    clear hq
    go_enter Try.func42, Try.ntmps42
    go_wp2
    go_ret
    exact ⟨by simp, rfl⟩
theorem pIsPage (n : Int) (w : World) : Calls Try.prog 66 #[.int .i64 n] w fun e w' => e = .returned (.bool (bl (pageOk n))) ∧ w' = w := by
  by_cases h1 : 0 ≤ n
  · have hq : bl (pageOk n) = decide (n < 16) := by unfold pageOk; rw [bl_d]; simp [h1]
    rw [hq]
    clear hq
    go_enter Try.func66, Try.ntmps66
    go_wp2
    go_ret
    exact ⟨by simp, rfl⟩
  · have hq : bl (pageOk n) = false := bl_f (fun h => h1 h.1)
    rw [hq]
    clear hq
    go_enter Try.func66, Try.ntmps66
    go_wp2
    go_ret
    exact ⟨by simp, rfl⟩
theorem pIsNext (n : Int) (w : World) : Calls Try.prog 46 #[.int .i64 n] w fun e w' => e = .returned (.bool (bl (nextOk n))) ∧ w' = w := by
  by_cases h1 : n = 0
  · subst h1
    have hq : bl (nextOk 0) = true := bl_t (by unfold nextOk; omega)
    rw [hq]
    clear hq
    go_enter Try.func46, Try.ntmps46
    go_wp2
    go_ret
    exact ⟨by simp, rfl⟩
  · have hq : bl (nextOk n) = bl (lsnOk n) := congrArg bl (propext (by unfold nextOk lsnOk; omega))
    have h1b : (n == 0) = false := by simp [h1]
    rw [hq]
    clear hq
    go_enter Try.func46, Try.ntmps46
    go_wp2_with fail
    refine (pIsLsn n _).mono ?_
    rintro e w1 ⟨rfl, rfl⟩
    go_wp2
    go_ret
    exact ⟨by simp [h1], rfl⟩
def ownedOk (r : Rcd) : Prop := lsnOk r.birth ∧ lsnOk r.prev
theorem pOwned (V : RV) (r : Rcd) (w : World) : Calls Try.prog 43 #[r.agg V] w fun e w' => e = .returned (.bool (bl (ownedOk r))) ∧ Kept [] w w' := by
  have h1 := fun w => pIsLsn r.birth w
  have h2 := fun w => pIsLsn r.prev w
  by_cases c1 : lsnOk r.birth
  · rw [bl_t c1] at h1
    have hq : bl (ownedOk r) = bl (lsnOk r.prev) := congrArg bl (propext (by unfold ownedOk; simp [c1]))
    rw [hq]
    clear hq c1
    unfold Rcd.agg
    go_enter Try.func43, Try.ntmps43
    go_wp2_with fail
    refine (h1 _).mono ?_
    rintro e w1 ⟨rfl, rfl⟩
    go_wp2_with fail
    refine (h2 _).mono ?_
    rintro e w1 ⟨rfl, rfl⟩
    go_wp2
    go_ret
    exact ⟨by simp, (Kept.refl [] w).alloc _⟩
  · rw [bl_f c1] at h1
    have hq : bl (ownedOk r) = false := bl_f fun h => c1 h.1
    rw [hq]
    clear hq c1
    unfold Rcd.agg
    go_enter Try.func43, Try.ntmps43
    go_wp2_with fail
    refine (h1 _).mono ?_
    rintro e w1 ⟨rfl, rfl⟩
    go_wp2
    go_ret
    exact ⟨by simp, (Kept.refl [] w).alloc _⟩
end Go.Proofs.Ytebcmcmboomgfaa

/-
  OWN WORK (by mkpr.py). record: partAtEnds, isRow.
-/
namespace Go.Proofs.Ytebcmcmboomgfaa
open Go.RowKit
set_option linter.unusedVariables false
set_option linter.unusedSimpArgs false

theorem byteNe {x y : UInt8} (h : x ≠ y) : ((x.toNat : Int) != (y.toNat : Int)) = true := by
  simp only [bne_iff_ne, ne_eq, Int.natCast_inj]
  exact fun e => h (UInt8.toNat_inj.1 e)
def partsL (before after : List UInt8) : Prop := before.length = after.length ∧ before[0]? ≠ after[0]? ∧ before[after.length - 1]? ≠ after[after.length - 1]?
set_option maxRecDepth 20000 in
set_option maxHeartbeats 6400000 in
theorem pParts (vb va : Value) (before after : List UInt8) (w : World) (hb : Bs w vb before) (ha : Bs w va after) (hn : 0 < after.length) : Calls Try.prog 45 #[vb, va] w fun e w' => e = .returned (.bool (bl (partsL before after))) ∧ Kept [] w w' := by
  haveI HNE : ∀ w2, Nonempty (Calm w2) := calmNe
  have hmx := @hideH _ (show after.length ≤ maxLen from (by obtain ⟨_, _, e, h1, h2, _⟩ := ha; exact Nat.le_trans h1 h2))
  obtain ⟨ba, oa, ca, rfl, -, -, -, hac⟩ := ha.pos hn
  obtain ⟨Q, hQ⟩ : ∃ Q, Q = bl (partsL before after) := ⟨_, rfl⟩
  rw [← hQ]
  have HQ := @hideH _ hQ
  clear hQ
  obtain ⟨na, hna⟩ : ∃ na, na = after.length := ⟨_, rfl⟩
  rw [← hna] at hn ⊢
  have HNA := @hideH _ hna
  clear hna
  have wna : IntKind.i64.wrap ((na : Int) - 1) = ((na - 1 : Nat) : Int) := by rw [show (na : Int) - 1 = ((na - 1 : Nat) : Int) by omega]; exact wrap_i64_of (by omega) (by have := hmx.out; have e := HNA.out; unfold maxLen at this; omega)
  have nz : (0 : Int) < (na : Int) := by omega
  have nl : ((na - 1 : Nat) : Int) < (na : Int) := by omega
  have nl0 : (0 : Int) ≤ ((na - 1 : Nat) : Int) := by omega
  by_cases hlen : before.length = na
  rotate_left
  · have eQ := @hideH _ (show Q = false by rw [HQ.out]; exact bl_f fun h => hlen (by rw [HNA.out]; exact h.1))
    obtain ⟨pb, cb, rfl, -⟩ := hb
    obtain ⟨nb, hnb⟩ : ∃ nb, nb = before.length := ⟨_, rfl⟩
    rw [← hnb] at hlen ⊢
    have hd : ((nb : Int) == (na : Int)) = false := by simp; omega
    clear hnb hlen hac HQ HNA ha
    go_enter Try.func45, Try.ntmps45
    go_upto_region 2 with fail
    have KR := @hideH _ (Kept.refl [] w)
    refine wp_region_calm KR.out (by kernel_rfl) (by kernel_rfl) ?_
    repeat (go_big_quiet_step (fail))
    refine wpQuiet_nil ?_
    intro _ hw'
    obtain ⟨sq, hw''⟩ := hw'
    subst hw''
    have ks := sq.kept
    generalize sq.at = wx at ks ⊢
    clear sq
    have RK := @hideH _ ks
    clear ks
    go_wp2
    go_ret
    exact ⟨by rw [eQ.out]; rfl, RK.out⟩
  obtain ⟨x0, hx0⟩ : ∃ x, before[0]? = some x := ⟨_, List.getElem?_eq_getElem (by omega)⟩
  obtain ⟨y0, hy0⟩ : ∃ x, after[0]? = some x := ⟨_, List.getElem?_eq_getElem (by have := HNA.out; omega)⟩
  obtain ⟨x1, hx1⟩ : ∃ x, before[na - 1]? = some x := ⟨_, List.getElem?_eq_getElem (by omega)⟩
  obtain ⟨y1, hy1⟩ : ∃ x, after[na - 1]? = some x := ⟨_, List.getElem?_eq_getElem (by have := HNA.out; omega)⟩
  have HXY := @hideH _ (And.intro hx0 (And.intro hy0 (And.intro hx1 hy1)))
  obtain ⟨bb, ob, cb, rfl, -, -, -, hbc⟩ := hb.pos (by omega)
  have HL := @hideH _ hlen
  rw [hlen]
  have v0 : w.cell? ⟨bb, ob, none⟩ = some (.int .u8 (x0.toNat : Int)) := hbc 0 x0 hx0
  have v1 : w.cell? ⟨ba, oa, none⟩ = some (.int .u8 (y0.toNat : Int)) := hac 0 y0 hy0
  have v2 := hbc (na - 1) x1 hx1
  have v3 := hac (na - 1) y1 hy1
  clear hx0 hy0 hx1 hy1 hbc hac hlen hb ha
  by_cases hz0 : x0 = y0
  · have eQ := @hideH _ (show Q = false by rw [HQ.out]; exact bl_f fun h => h.2.1 (by rw [HXY.out.1, HXY.out.2.1, hz0]))
    have hbz : ((x0.toNat : Int) != (y0.toNat : Int)) = false := by simp [hz0]
    clear hz0
    go_enter Try.func45, Try.ntmps45
    go_upto_region 2 with fail
    have s_v0 := fun (s : Calm w) => s.kept.cell v0 (by simp)
    have s_v1 := fun (s : Calm w) => s.kept.cell v1 (by simp)
    have KR := @hideH _ (Kept.refl [] w)
    clear v0 v1 v2 v3
    refine wp_region_calm KR.out (by kernel_rfl) (by kernel_rfl) ?_
    repeat (go_big_quiet_step (fail))
    refine wpQuiet_nil ?_
    intro _ hw'
    obtain ⟨sq, hw''⟩ := hw'
    subst hw''
    have ks := sq.kept
    generalize sq.at = wx at ks ⊢
    clear sq
    have RK := @hideH _ ks
    clear ks s_v0 s_v1
    go_wp2
    go_ret
    exact ⟨by rw [eQ.out]; rfl, RK.out⟩
  have hbz := byteNe hz0
  by_cases hz1 : x1 = y1
  · have eQ := @hideH _ (show Q = false by rw [HQ.out]; exact bl_f fun h => h.2.2 (by rw [← HNA.out, HXY.out.2.2.1, HXY.out.2.2.2, hz1]))
    have hb1 : ((x1.toNat : Int) != (y1.toNat : Int)) = false := by simp [hz1]
    clear hz0 hz1
    go_enter Try.func45, Try.ntmps45
    go_upto_region 2 with fail
    have s_v0 := fun (s : Calm w) => s.kept.cell v0 (by simp)
    have s_v1 := fun (s : Calm w) => s.kept.cell v1 (by simp)
    have s_v2 := fun (s : Calm w) => s.kept.cell v2 (by simp)
    have s_v3 := fun (s : Calm w) => s.kept.cell v3 (by simp)
    have KR := @hideH _ (Kept.refl [] w)
    clear v0 v1 v2 v3
    refine wp_region_calm KR.out (by kernel_rfl) (by kernel_rfl) ?_
    repeat (go_big_quiet_step (fail))
    refine wpQuiet_nil ?_
    intro _ hw'
    obtain ⟨sq, hw''⟩ := hw'
    subst hw''
    have ks := sq.kept
    generalize sq.at = wx at ks ⊢
    clear sq
    have RK := @hideH _ ks
    clear ks s_v0 s_v1 s_v2 s_v3
    go_wp2
    go_ret
    exact ⟨by rw [eQ.out]; rfl, RK.out⟩
  have hb1 := byteNe hz1
  have eQ := @hideH _ (show Q = true by rw [HQ.out]; exact bl_t ⟨by rw [HL.out, HNA.out], by rw [HXY.out.1, HXY.out.2.1]; simpa using hz0, by rw [← HNA.out, HXY.out.2.2.1, HXY.out.2.2.2]; simpa using hz1⟩)
  clear hz0 hz1
  go_enter Try.func45, Try.ntmps45
  go_upto_region 2 with fail
  have s_v0 := fun (s : Calm w) => s.kept.cell v0 (by simp)
  have s_v1 := fun (s : Calm w) => s.kept.cell v1 (by simp)
  have s_v2 := fun (s : Calm w) => s.kept.cell v2 (by simp)
  have s_v3 := fun (s : Calm w) => s.kept.cell v3 (by simp)
  have KR := @hideH _ (Kept.refl [] w)
  clear v0 v1 v2 v3
  refine wp_region_calm KR.out (by kernel_rfl) (by kernel_rfl) ?_
  repeat (go_big_quiet_step (fail))
  refine wpQuiet_nil ?_
  intro _ hw'
  obtain ⟨sq, hw''⟩ := hw'
  subst hw''
  have ks := sq.kept
  generalize sq.at = wx at ks ⊢
  clear sq
  have RK := @hideH _ ks
  clear ks s_v0 s_v1 s_v2 s_v3
  go_wp2
  go_ret
  exact ⟨by rw [eQ.out]; rfl, RK.out⟩
set_option maxHeartbeats 1600000 in
theorem qRow (x : RowR) (w : World) : Calls Try.prog 67 #[.agg #[.int .i64 x.birth, .int .i64 x.id, .int .i64 x.state, .int .i64 x.last, .int .i64 x.next]] w fun e w' => e = .returned (.bool (bl (rowOk x))) ∧ Kept [] w w' := by
  obtain ⟨birth, id, state, last, next⟩ := x
  dsimp only
  have hl1 := fun w => pIsLsn birth w
  have hl4 := fun w => pIsId id w
  have hl2 := fun w => pIsLsn last w
  have hl3 := fun w => pIsNext next w
  have F : ∀ {P : Prop}, (rowOk ⟨birth, id, state, last, next⟩ → P) → ¬ P → bl (rowOk ⟨birth, id, state, last, next⟩) = false := fun h1 h2 => bl_f fun h => h2 (h1 h)
  by_cases h1 : lsnOk birth
  · rw [bl_t h1] at hl1
    by_cases h2 : idOk id
    · rw [bl_t h2] at hl4
      by_cases h4 : state = 1
      · subst h4
        by_cases h5 : lsnOk last
        · rw [bl_t h5] at hl2
          by_cases h6 : nextOk next
          · rw [bl_t h6] at hl3
            rw [bl_t (show rowOk ⟨birth, id, 1, last, next⟩ from ⟨h1, h2, .inl rfl, h5, h6⟩)]
            clear F h1 h2 h5 h6
            go_enter Try.func67, Try.ntmps67
            go_wp2_with fail
            refine (hl1 _).mono ?_
            rintro e w1 ⟨rfl, rfl⟩
            go_wp2_with fail
            refine (hl4 _).mono ?_
            rintro e w2 ⟨rfl, rfl⟩
            go_wp2_with fail
            refine (hl2 _).mono ?_
            rintro e w3 ⟨rfl, rfl⟩
            go_wp2_with fail
            refine (hl3 _).mono ?_
            rintro e w4 ⟨rfl, rfl⟩
            go_wp2
            go_ret
            exact ⟨by simp, (Kept.refl [] _).alloc _⟩
          · rw [F (fun h => h.2.2.2.2) h6]
            rw [bl_f h6] at hl3
            clear F h1 h2 h5 h6
            go_enter Try.func67, Try.ntmps67
            go_wp2_with fail
            refine (hl1 _).mono ?_
            rintro e w1 ⟨rfl, rfl⟩
            go_wp2_with fail
            refine (hl4 _).mono ?_
            rintro e w2 ⟨rfl, rfl⟩
            go_wp2_with fail
            refine (hl2 _).mono ?_
            rintro e w3 ⟨rfl, rfl⟩
            go_wp2_with fail
            refine (hl3 _).mono ?_
            rintro e w4 ⟨rfl, rfl⟩
            go_wp2
            go_ret
            exact ⟨by simp, (Kept.refl [] _).alloc _⟩
        · rw [F (fun h => h.2.2.2.1) h5]
          rw [bl_f h5] at hl2
          clear F h1 h2 h5
          go_enter Try.func67, Try.ntmps67
          go_wp2_with fail
          refine (hl1 _).mono ?_
          rintro e w1 ⟨rfl, rfl⟩
          go_wp2_with fail
          refine (hl4 _).mono ?_
          rintro e w2 ⟨rfl, rfl⟩
          go_wp2_with fail
          refine (hl2 _).mono ?_
          rintro e w3 ⟨rfl, rfl⟩
          go_wp2
          go_ret
          exact ⟨by simp, (Kept.refl [] _).alloc _⟩
      · by_cases h4' : state = 2
        · subst h4'
          by_cases h5 : lsnOk last
          · rw [bl_t h5] at hl2
            by_cases h6 : nextOk next
            · rw [bl_t h6] at hl3
              rw [bl_t (show rowOk ⟨birth, id, 2, last, next⟩ from ⟨h1, h2, .inr rfl, h5, h6⟩)]
              clear F h1 h2 h5 h6
              go_enter Try.func67, Try.ntmps67
              go_wp2_with fail
              refine (hl1 _).mono ?_
              rintro e w1 ⟨rfl, rfl⟩
              go_wp2_with fail
              refine (hl4 _).mono ?_
              rintro e w2 ⟨rfl, rfl⟩
              go_wp2_with fail
              refine (hl2 _).mono ?_
              rintro e w3 ⟨rfl, rfl⟩
              go_wp2_with fail
              refine (hl3 _).mono ?_
              rintro e w4 ⟨rfl, rfl⟩
              go_wp2
              go_ret
              exact ⟨by simp, (Kept.refl [] _).alloc _⟩
            · rw [F (fun h => h.2.2.2.2) h6]
              rw [bl_f h6] at hl3
              clear F h1 h2 h5 h6
              go_enter Try.func67, Try.ntmps67
              go_wp2_with fail
              refine (hl1 _).mono ?_
              rintro e w1 ⟨rfl, rfl⟩
              go_wp2_with fail
              refine (hl4 _).mono ?_
              rintro e w2 ⟨rfl, rfl⟩
              go_wp2_with fail
              refine (hl2 _).mono ?_
              rintro e w3 ⟨rfl, rfl⟩
              go_wp2_with fail
              refine (hl3 _).mono ?_
              rintro e w4 ⟨rfl, rfl⟩
              go_wp2
              go_ret
              exact ⟨by simp, (Kept.refl [] _).alloc _⟩
          · rw [F (fun h => h.2.2.2.1) h5]
            rw [bl_f h5] at hl2
            clear F h1 h2 h5
            go_enter Try.func67, Try.ntmps67
            go_wp2_with fail
            refine (hl1 _).mono ?_
            rintro e w1 ⟨rfl, rfl⟩
            go_wp2_with fail
            refine (hl4 _).mono ?_
            rintro e w2 ⟨rfl, rfl⟩
            go_wp2_with fail
            refine (hl2 _).mono ?_
            rintro e w3 ⟨rfl, rfl⟩
            go_wp2
            go_ret
            exact ⟨by simp, (Kept.refl [] _).alloc _⟩
        · rw [F (fun h => h.2.2.1) (fun h => by rcases h with h | h; exact h4 h; exact h4' h)]
          have e1 : (state == 1) = false := by simp [h4]
          have e2 : (state == 2) = false := by simp [h4']
          clear F h1 h2
          go_enter Try.func67, Try.ntmps67
          go_wp2_with fail
          refine (hl1 _).mono ?_
          rintro e w1 ⟨rfl, rfl⟩
          go_wp2_with fail
          refine (hl4 _).mono ?_
          rintro e w2 ⟨rfl, rfl⟩
          go_wp2
          go_ret
          exact ⟨by simp, (Kept.refl [] _).alloc _⟩
    · rw [F (fun h => h.2.1) h2]
      rw [bl_f h2] at hl4
      clear F h1 h2
      go_enter Try.func67, Try.ntmps67
      go_wp2_with fail
      refine (hl1 _).mono ?_
      rintro e w1 ⟨rfl, rfl⟩
      go_wp2_with fail
      refine (hl4 _).mono ?_
      rintro e w2 ⟨rfl, rfl⟩
      go_wp2
      go_ret
      exact ⟨by simp, (Kept.refl [] _).alloc _⟩
  · rw [F (fun h => h.1) h1]
    rw [bl_f h1] at hl1
    clear F h1
    go_enter Try.func67, Try.ntmps67
    go_wp2_with fail
    refine (hl1 _).mono ?_
    rintro e w1 ⟨rfl, rfl⟩
    go_wp2
    go_ret
    exact ⟨by simp, (Kept.refl [] _).alloc _⟩
end Go.Proofs.Ytebcmcmboomgfaa

/-
  OWN WORK (by mkpr2.py). record: isTable, isDirty.
-/
namespace Go.Proofs.Ytebcmcmboomgfaa
open Go.RowKit
set_option linter.unusedVariables false
set_option linter.unusedSimpArgs false

def tableOk (l : List RowR) : Prop := l.length ≤ 8 ∧ (∀ x ∈ l, rowOk x) ∧ ∀ (i : Nat) x y, l[i]? = some x → l[i + 1]? = some y → x.birth < y.birth
def dirtyOk (l : List RecR) : Prop := l.length ≤ 16 ∧ (∀ x ∈ l, recOk x) ∧ ∀ (i : Nat) x y, l[i]? = some x → l[i + 1]? = some y → x.page < y.page
theorem listsOk_iff (r : Rcd) : listsOk r ↔ tableOk r.rows ∧ dirtyOk r.dirty := by
  unfold listsOk tableOk dirtyOk
  exact ⟨fun ⟨⟨a, b⟩, c, d⟩ => ⟨⟨a, c⟩, b, d⟩, fun ⟨⟨a, c⟩, b, d⟩ => ⟨⟨a, b⟩, c, d⟩⟩
def lastB (l : List RowR) : Nat → Int
  | 0 => 0
  | k + 1 => match l[k]? with
    | some x => x.birth
    | none => 0
def lastP (l : List RecR) : Nat → Int
  | 0 => -1
  | k + 1 => match l[k]? with
    | some x => x.page
    | none => -1
theorem lastB_next {l : List RowR} {k : Nat} {x : RowR} (h : l[k]? = some x) : lastB l (k + 1) = x.birth := by simp [lastB, h]
theorem lastP_next {l : List RecR} {k : Nat} {x : RecR} (h : l[k]? = some x) : lastP l (k + 1) = x.page := by simp [lastP, h]
theorem lastB_bad {l : List RowR} {k : Nat} {x : RowR} (h : l[k]? = some x) (hl : x.birth ≤ lastB l k) : ¬ tableOk l := fun ⟨_, h2, h3⟩ => by
  cases k with
  | zero => have := (h2 x (List.mem_of_getElem? h)).1.1; simp [lastB] at hl; omega
  | succ k =>
    obtain ⟨y, hy⟩ : ∃ y, l[k]? = some y := ⟨_, List.getElem?_eq_getElem (by have := (List.getElem?_eq_some_iff.1 h).1; omega)⟩
    rw [lastB_next hy] at hl
    have := h3 k y x hy h
    omega
theorem lastP_bad {l : List RecR} {k : Nat} {x : RecR} (h : l[k]? = some x) (hl : x.page ≤ lastP l k) : ¬ dirtyOk l := fun ⟨_, h2, h3⟩ => by
  cases k with
  | zero => have := (h2 x (List.mem_of_getElem? h)).1.1; simp [lastP] at hl; omega
  | succ k =>
    obtain ⟨y, hy⟩ : ∃ y, l[k]? = some y := ⟨_, List.getElem?_eq_getElem (by have := (List.getElem?_eq_some_iff.1 h).1; omega)⟩
    rw [lastP_next hy] at hl
    have := h3 k y x hy h
    omega
theorem rowsTo_next2 {l : List RowR} {k : Nat} {x : RowR} (h : rowsTo l k) (hx : l[k]? = some x) (ho : rowOk x) (hl : ¬ x.birth ≤ lastB l k) : rowsTo l (k + 1) :=
  h.next hx ho fun j y e hy => by subst e; rw [lastB_next hy] at hl; omega
theorem recsTo_next2 {l : List RecR} {k : Nat} {x : RecR} (h : recsTo l k) (hx : l[k]? = some x) (ho : recOk x) (hl : ¬ x.page ≤ lastP l k) : recsTo l (k + 1) :=
  h.next hx ho fun j y e hy => by subst e; rw [lastP_next hy] at hl; omega

set_option maxRecDepth 20000 in
set_option maxHeartbeats 6400000 in
theorem qTable (v : Value) (l : List RowR) (w : World) (h : Cs w 5 v l.length (rcells l)) : Calls Try.prog 47 #[v] w fun e w' => e = .returned (.bool (bl (tableOk l))) ∧ Kept [] w w' := by
  obtain ⟨Q, hQ⟩ : ∃ Q, Q = bl (tableOk l) := ⟨_, rfl⟩
  rw [← hQ]
  have HF := @hideH _ (show ¬ tableOk l → Q = false from fun h => by rw [hQ]; exact bl_f h)
  have HT := @hideH _ (show l.length ≤ 8 → rowsTo l l.length → Q = true from fun h1 h2 => by rw [hQ]; exact bl_t ⟨h1, h2.all⟩)
  clear hQ
  have HC := @hideH _ h
  obtain ⟨-, -, p, c, rfl, -⟩ := h
  obtain ⟨n, hn⟩ : ∃ n, n = l.length := ⟨_, rfl⟩
  rw [← hn]
  have HN := @hideH _ hn
  clear hn
  by_cases h8 : (8 : Int) < (n : Int)
  · have eQ := @hideH _ (HF.out fun h => by have := h.1; have e := HN.out; omega)
    go_enter Try.func47, Try.ntmps47
    go_wp2
    go_ret
    exact ⟨by rw [eQ.out]; rfl, Kept.refl [] _⟩
  have HS := @hideH _ (show n ≤ 8 by omega)
  go_enter Try.func47, Try.ntmps47
  go_wp2
  go_loopw [3, 5, 11] (fun vb vp vi wr => ∃ k : Nat, k ≤ n ∧ vi = .int .i64 k ∧ vb = .int .i64 (lastB l k) ∧ Hid (rowsTo l k ∧ Kept [] w wr)) (fun _ _ vi _ => n - (intOf vi).toNat)
  case atStart => exact ⟨0, Nat.zero_le _, rfl, rfl, ⟨fun i x hi => by omega, fun i x y hi => by omega⟩, Kept.refl [] _⟩
  case round =>
    obtain ⟨k, hk, rfl, rfl, hh⟩ := hrel
    by_cases hkl : k < n
    · have hkl' : (k : Int) < (n : Int) := by omega
      have hk0 : (0 : Int) ≤ (k : Int) := by omega
      have wk : IntKind.i64.wrap ((k : Int) + 1) = (k : Int) + 1 := wrap_i64_of (by omega) (by have := HS.out; omega)
      obtain ⟨x, hx⟩ : ∃ x, l[k]? = some x := ⟨_, List.getElem?_eq_getElem (by have := HN.out; omega)⟩
      obtain ⟨b, o, c', ev, hc⟩ := (HC.out.kept hh.out.2).rowAt (by have := HN.out; omega)
      simp only [Value.slice.injEq] at ev
      obtain ⟨rfl, -, rfl⟩ := ev
      obtain ⟨x0, x1, x2, x3, x4⟩ := hc k x hx
      obtain ⟨B, hB⟩ : ∃ B, B = lastB l k := ⟨_, rfl⟩
      rw [← hB]
      have HX := @hideH _ (And.intro hx hB)
      obtain ⟨wz, hwz⟩ : ∃ wz, wz = wr.alloc (.cells #[.int .i64 x.birth, .int .i64 x.id, .int .i64 x.state, .int .i64 x.last, .int .i64 x.next] 66) := ⟨_, rfl⟩
      have kz : Kept [] wr wz := by rw [hwz]; exact (Kept.refl [] wr).alloc _
      have bz : Blk wz wr.heap.size 66 [.int .i64 x.birth, .int .i64 x.id, .int .i64 x.state, .int .i64 x.last, .int .i64 x.next] := by rw [hwz]; exact Blk.new wr _ _
      have z0 := bz.cell (j := 0) rfl
      have z1 := bz.cell (j := 1) rfl
      have z2 := bz.cell (j := 2) rfl
      have z3 := bz.cell (j := 3) rfl
      have z4 := bz.cell (j := 4) rfl
      have KZ := @hideH _ (hh.out.2.then kz)
      clear hx hB hc bz kz
      by_cases hlt : x.birth ≤ B
      · have eQ := @hideH _ (HF.out (lastB_bad HX.out.1 (by rw [← HX.out.2]; exact hlt)))
        have KE := KZ
        go_upto_region 7 with fail
        rw [← hwz]
        clear hwz
        go_wp2
        go_ret
        exact ⟨by rw [eQ.out]; rfl, KE.out⟩
      have HLT := @hideH _ hlt
      have hr := fun w => qRow x w
      by_cases hok : rowOk x
      · have HOK := @hideH _ hok
        simp only [bl_t hok] at hr
        clear hok
        go_upto_region 7 with fail
        rw [← hwz]
        clear hwz
        go_wp2_with fail
        refine (hr _).mono ?_
        rintro e w2 ⟨rfl, k2⟩
        clear hr
        replace z0 := k2.cell z0 (by simp)
        replace z1 := k2.cell z1 (by simp)
        replace z2 := k2.cell z2 (by simp)
        replace z3 := k2.cell z3 (by simp)
        replace z4 := k2.cell z4 (by simp)
        have KE := @hideH _ (KZ.out.then k2)
        clear k2
        have REL := @hideH _ (rowsTo_next2 hh.out.1 HX.out.1 HOK.out (by rw [← HX.out.2]; have := HLT.out; omega))
        have EB := @hideH _ (lastB_next HX.out.1)
        clear hh
        go_wp2
        go_roundw
        case rel => exact ⟨k + 1, by omega, by go_num, by rw [EB.out], REL.out, KE.out⟩
        case measure => simp [intOf]; omega
      · have eQ := @hideH _ (HF.out fun h => hok (h.2.1 x (List.mem_of_getElem? HX.out.1)))
        simp only [bl_f hok] at hr
        clear hok
        go_upto_region 7 with fail
        rw [← hwz]
        clear hwz
        go_wp2_with fail
        refine (hr _).mono ?_
        rintro e w2 ⟨rfl, k2⟩
        clear hr
        have KE := @hideH _ (KZ.out.then k2)
        clear k2
        go_wp2
        go_ret
        exact ⟨by rw [eQ.out]; rfl, KE.out⟩
    · have hkl' : ¬ (k : Int) < (n : Int) := by omega
      obtain rfl : k = n := by omega
      have eQ := @hideH _ (HT.out (by have := HS.out; have e := HN.out; omega) (by rw [← HN.out]; exact hh.out.1))
      have KE := @hideH _ hh.out.2
      clear hh
      go_wp2
      go_ret
      exact ⟨by rw [eQ.out]; rfl, KE.out⟩
set_option maxRecDepth 20000 in
set_option maxHeartbeats 6400000 in
theorem qDirty (v : Value) (l : List RecR) (w : World) (h : Cs w 2 v l.length (dcells l)) : Calls Try.prog 48 #[v] w fun e w' => e = .returned (.bool (bl (dirtyOk l))) ∧ Kept [] w w' := by
  obtain ⟨Q, hQ⟩ : ∃ Q, Q = bl (dirtyOk l) := ⟨_, rfl⟩
  rw [← hQ]
  have HF := @hideH _ (show ¬ dirtyOk l → Q = false from fun h => by rw [hQ]; exact bl_f h)
  have HT := @hideH _ (show l.length ≤ 16 → recsTo l l.length → Q = true from fun h1 h2 => by rw [hQ]; exact bl_t ⟨h1, h2.all⟩)
  clear hQ
  have HC := @hideH _ h
  obtain ⟨-, -, p, c, rfl, -⟩ := h
  obtain ⟨n, hn⟩ : ∃ n, n = l.length := ⟨_, rfl⟩
  rw [← hn]
  have HN := @hideH _ hn
  clear hn
  by_cases h8 : (16 : Int) < (n : Int)
  · have eQ := @hideH _ (HF.out fun h => by have := h.1; have e := HN.out; omega)
    go_enter Try.func48, Try.ntmps48
    go_wp2
    go_ret
    exact ⟨by rw [eQ.out]; rfl, Kept.refl [] _⟩
  have HS := @hideH _ (show n ≤ 16 by omega)
  go_enter Try.func48, Try.ntmps48
  go_wp2
  go_loopw [3, 5, 11] (fun vb vp vi wr => ∃ k : Nat, k ≤ n ∧ vi = .int .i64 k ∧ vb = .int .i64 (lastP l k) ∧ Hid (recsTo l k ∧ Kept [] w wr)) (fun _ _ vi _ => n - (intOf vi).toNat)
  case atStart => exact ⟨0, Nat.zero_le _, rfl, rfl, ⟨fun i x hi => by omega, fun i x y hi => by omega⟩, Kept.refl [] _⟩
  case round =>
    obtain ⟨k, hk, rfl, rfl, hh⟩ := hrel
    by_cases hkl : k < n
    · have hkl' : (k : Int) < (n : Int) := by omega
      have hk0 : (0 : Int) ≤ (k : Int) := by omega
      have wk : IntKind.i64.wrap ((k : Int) + 1) = (k : Int) + 1 := wrap_i64_of (by omega) (by have := HS.out; omega)
      obtain ⟨x, hx⟩ : ∃ x, l[k]? = some x := ⟨_, List.getElem?_eq_getElem (by have := HN.out; omega)⟩
      obtain ⟨b, o, c', ev, hc⟩ := (HC.out.kept hh.out.2).recAt (by have := HN.out; omega)
      simp only [Value.slice.injEq] at ev
      obtain ⟨rfl, -, rfl⟩ := ev
      obtain ⟨x0, x1⟩ := hc k x hx
      obtain ⟨B, hB⟩ : ∃ B, B = lastP l k := ⟨_, rfl⟩
      rw [← hB]
      have HX := @hideH _ (And.intro hx hB)
      obtain ⟨wz, hwz⟩ : ∃ wz, wz = wr.alloc (.cells #[.int .i64 x.page, .int .i64 x.lsn] 68) := ⟨_, rfl⟩
      have kz : Kept [] wr wz := by rw [hwz]; exact (Kept.refl [] wr).alloc _
      have bz : Blk wz wr.heap.size 68 [.int .i64 x.page, .int .i64 x.lsn] := by rw [hwz]; exact Blk.new wr _ _
      have z0 := bz.cell (j := 0) rfl
      have z1 := bz.cell (j := 1) rfl
      have KZ := @hideH _ (hh.out.2.then kz)
      clear hx hB hc bz kz
      by_cases hlt : x.page ≤ B
      · have eQ := @hideH _ (HF.out (lastP_bad HX.out.1 (by rw [← HX.out.2]; exact hlt)))
        have KE := KZ
        go_upto_region 7 with fail
        rw [← hwz]
        clear hwz
        go_wp2
        go_ret
        exact ⟨by rw [eQ.out]; rfl, KE.out⟩
      have HLT := @hideH _ hlt
      have KE := KZ
      have hp := fun w => pIsPage x.page w
      have hl := fun w => pIsLsn x.lsn w
      by_cases hpg : pageOk x.page
      · simp only [bl_t hpg] at hp
        by_cases hls : lsnOk x.lsn
        · have HOK := @hideH _ (show recOk x from ⟨hpg, hls⟩)
          simp only [bl_t hls] at hl
          clear hpg hls
          go_upto_region 7 with fail
          rw [← hwz]
          clear hwz
          go_wp2_with fail
          refine (hp _).mono ?_
          rintro e w2 ⟨rfl, rfl⟩
          go_wp2_with fail
          refine (hl _).mono ?_
          rintro e w2 ⟨rfl, rfl⟩
          clear hp hl
          have REL := @hideH _ (recsTo_next2 hh.out.1 HX.out.1 HOK.out (by rw [← HX.out.2]; have := HLT.out; omega))
          have EB := @hideH _ (lastP_next HX.out.1)
          clear hh
          go_wp2
          go_roundw
          case rel => exact ⟨k + 1, by omega, by go_num, by rw [EB.out], REL.out, KE.out⟩
          case measure => simp [intOf]; omega
        · have eQ := @hideH _ (HF.out fun h => hls (h.2.1 x (List.mem_of_getElem? HX.out.1)).2)
          simp only [bl_f hls] at hl
          clear hpg hls
          go_upto_region 7 with fail
          rw [← hwz]
          clear hwz
          go_wp2_with fail
          refine (hp _).mono ?_
          rintro e w2 ⟨rfl, rfl⟩
          go_wp2_with fail
          refine (hl _).mono ?_
          rintro e w2 ⟨rfl, rfl⟩
          clear hp hl
          go_wp2
          go_ret
          exact ⟨by rw [eQ.out]; rfl, KE.out⟩
      · have eQ := @hideH _ (HF.out fun h => hpg (h.2.1 x (List.mem_of_getElem? HX.out.1)).1)
        simp only [bl_f hpg] at hp
        clear hpg
        go_upto_region 7 with fail
        rw [← hwz]
        clear hwz
        go_wp2_with fail
        refine (hp _).mono ?_
        rintro e w2 ⟨rfl, rfl⟩
        clear hp hl
        go_wp2
        go_ret
        exact ⟨by rw [eQ.out]; rfl, KE.out⟩
    · have hkl' : ¬ (k : Int) < (n : Int) := by omega
      obtain rfl : k = n := by omega
      have eQ := @hideH _ (HT.out (by have := HS.out; have e := HN.out; omega) (by rw [← HN.out]; exact hh.out.1))
      have KE := @hideH _ hh.out.2
      clear hh
      go_wp2
      go_ret
      exact ⟨by rw [eQ.out]; rfl, KE.out⟩
end Go.Proofs.Ytebcmcmboomgfaa

/-
  OWN WORK (by mkpr4.py). record: tableBytes, dirtyBytes.
-/
namespace Go.Proofs.Ytebcmcmboomgfaa
open Go.RowKit
set_option linter.unusedVariables false
set_option linter.unusedSimpArgs false


theorem flatB_tk {α : Type} (f : α → List UInt8) : ∀ (l : List α) (k : Nat) (x : α), l[k]? = some x → flatB f (l.take (k + 1)) = flatB f (l.take k) ++ f x
  | [], k, x, h => by simp at h
  | a :: r, 0, x, h => by simp at h; subst h; simp [flatB]
  | a :: r, k + 1, x, h => by
    have := flatB_tk f r k x (by simpa using h)
    simp only [List.take_succ_cons, flatB, List.append_assoc]
    rw [this]
theorem flatB_len {α : Type} (f : α → List UInt8) (n : Nat) : ∀ (l : List α), (∀ x ∈ l, (f x).length = n) → (flatB f l).length = n * l.length
  | [], _ => by simp [flatB]
  | a :: r, h => by
    rw [flatB, List.length_append, h a (by simp), flatB_len f n r (fun x hx => h x (by simp [hx]))]
    simp [Nat.mul_add]; omega
theorem rowB_len (x : RowR) : (rowB x).length = 26 := by simp [rowB, putN_length]
theorem recB_len (x : RecR) : (recB x).length = 9 := by simp [recB, putN_length]

set_option maxRecDepth 20000 in
set_option maxHeartbeats 6400000 in
theorem qTableB (v : Value) (l : List RowR) (w : World) (h : Cs w 5 v l.length (rcells l)) (hok : tableOk l) : Calls Try.prog 52 #[v] w fun e w' => ∃ u, e = .returned u ∧ Acc w w' u (putN 1 l.length ++ flatB rowB l) := by
  have HOK := @hideH _ hok
  have HC := @hideH _ h
  obtain ⟨-, -, p, c, rfl, -⟩ := h
  have hone := fun w => qOne (l.length : Int) w (by omega) (by have := hok.1; omega)
  rw [Int.toNat_natCast] at hone
  obtain ⟨Z, hZ⟩ : ∃ Z, Z = putN 1 l.length ++ flatB rowB l := ⟨_, rfl⟩
  rw [← hZ]
  have HZ : Hid (∀ k, k ≤ l.length → (putN 1 l.length ++ flatB rowB (l.take k)).length ≤ 500) := (by intro k hk; rw [List.length_append, putN_length, flatB_len rowB 26 _ (fun x _ => rowB_len x), List.length_take]; have := hok.1; omega)
  have HZE := @hideH _ hZ
  clear hZ hok
  obtain ⟨n, hn⟩ : ∃ n, n = l.length := ⟨_, rfl⟩
  rw [← hn] at hone ⊢
  have HN := @hideH _ hn
  clear hn
  go_enter Try.func52, Try.ntmps52
  go_wp2_with fail
  refine (hone _).mono ?_
  rintro e w0 ⟨u0, rfl, a0⟩
  clear hone
  go_wp2
  go_loopw [3, 5, 11] (fun vb vp vi wr => ∃ k : Nat, k ≤ n ∧ vi = .int .i64 k ∧ Hid (Acc w wr vb (putN 1 n ++ flatB rowB (l.take k)))) (fun _ _ vi _ => n - (intOf vi).toNat)
  case atStart => exact ⟨0, Nat.zero_le _, rfl, by simpa [flatB, Hid] using a0⟩
  case round =>
    clear a0
    obtain ⟨k, hk, rfl, hh⟩ := hrel
    by_cases hkl : k < n
    · have hkl' : (k : Int) < (n : Int) := by omega
      have hk0 : (0 : Int) ≤ (k : Int) := by omega
      have wk : IntKind.i64.wrap ((k : Int) + 1) = (k : Int) + 1 := wrap_i64_of (by omega) (by have := HOK.out.1; have e := HN.out; omega)
      obtain ⟨x, hx⟩ : ∃ x, l[k]? = some x := ⟨_, List.getElem?_eq_getElem (by have := HN.out; omega)⟩
      obtain ⟨b, o, c', ev, hc⟩ := (HC.out.kept hh.out.2).rowAt (by have := HN.out; omega)
      simp only [Value.slice.injEq] at ev
      obtain ⟨rfl, -, rfl⟩ := ev
      obtain ⟨x0, x1, x2, x3, x4⟩ := hc k x hx
      have xok := HOK.out.2.1 x (List.mem_of_getElem? hx)
      have d1 := fun w => qEight x.birth w (by have := xok.1.1; omega) xok.1.2
      have d2 := fun w => qOne x.id w (by have := xok.2.1.1; omega) (by have := xok.2.1.2; omega)
      have d3 := fun w => qOne x.state w (by rcases xok.2.2.1 with q | q <;> omega) (by rcases xok.2.2.1 with q | q <;> omega)
      have d4 := fun w => qEight x.last w (by have := xok.2.2.2.1.1; omega) xok.2.2.2.1.2
      have d5 := fun w => qEight x.next w xok.2.2.2.2.1 xok.2.2.2.2.2
      have EX := @hideH _ (flatB_tk rowB l k x hx)
      have HL := @hideH _ (HZ.out k (by have := HN.out; omega))
      rw [← HN.out] at HL
      obtain ⟨pu, cu, rfl⟩ := own_shape2 hh.out.1
      obtain ⟨A, hA⟩ : ∃ A, A = putN 1 n ++ flatB rowB (l.take k) := ⟨_, rfl⟩
      rw [← hA] at hh HL ⊢
      have HAE := @hideH _ hA
      clear hA
      generalize hna : A.length = na at hh HL ⊢
      have HNA := @hideH _ hna
      clear hna
      obtain ⟨wz, hwz⟩ : ∃ wz, wz = wr.alloc (.cells #[.int .i64 x.birth, .int .i64 x.id, .int .i64 x.state, .int .i64 x.last, .int .i64 x.next] 66) := ⟨_, rfl⟩
      have kz : Kept [] wr wz := by rw [hwz]; exact (Kept.refl [] wr).alloc _
      have bz : Blk wz wr.heap.size 66 [.int .i64 x.birth, .int .i64 x.id, .int .i64 x.state, .int .i64 x.last, .int .i64 x.next] := by rw [hwz]; exact Blk.new wr _ _
      have z0 := bz.cell (j := 0) rfl
      have z1 := bz.cell (j := 1) rfl
      have z2 := bz.cell (j := 2) rfl
      have z3 := bz.cell (j := 3) rfl
      have z4 := bz.cell (j := 4) rfl
      have HACC := @hideH _ (hh.out.then kz)
      clear hx hc bz kz hh xok
      have kx : Kept [] wz wz.drew := (Kept.refl [] wz).drew
      have t1 : True := trivial
      have t2 : True := trivial
      have t3 : True := trivial
      go_upto_region 5 with fail
      rw [← hwz]
      clear hwz
      go_region_held3 (fun w' => w'.cell? ⟨wr.heap.size, 0, none⟩ = some (.int .i64 x.birth) ∧ w'.cell? ⟨wr.heap.size, 1, none⟩ = some (.int .i64 x.id) ∧ w'.cell? ⟨wr.heap.size, 2, none⟩ = some (.int .i64 x.state) ∧ w'.cell? ⟨wr.heap.size, 3, none⟩ = some (.int .i64 x.last) ∧ w'.cell? ⟨wr.heap.size, 4, none⟩ = some (.int .i64 x.next))
        (first | (with_reducible exact ⟨kx.cell z0 (by simp), kx.cell z1 (by simp), kx.cell z2 (by simp), kx.cell z3 (by simp), kx.cell z4 (by simp)⟩) | (with_reducible exact ⟨(kx.alloc _).cell z0 (by simp), (kx.alloc _).cell z1 (by simp), (kx.alloc _).cell z2 (by simp), (kx.alloc _).cell z3 (by simp), (kx.alloc _).cell z4 (by simp)⟩) | fail)
        (first
          | (go_at_call 30; clear t1; refine (d1 _).mono ?_; rintro e w1 ⟨u1, rfl, a1⟩; obtain ⟨p1, q1, rfl⟩ := own_shape2 a1.1; replace kx := kx.then a1.2)
          | (go_at_call 29; clear t2; refine (d2 _).mono ?_; rintro e w2 ⟨u2, rfl, a2⟩; obtain ⟨p2, q2, rfl⟩ := own_shape2 a2.1; replace kx := kx.then a2.2)
          | (go_at_call 29; refine (d3 _).mono ?_; rintro e w3 ⟨u3, rfl, a3⟩; obtain ⟨p3, q3, rfl⟩ := own_shape2 a3.1; replace kx := kx.then a3.2)
          | (go_at_call 30; clear t3; refine (d4 _).mono ?_; rintro e w4 ⟨u4, rfl, a4⟩; obtain ⟨p4, q4, rfl⟩ := own_shape2 a4.1; replace kx := kx.then a4.2)
          | (go_at_call 30; refine (d5 _).mono ?_; rintro e w5 ⟨u5, rfl, a5⟩; obtain ⟨p5, q5, rfl⟩ := own_shape2 a5.1; replace kx := kx.then a5.2)
          | (go_at_call 28; refine (qJoin _ _ _ (Bss.lit6 w5 _ _ _ _ _ _ _ _ _ _ _ _ _ (HACC.out.then kx).bs ((((a1.then a2.2).then a3.2).then a4.2).then a5.2).bs (((a2.then a3.2).then a4.2).then a5.2).bs ((a3.then a4.2).then a5.2).bs (a4.then a5.2).bs a5.bs _ rfl) (by rw [flat6]; simp [putN_length]; have := HL.out; have e := HNA.out; omega)).mono ?_; rintro e wj ⟨uj, rfl, aj⟩; have ky := kx; replace kx := (kx.alloc _).then aj.2)
          | fail)
      have REL := @hideH _ (show Acc w wj uj (putN 1 n ++ flatB rowB (l.take (k + 1))) by rw [EX.out, ← List.append_assoc, ← HAE.out]; have q := aj.low ((HACC.out.2.then ky).alloc _); rw [flat6] at q; exact q)
      clear aj ky kx HACC a1 a2 a3 a4 a5 d1 d2 d3 d4 d5
      go_wp2
      go_roundw
      case rel => exact ⟨k + 1, by omega, by go_num, REL⟩
      case measure => simp [intOf]; omega
    · have hkl' : ¬ (k : Int) < (n : Int) := by omega
      obtain rfl : k = n := by omega
      have REL := @hideH _ (show Acc w wr _ Z by rw [HZE.out, ← HN.out]; have q := hh.out; rw [List.take_of_length_le (by have := HN.out; omega)] at q; exact q)
      clear hh
      go_wp2
      go_ret
      exact ⟨_, rfl, REL.out⟩
set_option maxRecDepth 20000 in
set_option maxHeartbeats 6400000 in
theorem qDirtyB (v : Value) (l : List RecR) (w : World) (h : Cs w 2 v l.length (dcells l)) (hok : dirtyOk l) : Calls Try.prog 53 #[v] w fun e w' => ∃ u, e = .returned u ∧ Acc w w' u (putN 1 l.length ++ flatB recB l) := by
  have HOK := @hideH _ hok
  have HC := @hideH _ h
  obtain ⟨-, -, p, c, rfl, -⟩ := h
  have hone := fun w => qOne (l.length : Int) w (by omega) (by have := hok.1; omega)
  rw [Int.toNat_natCast] at hone
  obtain ⟨Z, hZ⟩ : ∃ Z, Z = putN 1 l.length ++ flatB recB l := ⟨_, rfl⟩
  rw [← hZ]
  have HZ : Hid (∀ k, k ≤ l.length → (putN 1 l.length ++ flatB recB (l.take k)).length ≤ 500) := (by intro k hk; rw [List.length_append, putN_length, flatB_len recB 9 _ (fun x _ => recB_len x), List.length_take]; have := hok.1; omega)
  have HZE := @hideH _ hZ
  clear hZ hok
  obtain ⟨n, hn⟩ : ∃ n, n = l.length := ⟨_, rfl⟩
  rw [← hn] at hone ⊢
  have HN := @hideH _ hn
  clear hn
  go_enter Try.func53, Try.ntmps53
  go_wp2_with fail
  refine (hone _).mono ?_
  rintro e w0 ⟨u0, rfl, a0⟩
  clear hone
  go_wp2
  go_loopw [3, 5, 11] (fun vb vp vi wr => ∃ k : Nat, k ≤ n ∧ vi = .int .i64 k ∧ Hid (Acc w wr vb (putN 1 n ++ flatB recB (l.take k)))) (fun _ _ vi _ => n - (intOf vi).toNat)
  case atStart => exact ⟨0, Nat.zero_le _, rfl, by simpa [flatB, Hid] using a0⟩
  case round =>
    clear a0
    obtain ⟨k, hk, rfl, hh⟩ := hrel
    by_cases hkl : k < n
    · have hkl' : (k : Int) < (n : Int) := by omega
      have hk0 : (0 : Int) ≤ (k : Int) := by omega
      have wk : IntKind.i64.wrap ((k : Int) + 1) = (k : Int) + 1 := wrap_i64_of (by omega) (by have := HOK.out.1; have e := HN.out; omega)
      obtain ⟨x, hx⟩ : ∃ x, l[k]? = some x := ⟨_, List.getElem?_eq_getElem (by have := HN.out; omega)⟩
      obtain ⟨b, o, c', ev, hc⟩ := (HC.out.kept hh.out.2).recAt (by have := HN.out; omega)
      simp only [Value.slice.injEq] at ev
      obtain ⟨rfl, -, rfl⟩ := ev
      obtain ⟨x0, x1⟩ := hc k x hx
      have xok := HOK.out.2.1 x (List.mem_of_getElem? hx)
      have d1 := fun w => qOne x.page w xok.1.1 (by have := xok.1.2; omega)
      have d2 := fun w => qEight x.lsn w (by have := xok.2.1; omega) xok.2.2
      have EX := @hideH _ (flatB_tk recB l k x hx)
      have HL := @hideH _ (HZ.out k (by have := HN.out; omega))
      rw [← HN.out] at HL
      obtain ⟨pu, cu, rfl⟩ := own_shape2 hh.out.1
      obtain ⟨A, hA⟩ : ∃ A, A = putN 1 n ++ flatB recB (l.take k) := ⟨_, rfl⟩
      rw [← hA] at hh HL ⊢
      have HAE := @hideH _ hA
      clear hA
      generalize hna : A.length = na at hh HL ⊢
      have HNA := @hideH _ hna
      clear hna
      obtain ⟨wz, hwz⟩ : ∃ wz, wz = wr.alloc (.cells #[.int .i64 x.page, .int .i64 x.lsn] 68) := ⟨_, rfl⟩
      have kz : Kept [] wr wz := by rw [hwz]; exact (Kept.refl [] wr).alloc _
      have bz : Blk wz wr.heap.size 68 [.int .i64 x.page, .int .i64 x.lsn] := by rw [hwz]; exact Blk.new wr _ _
      have z0 := bz.cell (j := 0) rfl
      have z1 := bz.cell (j := 1) rfl
      have HACC := @hideH _ (hh.out.then kz)
      clear hx hc bz kz hh xok
      have kx : Kept [] wz wz.drew := (Kept.refl [] wz).drew
      have t1 : True := trivial
      have t2 : True := trivial
      have t3 : True := trivial
      go_upto_region 5 with fail
      rw [← hwz]
      clear hwz
      go_region_held3 (fun w' => w'.cell? ⟨wr.heap.size, 0, none⟩ = some (.int .i64 x.page) ∧ w'.cell? ⟨wr.heap.size, 1, none⟩ = some (.int .i64 x.lsn))
        (first | (with_reducible exact ⟨kx.cell z0 (by simp), kx.cell z1 (by simp)⟩) | (with_reducible exact ⟨(kx.alloc _).cell z0 (by simp), (kx.alloc _).cell z1 (by simp)⟩) | fail)
        (first
          | (go_at_call 29; refine (d1 _).mono ?_; rintro e w1 ⟨u1, rfl, a1⟩; obtain ⟨p1, q1, rfl⟩ := own_shape2 a1.1; replace kx := kx.then a1.2)
          | (go_at_call 30; refine (d2 _).mono ?_; rintro e w2 ⟨u2, rfl, a2⟩; obtain ⟨p2, q2, rfl⟩ := own_shape2 a2.1; replace kx := kx.then a2.2)
          | (go_at_call 28; refine (qJoin _ _ _ (Bss.lit3 w2 _ _ _ _ _ _ _ (HACC.out.then kx).bs (a1.then a2.2).bs a2.bs _ rfl) (by rw [flat3]; simp [putN_length]; have := HL.out; have e := HNA.out; omega)).mono ?_; rintro e wj ⟨uj, rfl, aj⟩; have ky := kx; replace kx := (kx.alloc _).then aj.2)
          | fail)
      have REL := @hideH _ (show Acc w wj uj (putN 1 n ++ flatB recB (l.take (k + 1))) by rw [EX.out, ← List.append_assoc, ← HAE.out]; have q := aj.low ((HACC.out.2.then ky).alloc _); rw [flat3] at q; exact q)
      clear aj ky kx HACC a1 a2 d1 d2
      go_wp2
      go_roundw
      case rel => exact ⟨k + 1, by omega, by go_num, REL⟩
      case measure => simp [intOf]; omega
    · have hkl' : ¬ (k : Int) < (n : Int) := by omega
      obtain rfl : k = n := by omega
      have REL := @hideH _ (show Acc w wr _ Z by rw [HZE.out, ← HN.out]; have q := hh.out; rw [List.take_of_length_le (by have := HN.out; omega)] at q; exact q)
      clear hh
      go_wp2
      go_ret
      exact ⟨_, rfl, REL.out⟩
end Go.Proofs.Ytebcmcmboomgfaa

/-
  OWN WORK (by mkpr.py). record: isBlank, isRange.
-/
namespace Go.Proofs.Ytebcmcmboomgfaa
open Go.RowKit
set_option linter.unusedVariables false
set_option linter.unusedSimpArgs false

set_option maxRecDepth 20000 in
set_option maxHeartbeats 6400000 in
theorem pBlank (kind birth prev id page frm next : Int) (pb pa pr pd : Option Addr) (nb cb na ca nr cr nd cd : Nat) (w : World) : Calls Try.prog 41 #[.agg #[.int .i64 kind, .int .i64 birth, .int .i64 prev, .int .i64 id, .int .i64 page, .int .i64 frm, .slice pb nb cb, .slice pa na ca, .int .i64 next, .slice pr nr cr, .slice pd nd cd]] w fun e w' => e = .returned (.bool (decide (birth = 0 ∧ prev = 0 ∧ id = 0 ∧ page = 0 ∧ frm = 0 ∧ next = 0 ∧ nb = 0 ∧ na = 0 ∧ nr = 0 ∧ nd = 0))) ∧ Kept [] w w' := by
  by_cases h0 : birth = 0
  · subst h0
    by_cases h1 : prev = 0
    · subst h1
      by_cases h2 : id = 0
      · subst h2
        by_cases h3 : page = 0
        · subst h3
          by_cases h4 : frm = 0
          · subst h4
            by_cases h5 : next = 0
            · subst h5
              by_cases h6 : nb = 0
              · subst h6
                by_cases h7 : na = 0
                · subst h7
                  by_cases h8 : nr = 0
                  · subst h8
                    by_cases h9 : nd = 0
                    · subst h9
                      rw [show decide ((0 : Int) = 0 ∧ (0 : Int) = 0 ∧ (0 : Int) = 0 ∧ (0 : Int) = 0 ∧ (0 : Int) = 0 ∧ (0 : Int) = 0 ∧ (0 : Nat) = 0 ∧ (0 : Nat) = 0 ∧ (0 : Nat) = 0 ∧ (0 : Nat) = 0) = true from rfl]
                      go_enter Try.func41, Try.ntmps41
                      go_wp2
                      go_ret
                      exact ⟨by simp, (Kept.refl [] w).alloc _⟩
                    · rw [show decide ((0 : Int) = 0 ∧ (0 : Int) = 0 ∧ (0 : Int) = 0 ∧ (0 : Int) = 0 ∧ (0 : Int) = 0 ∧ (0 : Int) = 0 ∧ (0 : Nat) = 0 ∧ (0 : Nat) = 0 ∧ (0 : Nat) = 0 ∧ nd = 0) = false from decide_eq_false fun h => h9 (by first | exact h.1 | (simp only [true_and] at h; first | exact h.1 | exact h))]
                      have g : ((nd : Int) == 0) = false := by simp [h9]
                      clear h9
                      go_enter Try.func41, Try.ntmps41
                      go_wp2
                      go_ret
                      exact ⟨by simp, (Kept.refl [] w).alloc _⟩
                  · rw [show decide ((0 : Int) = 0 ∧ (0 : Int) = 0 ∧ (0 : Int) = 0 ∧ (0 : Int) = 0 ∧ (0 : Int) = 0 ∧ (0 : Int) = 0 ∧ (0 : Nat) = 0 ∧ (0 : Nat) = 0 ∧ nr = 0 ∧ nd = 0) = false from decide_eq_false fun h => h8 (by first | exact h.1 | (simp only [true_and] at h; first | exact h.1 | exact h))]
                    have g : ((nr : Int) == 0) = false := by simp [h8]
                    clear h8
                    go_enter Try.func41, Try.ntmps41
                    go_wp2
                    go_ret
                    exact ⟨by simp, (Kept.refl [] w).alloc _⟩
                · rw [show decide ((0 : Int) = 0 ∧ (0 : Int) = 0 ∧ (0 : Int) = 0 ∧ (0 : Int) = 0 ∧ (0 : Int) = 0 ∧ (0 : Int) = 0 ∧ (0 : Nat) = 0 ∧ na = 0 ∧ nr = 0 ∧ nd = 0) = false from decide_eq_false fun h => h7 (by first | exact h.1 | (simp only [true_and] at h; first | exact h.1 | exact h))]
                  have g : ((na : Int) == 0) = false := by simp [h7]
                  clear h7
                  go_enter Try.func41, Try.ntmps41
                  go_wp2
                  go_ret
                  exact ⟨by simp, (Kept.refl [] w).alloc _⟩
              · rw [show decide ((0 : Int) = 0 ∧ (0 : Int) = 0 ∧ (0 : Int) = 0 ∧ (0 : Int) = 0 ∧ (0 : Int) = 0 ∧ (0 : Int) = 0 ∧ nb = 0 ∧ na = 0 ∧ nr = 0 ∧ nd = 0) = false from decide_eq_false fun h => h6 (by first | exact h.1 | (simp only [true_and] at h; first | exact h.1 | exact h))]
                have g : ((nb : Int) == 0) = false := by simp [h6]
                clear h6
                go_enter Try.func41, Try.ntmps41
                go_wp2
                go_ret
                exact ⟨by simp, (Kept.refl [] w).alloc _⟩
            · rw [show decide ((0 : Int) = 0 ∧ (0 : Int) = 0 ∧ (0 : Int) = 0 ∧ (0 : Int) = 0 ∧ (0 : Int) = 0 ∧ next = 0 ∧ nb = 0 ∧ na = 0 ∧ nr = 0 ∧ nd = 0) = false from decide_eq_false fun h => h5 (by first | exact h.1 | (simp only [true_and] at h; first | exact h.1 | exact h))]
              have g : (next == 0) = false := by simp [h5]
              clear h5
              go_enter Try.func41, Try.ntmps41
              go_wp2
              go_ret
              exact ⟨by simp, (Kept.refl [] w).alloc _⟩
          · rw [show decide ((0 : Int) = 0 ∧ (0 : Int) = 0 ∧ (0 : Int) = 0 ∧ (0 : Int) = 0 ∧ frm = 0 ∧ next = 0 ∧ nb = 0 ∧ na = 0 ∧ nr = 0 ∧ nd = 0) = false from decide_eq_false fun h => h4 (by first | exact h.1 | (simp only [true_and] at h; first | exact h.1 | exact h))]
            have g : (frm == 0) = false := by simp [h4]
            clear h4
            go_enter Try.func41, Try.ntmps41
            go_wp2
            go_ret
            exact ⟨by simp, (Kept.refl [] w).alloc _⟩
        · rw [show decide ((0 : Int) = 0 ∧ (0 : Int) = 0 ∧ (0 : Int) = 0 ∧ page = 0 ∧ frm = 0 ∧ next = 0 ∧ nb = 0 ∧ na = 0 ∧ nr = 0 ∧ nd = 0) = false from decide_eq_false fun h => h3 (by first | exact h.1 | (simp only [true_and] at h; first | exact h.1 | exact h))]
          have g : (page == 0) = false := by simp [h3]
          clear h3
          go_enter Try.func41, Try.ntmps41
          go_wp2
          go_ret
          exact ⟨by simp, (Kept.refl [] w).alloc _⟩
      · rw [show decide ((0 : Int) = 0 ∧ (0 : Int) = 0 ∧ id = 0 ∧ page = 0 ∧ frm = 0 ∧ next = 0 ∧ nb = 0 ∧ na = 0 ∧ nr = 0 ∧ nd = 0) = false from decide_eq_false fun h => h2 (by first | exact h.1 | (simp only [true_and] at h; first | exact h.1 | exact h))]
        have g : (id == 0) = false := by simp [h2]
        clear h2
        go_enter Try.func41, Try.ntmps41
        go_wp2
        go_ret
        exact ⟨by simp, (Kept.refl [] w).alloc _⟩
    · rw [show decide ((0 : Int) = 0 ∧ prev = 0 ∧ id = 0 ∧ page = 0 ∧ frm = 0 ∧ next = 0 ∧ nb = 0 ∧ na = 0 ∧ nr = 0 ∧ nd = 0) = false from decide_eq_false fun h => h1 (by first | exact h.1 | (simp only [true_and] at h; first | exact h.1 | exact h))]
      have g : (prev == 0) = false := by simp [h1]
      clear h1
      go_enter Try.func41, Try.ntmps41
      go_wp2
      go_ret
      exact ⟨by simp, (Kept.refl [] w).alloc _⟩
  · rw [show decide (birth = 0 ∧ prev = 0 ∧ id = 0 ∧ page = 0 ∧ frm = 0 ∧ next = 0 ∧ nb = 0 ∧ na = 0 ∧ nr = 0 ∧ nd = 0) = false from decide_eq_false fun h => h0 (by first | exact h.1 | (simp only [true_and] at h; first | exact h.1 | exact h))]
    have g : (birth == 0) = false := by simp [h0]
    clear h0
    go_enter Try.func41, Try.ntmps41
    go_wp2
    go_ret
    exact ⟨by simp, (Kept.refl [] w).alloc _⟩
theorem pBlankB (kind birth prev id page frm next : Int) (pb pa pr pd : Option Addr) (nb cb na ca nr cr nd cd : Nat) (B : Bool) (hB : B = decide (birth = 0 ∧ prev = 0 ∧ id = 0 ∧ page = 0 ∧ frm = 0 ∧ next = 0 ∧ nb = 0 ∧ na = 0 ∧ nr = 0 ∧ nd = 0)) (w : World) : Calls Try.prog 41 #[.agg #[.int .i64 kind, .int .i64 birth, .int .i64 prev, .int .i64 id, .int .i64 page, .int .i64 frm, .slice pb nb cb, .slice pa na ca, .int .i64 next, .slice pr nr cr, .slice pd nd cd]] w fun e w' => e = .returned (.bool B) ∧ Kept [] w w' := by
  rw [hB]
  exact pBlank kind birth prev id page frm next pb pa pr pd nb cb na ca nr cr nd cd w
set_option maxHeartbeats 1600000 in
theorem pRange (V : RV) (r : Rcd) (w : World) (h : SeeR w V r) : Calls Try.prog 44 #[r.agg V] w fun e w' => e = .returned (.bool (bl (rangedOk r))) ∧ Kept [] w w' := by
  obtain ⟨pb, cb, pa, ca, pr, cr, pd, cd, rfl⟩ := h.shapes
  have hal : after_len r.after.length := (by obtain ⟨_, _, e, h1, h2, _⟩ := h.after; cases e; exact Nat.le_trans h1 h2)
  obtain ⟨kind, birth, prev, id, page, frm, before, after, next, rows, dirty⟩ := r
  clear h
  unfold Rcd.agg
  dsimp only at hal ⊢
  obtain ⟨n, hn⟩ : ∃ n, n = after.length := ⟨_, rfl⟩
  have R : rangedOk ⟨kind, birth, prev, id, page, frm, before, after, next, rows, dirty⟩ ↔ (pageOk page ∧ 0 < n ∧ 16 ≤ frm ∧ frm ≤ 144 - (n : Int)) := by rw [hn]; unfold rangedOk pageOk; simp only; omega
  have wn : IntKind.i64.wrap (144 - (n : Int)) = 144 - (n : Int) := wrap_i64_of (by unfold after_len maxLen at hal; omega) (by omega)
  rw [← hn]
  have HN := @hideH _ (And.intro hn hal)
  clear hn hal
  have F : ∀ {P : Prop}, (rangedOk ⟨kind, birth, prev, id, page, frm, before, after, next, rows, dirty⟩ → P) → ¬ P → bl (rangedOk ⟨kind, birth, prev, id, page, frm, before, after, next, rows, dirty⟩) = false := fun h1 h2 => bl_f fun h => h2 (h1 h)
  have hp := fun w => pIsPage page w
  by_cases h1 : pageOk page
  · skip
    by_cases h2 : 0 < n
    · skip
      by_cases h3 : 16 ≤ frm
      · skip
        by_cases h4 : frm ≤ 144 - (n : Int)
        · skip
          rw [bl_t (R.2 ⟨h1, h2, h3, h4⟩)]
          rw [bl_t h1] at hp
          clear F R h1
          have h2' : (0 : Int) < (n : Int) := by omega
          go_enter Try.func44, Try.ntmps44
          go_wp2_with fail
          refine (hp _).mono ?_
          rintro e wq ⟨rfl, rfl⟩
          go_wp2
          go_ret
          exact ⟨by simp <;> omega, (Kept.refl [] w).alloc _⟩
        · rw [F (fun h => (R.1 h).2.2.2) h4]
          rw [bl_t h1] at hp
          clear F R h1
          have h2' : (0 : Int) < (n : Int) := by omega
          go_enter Try.func44, Try.ntmps44
          go_wp2_with fail
          refine (hp _).mono ?_
          rintro e wq ⟨rfl, rfl⟩
          go_wp2
          go_ret
          exact ⟨by simp <;> omega, (Kept.refl [] w).alloc _⟩
      · rw [F (fun h => (R.1 h).2.2.1) h3]
        rw [bl_t h1] at hp
        clear F R h1
        have h2' : (0 : Int) < (n : Int) := by omega
        go_enter Try.func44, Try.ntmps44
        go_wp2_with fail
        refine (hp _).mono ?_
        rintro e wq ⟨rfl, rfl⟩
        go_wp2
        go_ret
        exact ⟨by simp <;> omega, (Kept.refl [] w).alloc _⟩
    · rw [F (fun h => (R.1 h).2.1) h2]
      rw [bl_t h1] at hp
      clear F R h1
      have h2' : ¬ (0 : Int) < (n : Int) := by omega
      go_enter Try.func44, Try.ntmps44
      go_wp2_with fail
      refine (hp _).mono ?_
      rintro e wq ⟨rfl, rfl⟩
      go_wp2
      go_ret
      exact ⟨by simp <;> omega, (Kept.refl [] w).alloc _⟩
  · rw [F (fun h => (R.1 h).1) h1]
    rw [bl_f h1] at hp
    clear F R h1
    go_enter Try.func44, Try.ntmps44
    go_wp2_with fail
    refine (hp _).mono ?_
    rintro e wq ⟨rfl, rfl⟩
    go_wp2
    go_ret
    exact ⟨by simp <;> omega, (Kept.refl [] w).alloc _⟩
end Go.Proofs.Ytebcmcmboomgfaa

/-
  OWN WORK (by mkpr3.py). record: isRight, kind 1.
-/
namespace Go.Proofs.Ytebcmcmboomgfaa
open Go.RowKit
set_option linter.unusedVariables false
set_option linter.unusedSimpArgs false

set_option maxRecDepth 20000 in
set_option maxHeartbeats 6400000 in
theorem qRight_1 (V : RV) (birth prev id page frm : Int) (before after : List UInt8) (next : Int) (rows : List RowR) (dirty : List RecR) (w : World) (h : SeeR w V (⟨1, birth, prev, id, page, frm, before, after, next, rows, dirty⟩ : Rcd)) : Calls Try.prog 27 #[(⟨1, birth, prev, id, page, frm, before, after, next, rows, dirty⟩ : Rcd).agg V] w fun e w' => e = .returned (.bool (bl (⟨1, birth, prev, id, page, frm, before, after, next, rows, dirty⟩ : Rcd).Right)) ∧ Kept [] w w' := by
  obtain ⟨pb, cb, pa, ca, pr, cr, pd, cd, rfl⟩ := h.shapes
  obtain ⟨B, hB⟩ : ∃ B, B = decide (birth = 0 ∧ prev = 0 ∧ (0 : Int) = 0 ∧ page = 0 ∧ frm = 0 ∧ next = 0 ∧ before.length = 0 ∧ after.length = 0 ∧ rows.length = 0 ∧ dirty.length = 0) := ⟨_, rfl⟩
  have hb := fun wz => pBlankB 1 birth prev 0 page frm next pb pa pr pd before.length cb after.length ca rows.length cr dirty.length cd B hB wz
  have RI : (⟨1, birth, prev, id, page, frm, before, after, next, rows, dirty⟩ : Rcd).Right ↔ B = true ∧ idOk id := by
    have e : (⟨1, birth, prev, id, page, frm, before, after, next, rows, dirty⟩ : Rcd).Right ↔ (birth = 0 ∧ prev = 0) ∧ (1 ≤ id ∧ id ≤ 64) ∧ (rows = [] ∧ dirty = []) ∧ next = 0 ∧ (page = 0 ∧ frm = 0 ∧ after = []) ∧ before = [] := by unfold Rcd.Right; simp
    rw [e, hB]
    constructor
    · rintro ⟨a0, a1, a2, a3, a4, a5⟩
      exact ⟨decide_eq_true ⟨a0.1, a0.2, rfl, a4.1, a4.2.1, a3, (by rw [a5]; rfl), (by rw [a4.2.2]; rfl), (by rw [a2.1]; rfl), (by rw [a2.2]; rfl)⟩, a1⟩
    · rintro ⟨hd, s0⟩
      have q := of_decide_eq_true hd
      exact ⟨⟨q.1, q.2.1⟩, s0, ⟨List.eq_nil_of_length_eq_zero q.2.2.2.2.2.2.2.2.1, List.eq_nil_of_length_eq_zero q.2.2.2.2.2.2.2.2.2⟩, q.2.2.2.2.2.1, ⟨q.2.2.2.1, q.2.2.2.2.1, List.eq_nil_of_length_eq_zero q.2.2.2.2.2.2.2.1⟩, List.eq_nil_of_length_eq_zero q.2.2.2.2.2.2.1⟩
  clear hB
  have ho := fun wz => pOwned (⟨.slice pb before.length cb, .slice pa after.length ca, .slice pr rows.length cr, .slice pd dirty.length cd⟩ : RV) (⟨1, birth, prev, id, page, frm, before, after, next, rows, dirty⟩ : Rcd) wz
  have hr := fun wz (kz : Kept [] w wz) => pRange _ (⟨1, birth, prev, id, page, frm, before, after, next, rows, dirty⟩ : Rcd) wz (h.kept kz)
  have hp := fun wz (kz : Kept [] w wz) (hn : 0 < after.length) => pParts _ _ before after wz (h.before.kept kz) (h.after.kept kz) hn
  have hn := fun wz => pIsNext next wz
  have hi := fun wz => pIsId id wz
  have ht := fun wz (kz : Kept [] w wz) => qTable _ rows wz (h.rows.kept kz)
  have hd := fun wz (kz : Kept [] w wz) => qDirty _ dirty wz (h.dirty.kept kz)
  clear h
  unfold Rcd.agg at ho hr ⊢
  dsimp only at ho hr hp ht hd ⊢
  obtain ⟨Q, hQ⟩ : ∃ Q, Q = bl (⟨1, birth, prev, id, page, frm, before, after, next, rows, dirty⟩ : Rcd).Right := ⟨_, rfl⟩
  rw [← hQ]
  have HQ := @hideH _ (show (¬ (B = true ∧ idOk id) → Q = false) ∧ ((B = true ∧ idOk id) → Q = true) from ⟨fun h => by rw [hQ]; exact bl_f fun q => h (RI.1 q), fun h => by rw [hQ]; exact bl_t (RI.2 h)⟩)
  clear hQ RI
  clear ho
  clear hr
  clear hp
  clear hn
  clear ht
  clear hd
  obtain ⟨wa, hwa⟩ : ∃ wa, wa = w.alloc (.cells #[.int .i64 1, .int .i64 birth, .int .i64 prev, .int .i64 id, .int .i64 page, .int .i64 frm, .slice pb before.length cb, .slice pa after.length ca, .int .i64 next, .slice pr rows.length cr, .slice pd dirty.length cd] 26) := ⟨_, rfl⟩
  have ba : Blk wa w.heap.size 26 [.int .i64 1, .int .i64 birth, .int .i64 prev, .int .i64 id, .int .i64 page, .int .i64 frm, .slice pb before.length cb, .slice pa after.length ca, .int .i64 next, .slice pr rows.length cr, .slice pd dirty.length cd] := by rw [hwa]; exact Blk.new w _ _
  have ka : Kept [] w wa := by rw [hwa]; exact (Kept.refl [] w).alloc _
  have HA := @hideH _ (And.intro hwa (And.intro ba ka))
  clear hwa ba ka
  go_enter Try.func27, Try.ntmps27
  go_wp2_with fail
  rw [← HA.out.1]
  refine (hb _).mono ?_
  rintro e w1 ⟨rfl, k1⟩
  clear hb
  have b1 := (HA.out.2.1.kept ((Kept.refl [] wa).alloc _) (by simp)).kept k1 (by simp)
  have K1 := (HA.out.2.2.alloc _).then k1
  have c0 := b1.cell (j := 0) rfl
  have c1 := b1.cell (j := 1) rfl
  have c2 := b1.cell (j := 2) rfl
  have c3 := b1.cell (j := 3) rfl
  have c4 := b1.cell (j := 4) rfl
  have c5 := b1.cell (j := 5) rfl
  have c6 := b1.cell (j := 6) rfl
  have c7 := b1.cell (j := 7) rfl
  have c8 := b1.cell (j := 8) rfl
  have c9 := b1.cell (j := 9) rfl
  have c10 := b1.cell (j := 10) rfl
  clear b1 k1
  cases B with
  | false =>
    have eQ := @hideH _ (HQ.out.1 fun h => by cases h.1)
    have KE := @hideH _ K1
    clear K1
    go_wp2
    go_ret
    exact ⟨by rw [eQ.out]; rfl, KE.out⟩
  | true =>
    by_cases g0 : idOk id
    · simp only [bl_t g0] at hi
      have q0 := @hideH _ g0
      clear g0
      go_wp2_with fail
      refine (hi _).mono ?_
      rintro e wq ⟨rfl, rfl⟩
      clear hi
      have eQ := @hideH _ (HQ.out.2 ⟨by trivial, q0.out⟩)
      have KE := @hideH _ K1
      clear K1
      go_wp2
      go_ret
      exact ⟨by rw [eQ.out]; rfl, KE.out⟩
    · simp only [bl_f g0] at hi
      have eQ := @hideH _ (HQ.out.1 fun h => g0 (h.2))
      clear g0
      go_wp2_with fail
      refine (hi _).mono ?_
      rintro e wq ⟨rfl, rfl⟩
      clear hi
      have KE := @hideH _ K1
      clear K1
      go_wp2
      go_ret
      exact ⟨by rw [eQ.out]; rfl, KE.out⟩
end Go.Proofs.Ytebcmcmboomgfaa

/-
  OWN WORK (by mkpr3.py). record: isRight, kind 2.
-/
namespace Go.Proofs.Ytebcmcmboomgfaa
open Go.RowKit
set_option linter.unusedVariables false
set_option linter.unusedSimpArgs false

set_option maxRecDepth 20000 in
set_option maxHeartbeats 6400000 in
theorem qRight_2 (V : RV) (birth prev id page frm : Int) (before after : List UInt8) (next : Int) (rows : List RowR) (dirty : List RecR) (w : World) (h : SeeR w V (⟨2, birth, prev, id, page, frm, before, after, next, rows, dirty⟩ : Rcd)) : Calls Try.prog 27 #[(⟨2, birth, prev, id, page, frm, before, after, next, rows, dirty⟩ : Rcd).agg V] w fun e w' => e = .returned (.bool (bl (⟨2, birth, prev, id, page, frm, before, after, next, rows, dirty⟩ : Rcd).Right)) ∧ Kept [] w w' := by
  obtain ⟨pb, cb, pa, ca, pr, cr, pd, cd, rfl⟩ := h.shapes
  obtain ⟨B, hB⟩ : ∃ B, B = decide ((0 : Int) = 0 ∧ (0 : Int) = 0 ∧ id = 0 ∧ (0 : Int) = 0 ∧ (0 : Int) = 0 ∧ next = 0 ∧ (0 : Nat) = 0 ∧ (0 : Nat) = 0 ∧ rows.length = 0 ∧ dirty.length = 0) := ⟨_, rfl⟩
  have hb := fun wz => pBlankB 2 0 0 id 0 0 next none none pr pd 0 0 0 0 rows.length cr dirty.length cd B hB wz
  have RI : (⟨2, birth, prev, id, page, frm, before, after, next, rows, dirty⟩ : Rcd).Right ↔ B = true ∧ ownedOk (⟨2, birth, prev, id, page, frm, before, after, next, rows, dirty⟩ : Rcd) ∧ rangedOk (⟨2, birth, prev, id, page, frm, before, after, next, rows, dirty⟩ : Rcd) ∧ partsL before after := by
    have e : (⟨2, birth, prev, id, page, frm, before, after, next, rows, dirty⟩ : Rcd).Right ↔ (lsnOk birth ∧ lsnOk prev) ∧ id = 0 ∧ (rows = [] ∧ dirty = []) ∧ next = 0 ∧ rangedOk (⟨2, birth, prev, id, page, frm, before, after, next, rows, dirty⟩ : Rcd) ∧ partsOk (⟨2, birth, prev, id, page, frm, before, after, next, rows, dirty⟩ : Rcd) := by unfold Rcd.Right; simp
    rw [e, hB]
    constructor
    · rintro ⟨a0, a1, a2, a3, a4, a5⟩
      exact ⟨decide_eq_true ⟨rfl, rfl, a1, rfl, rfl, a3, rfl, rfl, (by rw [a2.1]; rfl), (by rw [a2.2]; rfl)⟩, a0, a4, a5⟩
    · rintro ⟨hd, s0, s1, s2⟩
      have q := of_decide_eq_true hd
      exact ⟨s0, q.2.2.1, ⟨List.eq_nil_of_length_eq_zero q.2.2.2.2.2.2.2.2.1, List.eq_nil_of_length_eq_zero q.2.2.2.2.2.2.2.2.2⟩, q.2.2.2.2.2.1, s1, s2⟩
  clear hB
  have ho := fun wz => pOwned (⟨.slice pb before.length cb, .slice pa after.length ca, .slice pr rows.length cr, .slice pd dirty.length cd⟩ : RV) (⟨2, birth, prev, id, page, frm, before, after, next, rows, dirty⟩ : Rcd) wz
  have hr := fun wz (kz : Kept [] w wz) => pRange _ (⟨2, birth, prev, id, page, frm, before, after, next, rows, dirty⟩ : Rcd) wz (h.kept kz)
  have hp := fun wz (kz : Kept [] w wz) (hn : 0 < after.length) => pParts _ _ before after wz (h.before.kept kz) (h.after.kept kz) hn
  have hn := fun wz => pIsNext next wz
  have hi := fun wz => pIsId id wz
  have ht := fun wz (kz : Kept [] w wz) => qTable _ rows wz (h.rows.kept kz)
  have hd := fun wz (kz : Kept [] w wz) => qDirty _ dirty wz (h.dirty.kept kz)
  clear h
  unfold Rcd.agg at ho hr ⊢
  dsimp only at ho hr hp ht hd ⊢
  obtain ⟨Q, hQ⟩ : ∃ Q, Q = bl (⟨2, birth, prev, id, page, frm, before, after, next, rows, dirty⟩ : Rcd).Right := ⟨_, rfl⟩
  rw [← hQ]
  have HQ := @hideH _ (show (¬ (B = true ∧ ownedOk (⟨2, birth, prev, id, page, frm, before, after, next, rows, dirty⟩ : Rcd) ∧ rangedOk (⟨2, birth, prev, id, page, frm, before, after, next, rows, dirty⟩ : Rcd) ∧ partsL before after) → Q = false) ∧ ((B = true ∧ ownedOk (⟨2, birth, prev, id, page, frm, before, after, next, rows, dirty⟩ : Rcd) ∧ rangedOk (⟨2, birth, prev, id, page, frm, before, after, next, rows, dirty⟩ : Rcd) ∧ partsL before after) → Q = true) from ⟨fun h => by rw [hQ]; exact bl_f fun q => h (RI.1 q), fun h => by rw [hQ]; exact bl_t (RI.2 h)⟩)
  clear hQ RI
  clear hn
  clear hi
  clear ht
  clear hd
  obtain ⟨wa, hwa⟩ : ∃ wa, wa = w.alloc (.cells #[.int .i64 2, .int .i64 birth, .int .i64 prev, .int .i64 id, .int .i64 page, .int .i64 frm, .slice pb before.length cb, .slice pa after.length ca, .int .i64 next, .slice pr rows.length cr, .slice pd dirty.length cd] 26) := ⟨_, rfl⟩
  have ba : Blk wa w.heap.size 26 [.int .i64 2, .int .i64 birth, .int .i64 prev, .int .i64 id, .int .i64 page, .int .i64 frm, .slice pb before.length cb, .slice pa after.length ca, .int .i64 next, .slice pr rows.length cr, .slice pd dirty.length cd] := by rw [hwa]; exact Blk.new w _ _
  have ka : Kept [] w wa := by rw [hwa]; exact (Kept.refl [] w).alloc _
  have HA := @hideH _ (And.intro hwa (And.intro ba ka))
  clear hwa ba ka
  go_enter Try.func27, Try.ntmps27
  go_wp2_with fail
  rw [← HA.out.1]
  refine (hb _).mono ?_
  rintro e w1 ⟨rfl, k1⟩
  clear hb
  have b1 := (HA.out.2.1.kept ((Kept.refl [] wa).alloc _) (by simp)).kept k1 (by simp)
  have K1 := (HA.out.2.2.alloc _).then k1
  have c0 := b1.cell (j := 0) rfl
  have c1 := b1.cell (j := 1) rfl
  have c2 := b1.cell (j := 2) rfl
  have c3 := b1.cell (j := 3) rfl
  have c4 := b1.cell (j := 4) rfl
  have c5 := b1.cell (j := 5) rfl
  have c6 := b1.cell (j := 6) rfl
  have c7 := b1.cell (j := 7) rfl
  have c8 := b1.cell (j := 8) rfl
  have c9 := b1.cell (j := 9) rfl
  have c10 := b1.cell (j := 10) rfl
  clear b1 k1
  cases B with
  | false =>
    have eQ := @hideH _ (HQ.out.1 fun h => by cases h.1)
    have KE := @hideH _ K1
    clear K1
    go_wp2
    go_ret
    exact ⟨by rw [eQ.out]; rfl, KE.out⟩
  | true =>
    by_cases g0 : ownedOk (⟨2, birth, prev, id, page, frm, before, after, next, rows, dirty⟩ : Rcd)
    · simp only [bl_t g0] at ho
      have q0 := @hideH _ g0
      clear g0
      go_wp2_with fail
      refine (ho _).mono ?_
      rintro e w2 ⟨rfl, kn⟩
      clear ho
      replace c0 := kn.cell c0 (by simp)
      replace c1 := kn.cell c1 (by simp)
      replace c2 := kn.cell c2 (by simp)
      replace c3 := kn.cell c3 (by simp)
      replace c4 := kn.cell c4 (by simp)
      replace c5 := kn.cell c5 (by simp)
      replace c6 := kn.cell c6 (by simp)
      replace c7 := kn.cell c7 (by simp)
      replace c8 := kn.cell c8 (by simp)
      replace c9 := kn.cell c9 (by simp)
      replace c10 := kn.cell c10 (by simp)
      have K2 := K1.then kn
      clear kn K1
      by_cases g1 : rangedOk (⟨2, birth, prev, id, page, frm, before, after, next, rows, dirty⟩ : Rcd)
      · simp only [bl_t g1] at hr
        have q1 := @hideH _ g1
        clear g1
        go_wp2_with fail
        refine (hr _ K2).mono ?_
        rintro e w3 ⟨rfl, kn⟩
        clear hr
        replace c0 := kn.cell c0 (by simp)
        replace c1 := kn.cell c1 (by simp)
        replace c2 := kn.cell c2 (by simp)
        replace c3 := kn.cell c3 (by simp)
        replace c4 := kn.cell c4 (by simp)
        replace c5 := kn.cell c5 (by simp)
        replace c6 := kn.cell c6 (by simp)
        replace c7 := kn.cell c7 (by simp)
        replace c8 := kn.cell c8 (by simp)
        replace c9 := kn.cell c9 (by simp)
        replace c10 := kn.cell c10 (by simp)
        have K3 := K2.then kn
        clear kn K2
        by_cases g2 : partsL before after
        · simp only [bl_t g2] at hp
          have q2 := @hideH _ g2
          clear g2
          have H1 : 0 < after.length := q1.out.2.1.1
          replace hp := fun wz kz => hp wz kz H1
          clear H1
          go_wp2_with fail
          refine (hp _ K3).mono ?_
          rintro e w4 ⟨rfl, kn⟩
          clear hp
          replace c0 := kn.cell c0 (by simp)
          replace c1 := kn.cell c1 (by simp)
          replace c2 := kn.cell c2 (by simp)
          replace c3 := kn.cell c3 (by simp)
          replace c4 := kn.cell c4 (by simp)
          replace c5 := kn.cell c5 (by simp)
          replace c6 := kn.cell c6 (by simp)
          replace c7 := kn.cell c7 (by simp)
          replace c8 := kn.cell c8 (by simp)
          replace c9 := kn.cell c9 (by simp)
          replace c10 := kn.cell c10 (by simp)
          have K4 := K3.then kn
          clear kn K3
          have eQ := @hideH _ (HQ.out.2 ⟨by trivial, q0.out, q1.out, q2.out⟩)
          have KE := @hideH _ K4
          clear K4
          go_wp2
          go_ret
          exact ⟨by rw [eQ.out]; rfl, KE.out⟩
        · simp only [bl_f g2] at hp
          have eQ := @hideH _ (HQ.out.1 fun h => g2 (h.2.2.2))
          clear g2
          have H1 : 0 < after.length := q1.out.2.1.1
          replace hp := fun wz kz => hp wz kz H1
          clear H1
          go_wp2_with fail
          refine (hp _ K3).mono ?_
          rintro e w4 ⟨rfl, kn⟩
          clear hp
          replace c0 := kn.cell c0 (by simp)
          replace c1 := kn.cell c1 (by simp)
          replace c2 := kn.cell c2 (by simp)
          replace c3 := kn.cell c3 (by simp)
          replace c4 := kn.cell c4 (by simp)
          replace c5 := kn.cell c5 (by simp)
          replace c6 := kn.cell c6 (by simp)
          replace c7 := kn.cell c7 (by simp)
          replace c8 := kn.cell c8 (by simp)
          replace c9 := kn.cell c9 (by simp)
          replace c10 := kn.cell c10 (by simp)
          have K4 := K3.then kn
          clear kn K3
          have KE := @hideH _ K4
          clear K4
          go_wp2
          go_ret
          exact ⟨by rw [eQ.out]; rfl, KE.out⟩
      · simp only [bl_f g1] at hr
        have eQ := @hideH _ (HQ.out.1 fun h => g1 (h.2.2.1))
        clear g1
        go_wp2_with fail
        refine (hr _ K2).mono ?_
        rintro e w3 ⟨rfl, kn⟩
        clear hr
        replace c0 := kn.cell c0 (by simp)
        replace c1 := kn.cell c1 (by simp)
        replace c2 := kn.cell c2 (by simp)
        replace c3 := kn.cell c3 (by simp)
        replace c4 := kn.cell c4 (by simp)
        replace c5 := kn.cell c5 (by simp)
        replace c6 := kn.cell c6 (by simp)
        replace c7 := kn.cell c7 (by simp)
        replace c8 := kn.cell c8 (by simp)
        replace c9 := kn.cell c9 (by simp)
        replace c10 := kn.cell c10 (by simp)
        have K3 := K2.then kn
        clear kn K2
        have KE := @hideH _ K3
        clear K3
        go_wp2
        go_ret
        exact ⟨by rw [eQ.out]; rfl, KE.out⟩
    · simp only [bl_f g0] at ho
      have eQ := @hideH _ (HQ.out.1 fun h => g0 (h.2.1))
      clear g0
      go_wp2_with fail
      refine (ho _).mono ?_
      rintro e w2 ⟨rfl, kn⟩
      clear ho
      replace c0 := kn.cell c0 (by simp)
      replace c1 := kn.cell c1 (by simp)
      replace c2 := kn.cell c2 (by simp)
      replace c3 := kn.cell c3 (by simp)
      replace c4 := kn.cell c4 (by simp)
      replace c5 := kn.cell c5 (by simp)
      replace c6 := kn.cell c6 (by simp)
      replace c7 := kn.cell c7 (by simp)
      replace c8 := kn.cell c8 (by simp)
      replace c9 := kn.cell c9 (by simp)
      replace c10 := kn.cell c10 (by simp)
      have K2 := K1.then kn
      clear kn K1
      have KE := @hideH _ K2
      clear K2
      go_wp2
      go_ret
      exact ⟨by rw [eQ.out]; rfl, KE.out⟩
end Go.Proofs.Ytebcmcmboomgfaa

/-
  OWN WORK (by mkpr3.py). record: isRight, kind 3.
-/
namespace Go.Proofs.Ytebcmcmboomgfaa
open Go.RowKit
set_option linter.unusedVariables false
set_option linter.unusedSimpArgs false

set_option maxRecDepth 20000 in
set_option maxHeartbeats 6400000 in
theorem qRight_3 (V : RV) (birth prev id page frm : Int) (before after : List UInt8) (next : Int) (rows : List RowR) (dirty : List RecR) (w : World) (h : SeeR w V (⟨3, birth, prev, id, page, frm, before, after, next, rows, dirty⟩ : Rcd)) : Calls Try.prog 27 #[(⟨3, birth, prev, id, page, frm, before, after, next, rows, dirty⟩ : Rcd).agg V] w fun e w' => e = .returned (.bool (bl (⟨3, birth, prev, id, page, frm, before, after, next, rows, dirty⟩ : Rcd).Right)) ∧ Kept [] w w' := by
  obtain ⟨pb, cb, pa, ca, pr, cr, pd, cd, rfl⟩ := h.shapes
  obtain ⟨B, hB⟩ : ∃ B, B = decide ((0 : Int) = 0 ∧ (0 : Int) = 0 ∧ id = 0 ∧ (0 : Int) = 0 ∧ (0 : Int) = 0 ∧ (0 : Int) = 0 ∧ before.length = 0 ∧ (0 : Nat) = 0 ∧ rows.length = 0 ∧ dirty.length = 0) := ⟨_, rfl⟩
  have hb := fun wz => pBlankB 3 0 0 id 0 0 0 pb none pr pd before.length cb 0 0 rows.length cr dirty.length cd B hB wz
  have RI : (⟨3, birth, prev, id, page, frm, before, after, next, rows, dirty⟩ : Rcd).Right ↔ B = true ∧ ownedOk (⟨3, birth, prev, id, page, frm, before, after, next, rows, dirty⟩ : Rcd) ∧ rangedOk (⟨3, birth, prev, id, page, frm, before, after, next, rows, dirty⟩ : Rcd) ∧ nextOk next := by
    have e : (⟨3, birth, prev, id, page, frm, before, after, next, rows, dirty⟩ : Rcd).Right ↔ (lsnOk birth ∧ lsnOk prev) ∧ id = 0 ∧ (rows = [] ∧ dirty = []) ∧ nextOk next ∧ rangedOk (⟨3, birth, prev, id, page, frm, before, after, next, rows, dirty⟩ : Rcd) ∧ before = [] := by unfold Rcd.Right; simp
    rw [e, hB]
    constructor
    · rintro ⟨a0, a1, a2, a3, a4, a5⟩
      exact ⟨decide_eq_true ⟨rfl, rfl, a1, rfl, rfl, rfl, (by rw [a5]; rfl), rfl, (by rw [a2.1]; rfl), (by rw [a2.2]; rfl)⟩, a0, a4, a3⟩
    · rintro ⟨hd, s0, s1, s2⟩
      have q := of_decide_eq_true hd
      exact ⟨s0, q.2.2.1, ⟨List.eq_nil_of_length_eq_zero q.2.2.2.2.2.2.2.2.1, List.eq_nil_of_length_eq_zero q.2.2.2.2.2.2.2.2.2⟩, s2, s1, List.eq_nil_of_length_eq_zero q.2.2.2.2.2.2.1⟩
  clear hB
  have ho := fun wz => pOwned (⟨.slice pb before.length cb, .slice pa after.length ca, .slice pr rows.length cr, .slice pd dirty.length cd⟩ : RV) (⟨3, birth, prev, id, page, frm, before, after, next, rows, dirty⟩ : Rcd) wz
  have hr := fun wz (kz : Kept [] w wz) => pRange _ (⟨3, birth, prev, id, page, frm, before, after, next, rows, dirty⟩ : Rcd) wz (h.kept kz)
  have hp := fun wz (kz : Kept [] w wz) (hn : 0 < after.length) => pParts _ _ before after wz (h.before.kept kz) (h.after.kept kz) hn
  have hn := fun wz => pIsNext next wz
  have hi := fun wz => pIsId id wz
  have ht := fun wz (kz : Kept [] w wz) => qTable _ rows wz (h.rows.kept kz)
  have hd := fun wz (kz : Kept [] w wz) => qDirty _ dirty wz (h.dirty.kept kz)
  clear h
  unfold Rcd.agg at ho hr ⊢
  dsimp only at ho hr hp ht hd ⊢
  obtain ⟨Q, hQ⟩ : ∃ Q, Q = bl (⟨3, birth, prev, id, page, frm, before, after, next, rows, dirty⟩ : Rcd).Right := ⟨_, rfl⟩
  rw [← hQ]
  have HQ := @hideH _ (show (¬ (B = true ∧ ownedOk (⟨3, birth, prev, id, page, frm, before, after, next, rows, dirty⟩ : Rcd) ∧ rangedOk (⟨3, birth, prev, id, page, frm, before, after, next, rows, dirty⟩ : Rcd) ∧ nextOk next) → Q = false) ∧ ((B = true ∧ ownedOk (⟨3, birth, prev, id, page, frm, before, after, next, rows, dirty⟩ : Rcd) ∧ rangedOk (⟨3, birth, prev, id, page, frm, before, after, next, rows, dirty⟩ : Rcd) ∧ nextOk next) → Q = true) from ⟨fun h => by rw [hQ]; exact bl_f fun q => h (RI.1 q), fun h => by rw [hQ]; exact bl_t (RI.2 h)⟩)
  clear hQ RI
  clear hp
  clear hi
  clear ht
  clear hd
  obtain ⟨wa, hwa⟩ : ∃ wa, wa = w.alloc (.cells #[.int .i64 3, .int .i64 birth, .int .i64 prev, .int .i64 id, .int .i64 page, .int .i64 frm, .slice pb before.length cb, .slice pa after.length ca, .int .i64 next, .slice pr rows.length cr, .slice pd dirty.length cd] 26) := ⟨_, rfl⟩
  have ba : Blk wa w.heap.size 26 [.int .i64 3, .int .i64 birth, .int .i64 prev, .int .i64 id, .int .i64 page, .int .i64 frm, .slice pb before.length cb, .slice pa after.length ca, .int .i64 next, .slice pr rows.length cr, .slice pd dirty.length cd] := by rw [hwa]; exact Blk.new w _ _
  have ka : Kept [] w wa := by rw [hwa]; exact (Kept.refl [] w).alloc _
  have HA := @hideH _ (And.intro hwa (And.intro ba ka))
  clear hwa ba ka
  go_enter Try.func27, Try.ntmps27
  go_wp2_with fail
  rw [← HA.out.1]
  refine (hb _).mono ?_
  rintro e w1 ⟨rfl, k1⟩
  clear hb
  have b1 := (HA.out.2.1.kept ((Kept.refl [] wa).alloc _) (by simp)).kept k1 (by simp)
  have K1 := (HA.out.2.2.alloc _).then k1
  have c0 := b1.cell (j := 0) rfl
  have c1 := b1.cell (j := 1) rfl
  have c2 := b1.cell (j := 2) rfl
  have c3 := b1.cell (j := 3) rfl
  have c4 := b1.cell (j := 4) rfl
  have c5 := b1.cell (j := 5) rfl
  have c6 := b1.cell (j := 6) rfl
  have c7 := b1.cell (j := 7) rfl
  have c8 := b1.cell (j := 8) rfl
  have c9 := b1.cell (j := 9) rfl
  have c10 := b1.cell (j := 10) rfl
  clear b1 k1
  cases B with
  | false =>
    have eQ := @hideH _ (HQ.out.1 fun h => by cases h.1)
    have KE := @hideH _ K1
    clear K1
    go_wp2
    go_ret
    exact ⟨by rw [eQ.out]; rfl, KE.out⟩
  | true =>
    by_cases g0 : ownedOk (⟨3, birth, prev, id, page, frm, before, after, next, rows, dirty⟩ : Rcd)
    · simp only [bl_t g0] at ho
      have q0 := @hideH _ g0
      clear g0
      go_wp2_with fail
      refine (ho _).mono ?_
      rintro e w2 ⟨rfl, kn⟩
      clear ho
      replace c0 := kn.cell c0 (by simp)
      replace c1 := kn.cell c1 (by simp)
      replace c2 := kn.cell c2 (by simp)
      replace c3 := kn.cell c3 (by simp)
      replace c4 := kn.cell c4 (by simp)
      replace c5 := kn.cell c5 (by simp)
      replace c6 := kn.cell c6 (by simp)
      replace c7 := kn.cell c7 (by simp)
      replace c8 := kn.cell c8 (by simp)
      replace c9 := kn.cell c9 (by simp)
      replace c10 := kn.cell c10 (by simp)
      have K2 := K1.then kn
      clear kn K1
      by_cases g1 : rangedOk (⟨3, birth, prev, id, page, frm, before, after, next, rows, dirty⟩ : Rcd)
      · simp only [bl_t g1] at hr
        have q1 := @hideH _ g1
        clear g1
        go_wp2_with fail
        refine (hr _ K2).mono ?_
        rintro e w3 ⟨rfl, kn⟩
        clear hr
        replace c0 := kn.cell c0 (by simp)
        replace c1 := kn.cell c1 (by simp)
        replace c2 := kn.cell c2 (by simp)
        replace c3 := kn.cell c3 (by simp)
        replace c4 := kn.cell c4 (by simp)
        replace c5 := kn.cell c5 (by simp)
        replace c6 := kn.cell c6 (by simp)
        replace c7 := kn.cell c7 (by simp)
        replace c8 := kn.cell c8 (by simp)
        replace c9 := kn.cell c9 (by simp)
        replace c10 := kn.cell c10 (by simp)
        have K3 := K2.then kn
        clear kn K2
        by_cases g2 : nextOk next
        · simp only [bl_t g2] at hn
          have q2 := @hideH _ g2
          clear g2
          go_wp2_with fail
          refine (hn _).mono ?_
          rintro e wq ⟨rfl, rfl⟩
          clear hn
          have eQ := @hideH _ (HQ.out.2 ⟨by trivial, q0.out, q1.out, q2.out⟩)
          have KE := @hideH _ K3
          clear K3
          go_wp2
          go_ret
          exact ⟨by rw [eQ.out]; rfl, KE.out⟩
        · simp only [bl_f g2] at hn
          have eQ := @hideH _ (HQ.out.1 fun h => g2 (h.2.2.2))
          clear g2
          go_wp2_with fail
          refine (hn _).mono ?_
          rintro e wq ⟨rfl, rfl⟩
          clear hn
          have KE := @hideH _ K3
          clear K3
          go_wp2
          go_ret
          exact ⟨by rw [eQ.out]; rfl, KE.out⟩
      · simp only [bl_f g1] at hr
        have eQ := @hideH _ (HQ.out.1 fun h => g1 (h.2.2.1))
        clear g1
        go_wp2_with fail
        refine (hr _ K2).mono ?_
        rintro e w3 ⟨rfl, kn⟩
        clear hr
        replace c0 := kn.cell c0 (by simp)
        replace c1 := kn.cell c1 (by simp)
        replace c2 := kn.cell c2 (by simp)
        replace c3 := kn.cell c3 (by simp)
        replace c4 := kn.cell c4 (by simp)
        replace c5 := kn.cell c5 (by simp)
        replace c6 := kn.cell c6 (by simp)
        replace c7 := kn.cell c7 (by simp)
        replace c8 := kn.cell c8 (by simp)
        replace c9 := kn.cell c9 (by simp)
        replace c10 := kn.cell c10 (by simp)
        have K3 := K2.then kn
        clear kn K2
        have KE := @hideH _ K3
        clear K3
        go_wp2
        go_ret
        exact ⟨by rw [eQ.out]; rfl, KE.out⟩
    · simp only [bl_f g0] at ho
      have eQ := @hideH _ (HQ.out.1 fun h => g0 (h.2.1))
      clear g0
      go_wp2_with fail
      refine (ho _).mono ?_
      rintro e w2 ⟨rfl, kn⟩
      clear ho
      replace c0 := kn.cell c0 (by simp)
      replace c1 := kn.cell c1 (by simp)
      replace c2 := kn.cell c2 (by simp)
      replace c3 := kn.cell c3 (by simp)
      replace c4 := kn.cell c4 (by simp)
      replace c5 := kn.cell c5 (by simp)
      replace c6 := kn.cell c6 (by simp)
      replace c7 := kn.cell c7 (by simp)
      replace c8 := kn.cell c8 (by simp)
      replace c9 := kn.cell c9 (by simp)
      replace c10 := kn.cell c10 (by simp)
      have K2 := K1.then kn
      clear kn K1
      have KE := @hideH _ K2
      clear K2
      go_wp2
      go_ret
      exact ⟨by rw [eQ.out]; rfl, KE.out⟩
end Go.Proofs.Ytebcmcmboomgfaa

/-
  OWN WORK (by mkpr3.py). record: isRight, kind 4.
-/
namespace Go.Proofs.Ytebcmcmboomgfaa
open Go.RowKit
set_option linter.unusedVariables false
set_option linter.unusedSimpArgs false

set_option maxRecDepth 20000 in
set_option maxHeartbeats 6400000 in
theorem qRight_4 (V : RV) (birth prev id page frm : Int) (before after : List UInt8) (next : Int) (rows : List RowR) (dirty : List RecR) (w : World) (h : SeeR w V (⟨4, birth, prev, id, page, frm, before, after, next, rows, dirty⟩ : Rcd)) : Calls Try.prog 27 #[(⟨4, birth, prev, id, page, frm, before, after, next, rows, dirty⟩ : Rcd).agg V] w fun e w' => e = .returned (.bool (bl (⟨4, birth, prev, id, page, frm, before, after, next, rows, dirty⟩ : Rcd).Right)) ∧ Kept [] w w' := by
  obtain ⟨pb, cb, pa, ca, pr, cr, pd, cd, rfl⟩ := h.shapes
  obtain ⟨B, hB⟩ : ∃ B, B = decide ((0 : Int) = 0 ∧ (0 : Int) = 0 ∧ id = 0 ∧ page = 0 ∧ frm = 0 ∧ next = 0 ∧ before.length = 0 ∧ after.length = 0 ∧ rows.length = 0 ∧ dirty.length = 0) := ⟨_, rfl⟩
  have hb := fun wz => pBlankB 4 0 0 id page frm next pb pa pr pd before.length cb after.length ca rows.length cr dirty.length cd B hB wz
  have RI : (⟨4, birth, prev, id, page, frm, before, after, next, rows, dirty⟩ : Rcd).Right ↔ B = true ∧ ownedOk (⟨4, birth, prev, id, page, frm, before, after, next, rows, dirty⟩ : Rcd) := by
    have e : (⟨4, birth, prev, id, page, frm, before, after, next, rows, dirty⟩ : Rcd).Right ↔ (lsnOk birth ∧ lsnOk prev) ∧ id = 0 ∧ (rows = [] ∧ dirty = []) ∧ next = 0 ∧ (page = 0 ∧ frm = 0 ∧ after = []) ∧ before = [] := by unfold Rcd.Right; simp
    rw [e, hB]
    constructor
    · rintro ⟨a0, a1, a2, a3, a4, a5⟩
      exact ⟨decide_eq_true ⟨rfl, rfl, a1, a4.1, a4.2.1, a3, (by rw [a5]; rfl), (by rw [a4.2.2]; rfl), (by rw [a2.1]; rfl), (by rw [a2.2]; rfl)⟩, a0⟩
    · rintro ⟨hd, s0⟩
      have q := of_decide_eq_true hd
      exact ⟨s0, q.2.2.1, ⟨List.eq_nil_of_length_eq_zero q.2.2.2.2.2.2.2.2.1, List.eq_nil_of_length_eq_zero q.2.2.2.2.2.2.2.2.2⟩, q.2.2.2.2.2.1, ⟨q.2.2.2.1, q.2.2.2.2.1, List.eq_nil_of_length_eq_zero q.2.2.2.2.2.2.2.1⟩, List.eq_nil_of_length_eq_zero q.2.2.2.2.2.2.1⟩
  clear hB
  have ho := fun wz => pOwned (⟨.slice pb before.length cb, .slice pa after.length ca, .slice pr rows.length cr, .slice pd dirty.length cd⟩ : RV) (⟨4, birth, prev, id, page, frm, before, after, next, rows, dirty⟩ : Rcd) wz
  have hr := fun wz (kz : Kept [] w wz) => pRange _ (⟨4, birth, prev, id, page, frm, before, after, next, rows, dirty⟩ : Rcd) wz (h.kept kz)
  have hp := fun wz (kz : Kept [] w wz) (hn : 0 < after.length) => pParts _ _ before after wz (h.before.kept kz) (h.after.kept kz) hn
  have hn := fun wz => pIsNext next wz
  have hi := fun wz => pIsId id wz
  have ht := fun wz (kz : Kept [] w wz) => qTable _ rows wz (h.rows.kept kz)
  have hd := fun wz (kz : Kept [] w wz) => qDirty _ dirty wz (h.dirty.kept kz)
  clear h
  unfold Rcd.agg at ho hr ⊢
  dsimp only at ho hr hp ht hd ⊢
  obtain ⟨Q, hQ⟩ : ∃ Q, Q = bl (⟨4, birth, prev, id, page, frm, before, after, next, rows, dirty⟩ : Rcd).Right := ⟨_, rfl⟩
  rw [← hQ]
  have HQ := @hideH _ (show (¬ (B = true ∧ ownedOk (⟨4, birth, prev, id, page, frm, before, after, next, rows, dirty⟩ : Rcd)) → Q = false) ∧ ((B = true ∧ ownedOk (⟨4, birth, prev, id, page, frm, before, after, next, rows, dirty⟩ : Rcd)) → Q = true) from ⟨fun h => by rw [hQ]; exact bl_f fun q => h (RI.1 q), fun h => by rw [hQ]; exact bl_t (RI.2 h)⟩)
  clear hQ RI
  clear hr
  clear hp
  clear hn
  clear hi
  clear ht
  clear hd
  obtain ⟨wa, hwa⟩ : ∃ wa, wa = w.alloc (.cells #[.int .i64 4, .int .i64 birth, .int .i64 prev, .int .i64 id, .int .i64 page, .int .i64 frm, .slice pb before.length cb, .slice pa after.length ca, .int .i64 next, .slice pr rows.length cr, .slice pd dirty.length cd] 26) := ⟨_, rfl⟩
  have ba : Blk wa w.heap.size 26 [.int .i64 4, .int .i64 birth, .int .i64 prev, .int .i64 id, .int .i64 page, .int .i64 frm, .slice pb before.length cb, .slice pa after.length ca, .int .i64 next, .slice pr rows.length cr, .slice pd dirty.length cd] := by rw [hwa]; exact Blk.new w _ _
  have ka : Kept [] w wa := by rw [hwa]; exact (Kept.refl [] w).alloc _
  have HA := @hideH _ (And.intro hwa (And.intro ba ka))
  clear hwa ba ka
  go_enter Try.func27, Try.ntmps27
  go_wp2_with fail
  rw [← HA.out.1]
  refine (hb _).mono ?_
  rintro e w1 ⟨rfl, k1⟩
  clear hb
  have b1 := (HA.out.2.1.kept ((Kept.refl [] wa).alloc _) (by simp)).kept k1 (by simp)
  have K1 := (HA.out.2.2.alloc _).then k1
  have c0 := b1.cell (j := 0) rfl
  have c1 := b1.cell (j := 1) rfl
  have c2 := b1.cell (j := 2) rfl
  have c3 := b1.cell (j := 3) rfl
  have c4 := b1.cell (j := 4) rfl
  have c5 := b1.cell (j := 5) rfl
  have c6 := b1.cell (j := 6) rfl
  have c7 := b1.cell (j := 7) rfl
  have c8 := b1.cell (j := 8) rfl
  have c9 := b1.cell (j := 9) rfl
  have c10 := b1.cell (j := 10) rfl
  clear b1 k1
  cases B with
  | false =>
    have eQ := @hideH _ (HQ.out.1 fun h => by cases h.1)
    have KE := @hideH _ K1
    clear K1
    go_wp2
    go_ret
    exact ⟨by rw [eQ.out]; rfl, KE.out⟩
  | true =>
    by_cases g0 : ownedOk (⟨4, birth, prev, id, page, frm, before, after, next, rows, dirty⟩ : Rcd)
    · simp only [bl_t g0] at ho
      have q0 := @hideH _ g0
      clear g0
      go_wp2_with fail
      refine (ho _).mono ?_
      rintro e w2 ⟨rfl, kn⟩
      clear ho
      replace c0 := kn.cell c0 (by simp)
      replace c1 := kn.cell c1 (by simp)
      replace c2 := kn.cell c2 (by simp)
      replace c3 := kn.cell c3 (by simp)
      replace c4 := kn.cell c4 (by simp)
      replace c5 := kn.cell c5 (by simp)
      replace c6 := kn.cell c6 (by simp)
      replace c7 := kn.cell c7 (by simp)
      replace c8 := kn.cell c8 (by simp)
      replace c9 := kn.cell c9 (by simp)
      replace c10 := kn.cell c10 (by simp)
      have K2 := K1.then kn
      clear kn K1
      have eQ := @hideH _ (HQ.out.2 ⟨by trivial, q0.out⟩)
      have KE := @hideH _ K2
      clear K2
      go_wp2
      go_ret
      exact ⟨by rw [eQ.out]; rfl, KE.out⟩
    · simp only [bl_f g0] at ho
      have eQ := @hideH _ (HQ.out.1 fun h => g0 (h.2))
      clear g0
      go_wp2_with fail
      refine (ho _).mono ?_
      rintro e w2 ⟨rfl, kn⟩
      clear ho
      replace c0 := kn.cell c0 (by simp)
      replace c1 := kn.cell c1 (by simp)
      replace c2 := kn.cell c2 (by simp)
      replace c3 := kn.cell c3 (by simp)
      replace c4 := kn.cell c4 (by simp)
      replace c5 := kn.cell c5 (by simp)
      replace c6 := kn.cell c6 (by simp)
      replace c7 := kn.cell c7 (by simp)
      replace c8 := kn.cell c8 (by simp)
      replace c9 := kn.cell c9 (by simp)
      replace c10 := kn.cell c10 (by simp)
      have K2 := K1.then kn
      clear kn K1
      have KE := @hideH _ K2
      clear K2
      go_wp2
      go_ret
      exact ⟨by rw [eQ.out]; rfl, KE.out⟩
end Go.Proofs.Ytebcmcmboomgfaa

/-
  OWN WORK (by mkpr3.py). record: isRight, kind 5.
-/
namespace Go.Proofs.Ytebcmcmboomgfaa
open Go.RowKit
set_option linter.unusedVariables false
set_option linter.unusedSimpArgs false

set_option maxRecDepth 20000 in
set_option maxHeartbeats 6400000 in
theorem qRight_5 (V : RV) (birth prev id page frm : Int) (before after : List UInt8) (next : Int) (rows : List RowR) (dirty : List RecR) (w : World) (h : SeeR w V (⟨5, birth, prev, id, page, frm, before, after, next, rows, dirty⟩ : Rcd)) : Calls Try.prog 27 #[(⟨5, birth, prev, id, page, frm, before, after, next, rows, dirty⟩ : Rcd).agg V] w fun e w' => e = .returned (.bool (bl (⟨5, birth, prev, id, page, frm, before, after, next, rows, dirty⟩ : Rcd).Right)) ∧ Kept [] w w' := by
  obtain ⟨pb, cb, pa, ca, pr, cr, pd, cd, rfl⟩ := h.shapes
  obtain ⟨B, hB⟩ : ∃ B, B = decide ((0 : Int) = 0 ∧ (0 : Int) = 0 ∧ id = 0 ∧ page = 0 ∧ frm = 0 ∧ next = 0 ∧ before.length = 0 ∧ after.length = 0 ∧ rows.length = 0 ∧ dirty.length = 0) := ⟨_, rfl⟩
  have hb := fun wz => pBlankB 5 0 0 id page frm next pb pa pr pd before.length cb after.length ca rows.length cr dirty.length cd B hB wz
  have RI : (⟨5, birth, prev, id, page, frm, before, after, next, rows, dirty⟩ : Rcd).Right ↔ B = true ∧ ownedOk (⟨5, birth, prev, id, page, frm, before, after, next, rows, dirty⟩ : Rcd) := by
    have e : (⟨5, birth, prev, id, page, frm, before, after, next, rows, dirty⟩ : Rcd).Right ↔ (lsnOk birth ∧ lsnOk prev) ∧ id = 0 ∧ (rows = [] ∧ dirty = []) ∧ next = 0 ∧ (page = 0 ∧ frm = 0 ∧ after = []) ∧ before = [] := by unfold Rcd.Right; simp
    rw [e, hB]
    constructor
    · rintro ⟨a0, a1, a2, a3, a4, a5⟩
      exact ⟨decide_eq_true ⟨rfl, rfl, a1, a4.1, a4.2.1, a3, (by rw [a5]; rfl), (by rw [a4.2.2]; rfl), (by rw [a2.1]; rfl), (by rw [a2.2]; rfl)⟩, a0⟩
    · rintro ⟨hd, s0⟩
      have q := of_decide_eq_true hd
      exact ⟨s0, q.2.2.1, ⟨List.eq_nil_of_length_eq_zero q.2.2.2.2.2.2.2.2.1, List.eq_nil_of_length_eq_zero q.2.2.2.2.2.2.2.2.2⟩, q.2.2.2.2.2.1, ⟨q.2.2.2.1, q.2.2.2.2.1, List.eq_nil_of_length_eq_zero q.2.2.2.2.2.2.2.1⟩, List.eq_nil_of_length_eq_zero q.2.2.2.2.2.2.1⟩
  clear hB
  have ho := fun wz => pOwned (⟨.slice pb before.length cb, .slice pa after.length ca, .slice pr rows.length cr, .slice pd dirty.length cd⟩ : RV) (⟨5, birth, prev, id, page, frm, before, after, next, rows, dirty⟩ : Rcd) wz
  have hr := fun wz (kz : Kept [] w wz) => pRange _ (⟨5, birth, prev, id, page, frm, before, after, next, rows, dirty⟩ : Rcd) wz (h.kept kz)
  have hp := fun wz (kz : Kept [] w wz) (hn : 0 < after.length) => pParts _ _ before after wz (h.before.kept kz) (h.after.kept kz) hn
  have hn := fun wz => pIsNext next wz
  have hi := fun wz => pIsId id wz
  have ht := fun wz (kz : Kept [] w wz) => qTable _ rows wz (h.rows.kept kz)
  have hd := fun wz (kz : Kept [] w wz) => qDirty _ dirty wz (h.dirty.kept kz)
  clear h
  unfold Rcd.agg at ho hr ⊢
  dsimp only at ho hr hp ht hd ⊢
  obtain ⟨Q, hQ⟩ : ∃ Q, Q = bl (⟨5, birth, prev, id, page, frm, before, after, next, rows, dirty⟩ : Rcd).Right := ⟨_, rfl⟩
  rw [← hQ]
  have HQ := @hideH _ (show (¬ (B = true ∧ ownedOk (⟨5, birth, prev, id, page, frm, before, after, next, rows, dirty⟩ : Rcd)) → Q = false) ∧ ((B = true ∧ ownedOk (⟨5, birth, prev, id, page, frm, before, after, next, rows, dirty⟩ : Rcd)) → Q = true) from ⟨fun h => by rw [hQ]; exact bl_f fun q => h (RI.1 q), fun h => by rw [hQ]; exact bl_t (RI.2 h)⟩)
  clear hQ RI
  clear hr
  clear hp
  clear hn
  clear hi
  clear ht
  clear hd
  obtain ⟨wa, hwa⟩ : ∃ wa, wa = w.alloc (.cells #[.int .i64 5, .int .i64 birth, .int .i64 prev, .int .i64 id, .int .i64 page, .int .i64 frm, .slice pb before.length cb, .slice pa after.length ca, .int .i64 next, .slice pr rows.length cr, .slice pd dirty.length cd] 26) := ⟨_, rfl⟩
  have ba : Blk wa w.heap.size 26 [.int .i64 5, .int .i64 birth, .int .i64 prev, .int .i64 id, .int .i64 page, .int .i64 frm, .slice pb before.length cb, .slice pa after.length ca, .int .i64 next, .slice pr rows.length cr, .slice pd dirty.length cd] := by rw [hwa]; exact Blk.new w _ _
  have ka : Kept [] w wa := by rw [hwa]; exact (Kept.refl [] w).alloc _
  have HA := @hideH _ (And.intro hwa (And.intro ba ka))
  clear hwa ba ka
  go_enter Try.func27, Try.ntmps27
  go_wp2_with fail
  rw [← HA.out.1]
  refine (hb _).mono ?_
  rintro e w1 ⟨rfl, k1⟩
  clear hb
  have b1 := (HA.out.2.1.kept ((Kept.refl [] wa).alloc _) (by simp)).kept k1 (by simp)
  have K1 := (HA.out.2.2.alloc _).then k1
  have c0 := b1.cell (j := 0) rfl
  have c1 := b1.cell (j := 1) rfl
  have c2 := b1.cell (j := 2) rfl
  have c3 := b1.cell (j := 3) rfl
  have c4 := b1.cell (j := 4) rfl
  have c5 := b1.cell (j := 5) rfl
  have c6 := b1.cell (j := 6) rfl
  have c7 := b1.cell (j := 7) rfl
  have c8 := b1.cell (j := 8) rfl
  have c9 := b1.cell (j := 9) rfl
  have c10 := b1.cell (j := 10) rfl
  clear b1 k1
  cases B with
  | false =>
    have eQ := @hideH _ (HQ.out.1 fun h => by cases h.1)
    have KE := @hideH _ K1
    clear K1
    go_wp2
    go_ret
    exact ⟨by rw [eQ.out]; rfl, KE.out⟩
  | true =>
    by_cases g0 : ownedOk (⟨5, birth, prev, id, page, frm, before, after, next, rows, dirty⟩ : Rcd)
    · simp only [bl_t g0] at ho
      have q0 := @hideH _ g0
      clear g0
      go_wp2_with fail
      refine (ho _).mono ?_
      rintro e w2 ⟨rfl, kn⟩
      clear ho
      replace c0 := kn.cell c0 (by simp)
      replace c1 := kn.cell c1 (by simp)
      replace c2 := kn.cell c2 (by simp)
      replace c3 := kn.cell c3 (by simp)
      replace c4 := kn.cell c4 (by simp)
      replace c5 := kn.cell c5 (by simp)
      replace c6 := kn.cell c6 (by simp)
      replace c7 := kn.cell c7 (by simp)
      replace c8 := kn.cell c8 (by simp)
      replace c9 := kn.cell c9 (by simp)
      replace c10 := kn.cell c10 (by simp)
      have K2 := K1.then kn
      clear kn K1
      have eQ := @hideH _ (HQ.out.2 ⟨by trivial, q0.out⟩)
      have KE := @hideH _ K2
      clear K2
      go_wp2
      go_ret
      exact ⟨by rw [eQ.out]; rfl, KE.out⟩
    · simp only [bl_f g0] at ho
      have eQ := @hideH _ (HQ.out.1 fun h => g0 (h.2))
      clear g0
      go_wp2_with fail
      refine (ho _).mono ?_
      rintro e w2 ⟨rfl, kn⟩
      clear ho
      replace c0 := kn.cell c0 (by simp)
      replace c1 := kn.cell c1 (by simp)
      replace c2 := kn.cell c2 (by simp)
      replace c3 := kn.cell c3 (by simp)
      replace c4 := kn.cell c4 (by simp)
      replace c5 := kn.cell c5 (by simp)
      replace c6 := kn.cell c6 (by simp)
      replace c7 := kn.cell c7 (by simp)
      replace c8 := kn.cell c8 (by simp)
      replace c9 := kn.cell c9 (by simp)
      replace c10 := kn.cell c10 (by simp)
      have K2 := K1.then kn
      clear kn K1
      have KE := @hideH _ K2
      clear K2
      go_wp2
      go_ret
      exact ⟨by rw [eQ.out]; rfl, KE.out⟩
end Go.Proofs.Ytebcmcmboomgfaa

/-
  OWN WORK (by mkpr3.py). record: isRight, kind 6.
-/
namespace Go.Proofs.Ytebcmcmboomgfaa
open Go.RowKit
set_option linter.unusedVariables false
set_option linter.unusedSimpArgs false

set_option maxRecDepth 20000 in
set_option maxHeartbeats 6400000 in
theorem qRight_6 (V : RV) (birth prev id page frm : Int) (before after : List UInt8) (next : Int) (rows : List RowR) (dirty : List RecR) (w : World) (h : SeeR w V (⟨6, birth, prev, id, page, frm, before, after, next, rows, dirty⟩ : Rcd)) : Calls Try.prog 27 #[(⟨6, birth, prev, id, page, frm, before, after, next, rows, dirty⟩ : Rcd).agg V] w fun e w' => e = .returned (.bool (bl (⟨6, birth, prev, id, page, frm, before, after, next, rows, dirty⟩ : Rcd).Right)) ∧ Kept [] w w' := by
  obtain ⟨pb, cb, pa, ca, pr, cr, pd, cd, rfl⟩ := h.shapes
  obtain ⟨B, hB⟩ : ∃ B, B = decide ((0 : Int) = 0 ∧ (0 : Int) = 0 ∧ id = 0 ∧ page = 0 ∧ frm = 0 ∧ next = 0 ∧ before.length = 0 ∧ after.length = 0 ∧ rows.length = 0 ∧ dirty.length = 0) := ⟨_, rfl⟩
  have hb := fun wz => pBlankB 6 0 0 id page frm next pb pa pr pd before.length cb after.length ca rows.length cr dirty.length cd B hB wz
  have RI : (⟨6, birth, prev, id, page, frm, before, after, next, rows, dirty⟩ : Rcd).Right ↔ B = true ∧ ownedOk (⟨6, birth, prev, id, page, frm, before, after, next, rows, dirty⟩ : Rcd) := by
    have e : (⟨6, birth, prev, id, page, frm, before, after, next, rows, dirty⟩ : Rcd).Right ↔ (lsnOk birth ∧ lsnOk prev) ∧ id = 0 ∧ (rows = [] ∧ dirty = []) ∧ next = 0 ∧ (page = 0 ∧ frm = 0 ∧ after = []) ∧ before = [] := by unfold Rcd.Right; simp
    rw [e, hB]
    constructor
    · rintro ⟨a0, a1, a2, a3, a4, a5⟩
      exact ⟨decide_eq_true ⟨rfl, rfl, a1, a4.1, a4.2.1, a3, (by rw [a5]; rfl), (by rw [a4.2.2]; rfl), (by rw [a2.1]; rfl), (by rw [a2.2]; rfl)⟩, a0⟩
    · rintro ⟨hd, s0⟩
      have q := of_decide_eq_true hd
      exact ⟨s0, q.2.2.1, ⟨List.eq_nil_of_length_eq_zero q.2.2.2.2.2.2.2.2.1, List.eq_nil_of_length_eq_zero q.2.2.2.2.2.2.2.2.2⟩, q.2.2.2.2.2.1, ⟨q.2.2.2.1, q.2.2.2.2.1, List.eq_nil_of_length_eq_zero q.2.2.2.2.2.2.2.1⟩, List.eq_nil_of_length_eq_zero q.2.2.2.2.2.2.1⟩
  clear hB
  have ho := fun wz => pOwned (⟨.slice pb before.length cb, .slice pa after.length ca, .slice pr rows.length cr, .slice pd dirty.length cd⟩ : RV) (⟨6, birth, prev, id, page, frm, before, after, next, rows, dirty⟩ : Rcd) wz
  have hr := fun wz (kz : Kept [] w wz) => pRange _ (⟨6, birth, prev, id, page, frm, before, after, next, rows, dirty⟩ : Rcd) wz (h.kept kz)
  have hp := fun wz (kz : Kept [] w wz) (hn : 0 < after.length) => pParts _ _ before after wz (h.before.kept kz) (h.after.kept kz) hn
  have hn := fun wz => pIsNext next wz
  have hi := fun wz => pIsId id wz
  have ht := fun wz (kz : Kept [] w wz) => qTable _ rows wz (h.rows.kept kz)
  have hd := fun wz (kz : Kept [] w wz) => qDirty _ dirty wz (h.dirty.kept kz)
  clear h
  unfold Rcd.agg at ho hr ⊢
  dsimp only at ho hr hp ht hd ⊢
  obtain ⟨Q, hQ⟩ : ∃ Q, Q = bl (⟨6, birth, prev, id, page, frm, before, after, next, rows, dirty⟩ : Rcd).Right := ⟨_, rfl⟩
  rw [← hQ]
  have HQ := @hideH _ (show (¬ (B = true ∧ ownedOk (⟨6, birth, prev, id, page, frm, before, after, next, rows, dirty⟩ : Rcd)) → Q = false) ∧ ((B = true ∧ ownedOk (⟨6, birth, prev, id, page, frm, before, after, next, rows, dirty⟩ : Rcd)) → Q = true) from ⟨fun h => by rw [hQ]; exact bl_f fun q => h (RI.1 q), fun h => by rw [hQ]; exact bl_t (RI.2 h)⟩)
  clear hQ RI
  clear hr
  clear hp
  clear hn
  clear hi
  clear ht
  clear hd
  obtain ⟨wa, hwa⟩ : ∃ wa, wa = w.alloc (.cells #[.int .i64 6, .int .i64 birth, .int .i64 prev, .int .i64 id, .int .i64 page, .int .i64 frm, .slice pb before.length cb, .slice pa after.length ca, .int .i64 next, .slice pr rows.length cr, .slice pd dirty.length cd] 26) := ⟨_, rfl⟩
  have ba : Blk wa w.heap.size 26 [.int .i64 6, .int .i64 birth, .int .i64 prev, .int .i64 id, .int .i64 page, .int .i64 frm, .slice pb before.length cb, .slice pa after.length ca, .int .i64 next, .slice pr rows.length cr, .slice pd dirty.length cd] := by rw [hwa]; exact Blk.new w _ _
  have ka : Kept [] w wa := by rw [hwa]; exact (Kept.refl [] w).alloc _
  have HA := @hideH _ (And.intro hwa (And.intro ba ka))
  clear hwa ba ka
  go_enter Try.func27, Try.ntmps27
  go_wp2_with fail
  rw [← HA.out.1]
  refine (hb _).mono ?_
  rintro e w1 ⟨rfl, k1⟩
  clear hb
  have b1 := (HA.out.2.1.kept ((Kept.refl [] wa).alloc _) (by simp)).kept k1 (by simp)
  have K1 := (HA.out.2.2.alloc _).then k1
  have c0 := b1.cell (j := 0) rfl
  have c1 := b1.cell (j := 1) rfl
  have c2 := b1.cell (j := 2) rfl
  have c3 := b1.cell (j := 3) rfl
  have c4 := b1.cell (j := 4) rfl
  have c5 := b1.cell (j := 5) rfl
  have c6 := b1.cell (j := 6) rfl
  have c7 := b1.cell (j := 7) rfl
  have c8 := b1.cell (j := 8) rfl
  have c9 := b1.cell (j := 9) rfl
  have c10 := b1.cell (j := 10) rfl
  clear b1 k1
  cases B with
  | false =>
    have eQ := @hideH _ (HQ.out.1 fun h => by cases h.1)
    have KE := @hideH _ K1
    clear K1
    go_wp2
    go_ret
    exact ⟨by rw [eQ.out]; rfl, KE.out⟩
  | true =>
    by_cases g0 : ownedOk (⟨6, birth, prev, id, page, frm, before, after, next, rows, dirty⟩ : Rcd)
    · simp only [bl_t g0] at ho
      have q0 := @hideH _ g0
      clear g0
      go_wp2_with fail
      refine (ho _).mono ?_
      rintro e w2 ⟨rfl, kn⟩
      clear ho
      replace c0 := kn.cell c0 (by simp)
      replace c1 := kn.cell c1 (by simp)
      replace c2 := kn.cell c2 (by simp)
      replace c3 := kn.cell c3 (by simp)
      replace c4 := kn.cell c4 (by simp)
      replace c5 := kn.cell c5 (by simp)
      replace c6 := kn.cell c6 (by simp)
      replace c7 := kn.cell c7 (by simp)
      replace c8 := kn.cell c8 (by simp)
      replace c9 := kn.cell c9 (by simp)
      replace c10 := kn.cell c10 (by simp)
      have K2 := K1.then kn
      clear kn K1
      have eQ := @hideH _ (HQ.out.2 ⟨by trivial, q0.out⟩)
      have KE := @hideH _ K2
      clear K2
      go_wp2
      go_ret
      exact ⟨by rw [eQ.out]; rfl, KE.out⟩
    · simp only [bl_f g0] at ho
      have eQ := @hideH _ (HQ.out.1 fun h => g0 (h.2))
      clear g0
      go_wp2_with fail
      refine (ho _).mono ?_
      rintro e w2 ⟨rfl, kn⟩
      clear ho
      replace c0 := kn.cell c0 (by simp)
      replace c1 := kn.cell c1 (by simp)
      replace c2 := kn.cell c2 (by simp)
      replace c3 := kn.cell c3 (by simp)
      replace c4 := kn.cell c4 (by simp)
      replace c5 := kn.cell c5 (by simp)
      replace c6 := kn.cell c6 (by simp)
      replace c7 := kn.cell c7 (by simp)
      replace c8 := kn.cell c8 (by simp)
      replace c9 := kn.cell c9 (by simp)
      replace c10 := kn.cell c10 (by simp)
      have K2 := K1.then kn
      clear kn K1
      have KE := @hideH _ K2
      clear K2
      go_wp2
      go_ret
      exact ⟨by rw [eQ.out]; rfl, KE.out⟩
end Go.Proofs.Ytebcmcmboomgfaa

/-
  OWN WORK (by mkpr3.py). record: isRight, kind 7.
-/
namespace Go.Proofs.Ytebcmcmboomgfaa
open Go.RowKit
set_option linter.unusedVariables false
set_option linter.unusedSimpArgs false

set_option maxRecDepth 20000 in
set_option maxHeartbeats 6400000 in
theorem qRight_7 (V : RV) (birth prev id page frm : Int) (before after : List UInt8) (next : Int) (rows : List RowR) (dirty : List RecR) (w : World) (h : SeeR w V (⟨7, birth, prev, id, page, frm, before, after, next, rows, dirty⟩ : Rcd)) : Calls Try.prog 27 #[(⟨7, birth, prev, id, page, frm, before, after, next, rows, dirty⟩ : Rcd).agg V] w fun e w' => e = .returned (.bool (bl (⟨7, birth, prev, id, page, frm, before, after, next, rows, dirty⟩ : Rcd).Right)) ∧ Kept [] w w' := by
  obtain ⟨pb, cb, pa, ca, pr, cr, pd, cd, rfl⟩ := h.shapes
  obtain ⟨B, hB⟩ : ∃ B, B = decide (birth = 0 ∧ prev = 0 ∧ id = 0 ∧ page = 0 ∧ frm = 0 ∧ next = 0 ∧ before.length = 0 ∧ after.length = 0 ∧ (0 : Nat) = 0 ∧ (0 : Nat) = 0) := ⟨_, rfl⟩
  have hb := fun wz => pBlankB 7 birth prev id page frm next pb pa none none before.length cb after.length ca 0 0 0 0 B hB wz
  have RI : (⟨7, birth, prev, id, page, frm, before, after, next, rows, dirty⟩ : Rcd).Right ↔ B = true ∧ tableOk rows ∧ dirtyOk dirty := by
    have e : (⟨7, birth, prev, id, page, frm, before, after, next, rows, dirty⟩ : Rcd).Right ↔ (birth = 0 ∧ prev = 0) ∧ id = 0 ∧ listsOk (⟨7, birth, prev, id, page, frm, before, after, next, rows, dirty⟩ : Rcd) ∧ next = 0 ∧ (page = 0 ∧ frm = 0 ∧ after = []) ∧ before = [] := by unfold Rcd.Right; simp
    rw [e, hB]
    constructor
    · rintro ⟨a0, a1, a2, a3, a4, a5⟩
      exact ⟨decide_eq_true ⟨a0.1, a0.2, a1, a4.1, a4.2.1, a3, (by rw [a5]; rfl), (by rw [a4.2.2]; rfl), rfl, rfl⟩, ((listsOk_iff _).1 a2).1, ((listsOk_iff _).1 a2).2⟩
    · rintro ⟨hd, s0, s1⟩
      have q := of_decide_eq_true hd
      exact ⟨⟨q.1, q.2.1⟩, q.2.2.1, (listsOk_iff _).2 ⟨s0, s1⟩, q.2.2.2.2.2.1, ⟨q.2.2.2.1, q.2.2.2.2.1, List.eq_nil_of_length_eq_zero q.2.2.2.2.2.2.2.1⟩, List.eq_nil_of_length_eq_zero q.2.2.2.2.2.2.1⟩
  clear hB
  have ho := fun wz => pOwned (⟨.slice pb before.length cb, .slice pa after.length ca, .slice pr rows.length cr, .slice pd dirty.length cd⟩ : RV) (⟨7, birth, prev, id, page, frm, before, after, next, rows, dirty⟩ : Rcd) wz
  have hr := fun wz (kz : Kept [] w wz) => pRange _ (⟨7, birth, prev, id, page, frm, before, after, next, rows, dirty⟩ : Rcd) wz (h.kept kz)
  have hp := fun wz (kz : Kept [] w wz) (hn : 0 < after.length) => pParts _ _ before after wz (h.before.kept kz) (h.after.kept kz) hn
  have hn := fun wz => pIsNext next wz
  have hi := fun wz => pIsId id wz
  have ht := fun wz (kz : Kept [] w wz) => qTable _ rows wz (h.rows.kept kz)
  have hd := fun wz (kz : Kept [] w wz) => qDirty _ dirty wz (h.dirty.kept kz)
  clear h
  unfold Rcd.agg at ho hr ⊢
  dsimp only at ho hr hp ht hd ⊢
  obtain ⟨Q, hQ⟩ : ∃ Q, Q = bl (⟨7, birth, prev, id, page, frm, before, after, next, rows, dirty⟩ : Rcd).Right := ⟨_, rfl⟩
  rw [← hQ]
  have HQ := @hideH _ (show (¬ (B = true ∧ tableOk rows ∧ dirtyOk dirty) → Q = false) ∧ ((B = true ∧ tableOk rows ∧ dirtyOk dirty) → Q = true) from ⟨fun h => by rw [hQ]; exact bl_f fun q => h (RI.1 q), fun h => by rw [hQ]; exact bl_t (RI.2 h)⟩)
  clear hQ RI
  clear ho
  clear hr
  clear hp
  clear hn
  clear hi
  obtain ⟨wa, hwa⟩ : ∃ wa, wa = w.alloc (.cells #[.int .i64 7, .int .i64 birth, .int .i64 prev, .int .i64 id, .int .i64 page, .int .i64 frm, .slice pb before.length cb, .slice pa after.length ca, .int .i64 next, .slice pr rows.length cr, .slice pd dirty.length cd] 26) := ⟨_, rfl⟩
  have ba : Blk wa w.heap.size 26 [.int .i64 7, .int .i64 birth, .int .i64 prev, .int .i64 id, .int .i64 page, .int .i64 frm, .slice pb before.length cb, .slice pa after.length ca, .int .i64 next, .slice pr rows.length cr, .slice pd dirty.length cd] := by rw [hwa]; exact Blk.new w _ _
  have ka : Kept [] w wa := by rw [hwa]; exact (Kept.refl [] w).alloc _
  have HA := @hideH _ (And.intro hwa (And.intro ba ka))
  clear hwa ba ka
  go_enter Try.func27, Try.ntmps27
  go_wp2_with fail
  rw [← HA.out.1]
  refine (hb _).mono ?_
  rintro e w1 ⟨rfl, k1⟩
  clear hb
  have b1 := (HA.out.2.1.kept ((Kept.refl [] wa).alloc _) (by simp)).kept k1 (by simp)
  have K1 := (HA.out.2.2.alloc _).then k1
  have c0 := b1.cell (j := 0) rfl
  have c1 := b1.cell (j := 1) rfl
  have c2 := b1.cell (j := 2) rfl
  have c3 := b1.cell (j := 3) rfl
  have c4 := b1.cell (j := 4) rfl
  have c5 := b1.cell (j := 5) rfl
  have c6 := b1.cell (j := 6) rfl
  have c7 := b1.cell (j := 7) rfl
  have c8 := b1.cell (j := 8) rfl
  have c9 := b1.cell (j := 9) rfl
  have c10 := b1.cell (j := 10) rfl
  clear b1 k1
  cases B with
  | false =>
    have eQ := @hideH _ (HQ.out.1 fun h => by cases h.1)
    have KE := @hideH _ K1
    clear K1
    go_wp2
    go_ret
    exact ⟨by rw [eQ.out]; rfl, KE.out⟩
  | true =>
    by_cases g0 : tableOk rows
    · simp only [bl_t g0] at ht
      have q0 := @hideH _ g0
      clear g0
      go_wp2_with fail
      refine (ht _ K1).mono ?_
      rintro e w2 ⟨rfl, kn⟩
      clear ht
      replace c0 := kn.cell c0 (by simp)
      replace c1 := kn.cell c1 (by simp)
      replace c2 := kn.cell c2 (by simp)
      replace c3 := kn.cell c3 (by simp)
      replace c4 := kn.cell c4 (by simp)
      replace c5 := kn.cell c5 (by simp)
      replace c6 := kn.cell c6 (by simp)
      replace c7 := kn.cell c7 (by simp)
      replace c8 := kn.cell c8 (by simp)
      replace c9 := kn.cell c9 (by simp)
      replace c10 := kn.cell c10 (by simp)
      have K2 := K1.then kn
      clear kn K1
      by_cases g1 : dirtyOk dirty
      · simp only [bl_t g1] at hd
        have q1 := @hideH _ g1
        clear g1
        go_wp2_with fail
        refine (hd _ K2).mono ?_
        rintro e w3 ⟨rfl, kn⟩
        clear hd
        replace c0 := kn.cell c0 (by simp)
        replace c1 := kn.cell c1 (by simp)
        replace c2 := kn.cell c2 (by simp)
        replace c3 := kn.cell c3 (by simp)
        replace c4 := kn.cell c4 (by simp)
        replace c5 := kn.cell c5 (by simp)
        replace c6 := kn.cell c6 (by simp)
        replace c7 := kn.cell c7 (by simp)
        replace c8 := kn.cell c8 (by simp)
        replace c9 := kn.cell c9 (by simp)
        replace c10 := kn.cell c10 (by simp)
        have K3 := K2.then kn
        clear kn K2
        have eQ := @hideH _ (HQ.out.2 ⟨by trivial, q0.out, q1.out⟩)
        have KE := @hideH _ K3
        clear K3
        go_wp2
        go_ret
        exact ⟨by rw [eQ.out]; rfl, KE.out⟩
      · simp only [bl_f g1] at hd
        have eQ := @hideH _ (HQ.out.1 fun h => g1 (h.2.2))
        clear g1
        go_wp2_with fail
        refine (hd _ K2).mono ?_
        rintro e w3 ⟨rfl, kn⟩
        clear hd
        replace c0 := kn.cell c0 (by simp)
        replace c1 := kn.cell c1 (by simp)
        replace c2 := kn.cell c2 (by simp)
        replace c3 := kn.cell c3 (by simp)
        replace c4 := kn.cell c4 (by simp)
        replace c5 := kn.cell c5 (by simp)
        replace c6 := kn.cell c6 (by simp)
        replace c7 := kn.cell c7 (by simp)
        replace c8 := kn.cell c8 (by simp)
        replace c9 := kn.cell c9 (by simp)
        replace c10 := kn.cell c10 (by simp)
        have K3 := K2.then kn
        clear kn K2
        have KE := @hideH _ K3
        clear K3
        go_wp2
        go_ret
        exact ⟨by rw [eQ.out]; rfl, KE.out⟩
    · simp only [bl_f g0] at ht
      have eQ := @hideH _ (HQ.out.1 fun h => g0 (h.2.1))
      clear g0
      go_wp2_with fail
      refine (ht _ K1).mono ?_
      rintro e w2 ⟨rfl, kn⟩
      clear ht
      replace c0 := kn.cell c0 (by simp)
      replace c1 := kn.cell c1 (by simp)
      replace c2 := kn.cell c2 (by simp)
      replace c3 := kn.cell c3 (by simp)
      replace c4 := kn.cell c4 (by simp)
      replace c5 := kn.cell c5 (by simp)
      replace c6 := kn.cell c6 (by simp)
      replace c7 := kn.cell c7 (by simp)
      replace c8 := kn.cell c8 (by simp)
      replace c9 := kn.cell c9 (by simp)
      replace c10 := kn.cell c10 (by simp)
      have K2 := K1.then kn
      clear kn K1
      have KE := @hideH _ K2
      clear K2
      go_wp2
      go_ret
      exact ⟨by rw [eQ.out]; rfl, KE.out⟩
end Go.Proofs.Ytebcmcmboomgfaa

/-
  OWN WORK (by mkpr3.py). record: isRight.
-/
namespace Go.Proofs.Ytebcmcmboomgfaa
open Go.RowKit
set_option linter.unusedVariables false
set_option linter.unusedSimpArgs false

set_option maxHeartbeats 6400000 in
theorem qRight_out (V : RV) (r : Rcd) (w : World) (h : SeeR w V r) (hk : ¬ (1 ≤ r.kind ∧ r.kind ≤ 7)) : Calls Try.prog 27 #[r.agg V] w fun e w' => e = .returned (.bool (bl r.Right)) ∧ Kept [] w w' := by
  obtain ⟨pb, cb, pa, ca, pr, cr, pd, cd, rfl⟩ := h.shapes
  rw [bl_f (fun hr : r.Right => hk hr.1)]
  have e1 : (r.kind == 1) = false := by simp; omega
  have e2 : (r.kind == 2) = false := by simp; omega
  have e3 : (r.kind == 3) = false := by simp; omega
  have e4 : (r.kind == 4) = false := by simp; omega
  have e5 : (r.kind == 5) = false := by simp; omega
  have e6 : (r.kind == 6) = false := by simp; omega
  have e7 : (r.kind == 7) = false := by simp; omega
  unfold Rcd.agg
  dsimp only
  generalize r.kind = kind at *
  clear h hk
  go_enter Try.func27, Try.ntmps27
  go_wp2
  go_ret
  exact ⟨rfl, ((Kept.refl [] w).alloc _).alloc _⟩
theorem qRight (V : RV) (r : Rcd) (w : World) (h : SeeR w V r) : Calls Try.prog 27 #[r.agg V] w fun e w' => e = .returned (.bool (bl r.Right)) ∧ Kept [] w w' := by
  by_cases hk : 1 ≤ r.kind ∧ r.kind ≤ 7
  · obtain ⟨kind, birth, prev, id, page, frm, before, after, next, rows, dirty⟩ := r
    have : kind = 1 ∨ kind = 2 ∨ kind = 3 ∨ kind = 4 ∨ kind = 5 ∨ kind = 6 ∨ kind = 7 := by simp only at hk; omega
    rcases this with rfl | rfl | rfl | rfl | rfl | rfl | rfl
    · exact qRight_1 V birth prev id page frm before after next rows dirty w h
    · exact qRight_2 V birth prev id page frm before after next rows dirty w h
    · exact qRight_3 V birth prev id page frm before after next rows dirty w h
    · exact qRight_4 V birth prev id page frm before after next rows dirty w h
    · exact qRight_5 V birth prev id page frm before after next rows dirty w h
    · exact qRight_6 V birth prev id page frm before after next rows dirty w h
    · exact qRight_7 V birth prev id page frm before after next rows dirty w h
  · exact qRight_out V r w h hk
end Go.Proofs.Ytebcmcmboomgfaa

/-
  OWN WORK (by mkpr4.py). record: bytesOfKind.
-/
namespace Go.Proofs.Ytebcmcmboomgfaa
open Go.RowKit
set_option linter.unusedVariables false
set_option linter.unusedSimpArgs false

set_option maxRecDepth 20000 in
set_option maxHeartbeats 6400000 in
theorem qKind_1 (V : RV) (birth prev id page frm : Int) (before after : List UInt8) (next : Int) (rows : List RowR) (dirty : List RecR) (w : World) (h : SeeR w V (⟨1, birth, prev, id, page, frm, before, after, next, rows, dirty⟩ : Rcd)) (hR : (⟨1, birth, prev, id, page, frm, before, after, next, rows, dirty⟩ : Rcd).Right) : Calls Try.prog 31 #[(⟨1, birth, prev, id, page, frm, before, after, next, rows, dirty⟩ : Rcd).agg V] w fun e w' => ∃ u, e = .returned u ∧ Acc w w' u (tailB (⟨1, birth, prev, id, page, frm, before, after, next, rows, dirty⟩ : Rcd)) := by
  obtain ⟨pb, cb, pa, ca, pr, cr, pd, cd, rfl⟩ := h.shapes
  have hid : 1 ≤ id ∧ id ≤ 64 := by have q := hR.2.2.1; simp at q; exact q
  have h1 := fun w => qOne id w (by omega) (by omega)
  have eT : tailB (⟨1, birth, prev, id, page, frm, before, after, next, rows, dirty⟩ : Rcd) = putN 1 id.toNat := by unfold tailB; simp
  rw [eT]
  clear eT hid hR h
  unfold Rcd.agg
  dsimp only
  obtain ⟨wa, hwa⟩ : ∃ wa, wa = w.alloc (.cells #[.int .i64 1, .int .i64 birth, .int .i64 prev, .int .i64 id, .int .i64 page, .int .i64 frm, .slice pb before.length cb, .slice pa after.length ca, .int .i64 next, .slice pr rows.length cr, .slice pd dirty.length cd] 26) := ⟨_, rfl⟩
  have ba : Blk wa w.heap.size 26 [.int .i64 1, .int .i64 birth, .int .i64 prev, .int .i64 id, .int .i64 page, .int .i64 frm, .slice pb before.length cb, .slice pa after.length ca, .int .i64 next, .slice pr rows.length cr, .slice pd dirty.length cd] := by rw [hwa]; exact Blk.new w _ _
  have KA := @hideH _ (show Kept [] w wa by rw [hwa]; exact (Kept.refl [] w).alloc _)
  have c0 := ba.cell (j := 0) rfl
  have c1 := ba.cell (j := 1) rfl
  have c2 := ba.cell (j := 2) rfl
  have c3 := ba.cell (j := 3) rfl
  have c4 := ba.cell (j := 4) rfl
  have c5 := ba.cell (j := 5) rfl
  have c6 := ba.cell (j := 6) rfl
  have c7 := ba.cell (j := 7) rfl
  have c8 := ba.cell (j := 8) rfl
  have c9 := ba.cell (j := 9) rfl
  have c10 := ba.cell (j := 10) rfl
  have HBA := @hideH _ ba
  clear ba
  go_enter Try.func31, Try.ntmps31
  go_upto_region 1 with fail
  rw [← hwa]
  clear hwa
  go_wp2_with fail
  refine (h1 _).mono ?_
  rintro e w1 ⟨u1, rfl, a1⟩
  have REL := @hideH _ (a1.low KA.out)
  clear a1
  go_wp2
  go_ret
  exact ⟨_, rfl, REL.out⟩
set_option maxRecDepth 20000 in
set_option maxHeartbeats 6400000 in
theorem qKind_2 (V : RV) (birth prev id page frm : Int) (before after : List UInt8) (next : Int) (rows : List RowR) (dirty : List RecR) (w : World) (h : SeeR w V (⟨2, birth, prev, id, page, frm, before, after, next, rows, dirty⟩ : Rcd)) (hR : (⟨2, birth, prev, id, page, frm, before, after, next, rows, dirty⟩ : Rcd).Right) : Calls Try.prog 31 #[(⟨2, birth, prev, id, page, frm, before, after, next, rows, dirty⟩ : Rcd).agg V] w fun e w' => ∃ u, e = .returned u ∧ Acc w w' u (tailB (⟨2, birth, prev, id, page, frm, before, after, next, rows, dirty⟩ : Rcd)) := by
  obtain ⟨pb, cb, pa, ca, pr, cr, pd, cd, rfl⟩ := h.shapes
  have hrg : rangedOk (⟨2, birth, prev, id, page, frm, before, after, next, rows, dirty⟩ : Rcd) := by have q := hR.2.2.2.2.2.1; simp at q; exact q
  have hRB := fun wz (kz : Kept [] w wz) => qRangeB (⟨.slice pb before.length cb, .slice pa after.length ca, .slice pr rows.length cr, .slice pd dirty.length cd⟩ : RV) (⟨2, birth, prev, id, page, frm, before, after, next, rows, dirty⟩ : Rcd) wz (h.kept kz) hrg
  have hpt : partsOk (⟨2, birth, prev, id, page, frm, before, after, next, rows, dirty⟩ : Rcd) := by have q := hR.2.2.2.2.2.2; simp at q; exact q
  have eT : tailB (⟨2, birth, prev, id, page, frm, before, after, next, rows, dirty⟩ : Rcd) = flat [rangeB (⟨2, birth, prev, id, page, frm, before, after, next, rows, dirty⟩ : Rcd), before, after] := by rw [flat3]; unfold tailB rangeB; simp
  have HLN := @hideH _ (show (flat [rangeB (⟨2, birth, prev, id, page, frm, before, after, next, rows, dirty⟩ : Rcd), before, after]).length ≤ 100000 by rw [flat3]; simp only [List.length_append, rangeB_length]; have q1 := hrg.2.1.2; have q2 := hpt.1; simp only at q1 q2; omega)
  rw [eT]
  have HB := @hideH _ h.before
  have HAF := @hideH _ h.after
  clear eT hrg hR h hpt
  unfold Rcd.agg at hRB ⊢
  dsimp only at hRB HB HAF ⊢
  generalize rangeB (⟨2, birth, prev, id, page, frm, before, after, next, rows, dirty⟩ : Rcd) = RB at hRB HLN ⊢
  obtain ⟨wa, hwa⟩ : ∃ wa, wa = w.alloc (.cells #[.int .i64 2, .int .i64 birth, .int .i64 prev, .int .i64 id, .int .i64 page, .int .i64 frm, .slice pb before.length cb, .slice pa after.length ca, .int .i64 next, .slice pr rows.length cr, .slice pd dirty.length cd] 26) := ⟨_, rfl⟩
  have ba : Blk wa w.heap.size 26 [.int .i64 2, .int .i64 birth, .int .i64 prev, .int .i64 id, .int .i64 page, .int .i64 frm, .slice pb before.length cb, .slice pa after.length ca, .int .i64 next, .slice pr rows.length cr, .slice pd dirty.length cd] := by rw [hwa]; exact Blk.new w _ _
  have KA := @hideH _ (show Kept [] w wa by rw [hwa]; exact (Kept.refl [] w).alloc _)
  have c0 := ba.cell (j := 0) rfl
  have c1 := ba.cell (j := 1) rfl
  have c2 := ba.cell (j := 2) rfl
  have c3 := ba.cell (j := 3) rfl
  have c4 := ba.cell (j := 4) rfl
  have c5 := ba.cell (j := 5) rfl
  have c6 := ba.cell (j := 6) rfl
  have c7 := ba.cell (j := 7) rfl
  have c8 := ba.cell (j := 8) rfl
  have c9 := ba.cell (j := 9) rfl
  have c10 := ba.cell (j := 10) rfl
  have HBA := @hideH _ ba
  clear ba
  go_enter Try.func31, Try.ntmps31
  go_upto_region 1 with fail
  rw [← hwa]
  clear hwa
  have kx : Kept [] wa wa.drew := (Kept.refl [] wa).drew
  go_upto_region 5 with fail
  go_region_held3 (fun w' => w'.cell? ⟨w.heap.size, 0, none⟩ = some (.int .i64 2) ∧ w'.cell? ⟨w.heap.size, 1, none⟩ = some (.int .i64 birth) ∧ w'.cell? ⟨w.heap.size, 2, none⟩ = some (.int .i64 prev) ∧ w'.cell? ⟨w.heap.size, 3, none⟩ = some (.int .i64 id) ∧ w'.cell? ⟨w.heap.size, 4, none⟩ = some (.int .i64 page) ∧ w'.cell? ⟨w.heap.size, 5, none⟩ = some (.int .i64 frm) ∧ w'.cell? ⟨w.heap.size, 6, none⟩ = some (.slice pb before.length cb) ∧ w'.cell? ⟨w.heap.size, 7, none⟩ = some (.slice pa after.length ca) ∧ w'.cell? ⟨w.heap.size, 8, none⟩ = some (.int .i64 next) ∧ w'.cell? ⟨w.heap.size, 9, none⟩ = some (.slice pr rows.length cr) ∧ w'.cell? ⟨w.heap.size, 10, none⟩ = some (.slice pd dirty.length cd))
    (first | (with_reducible exact ⟨kx.cell c0 (by simp), kx.cell c1 (by simp), kx.cell c2 (by simp), kx.cell c3 (by simp), kx.cell c4 (by simp), kx.cell c5 (by simp), kx.cell c6 (by simp), kx.cell c7 (by simp), kx.cell c8 (by simp), kx.cell c9 (by simp), kx.cell c10 (by simp)⟩) | (with_reducible exact ⟨(kx.alloc _).cell c0 (by simp), (kx.alloc _).cell c1 (by simp), (kx.alloc _).cell c2 (by simp), (kx.alloc _).cell c3 (by simp), (kx.alloc _).cell c4 (by simp), (kx.alloc _).cell c5 (by simp), (kx.alloc _).cell c6 (by simp), (kx.alloc _).cell c7 (by simp), (kx.alloc _).cell c8 (by simp), (kx.alloc _).cell c9 (by simp), (kx.alloc _).cell c10 (by simp)⟩) | fail)
    (first
      | (go_at_call 51; refine (hRB _ (KA.out.then kx)).mono ?_; rintro e w1 ⟨u1, rfl, a1⟩; obtain ⟨p1, q1, rfl⟩ := own_shape2 a1.1; replace kx := kx.then a1.2)
      | (go_at_call 28; refine (qJoin _ [RB, before, after] _ (Bss.lit3 w1 _ _ _ _ _ _ _ a1.bs (HB.out.kept (KA.out.then kx)) (HAF.out.kept (KA.out.then kx)) _ rfl) HLN.out).mono ?_; rintro e wj ⟨uj, rfl, aj⟩; have ky := kx; replace kx := (kx.alloc _).then aj.2)
      | fail)
  have REL := @hideH _ (aj.low ((KA.out.then ky).alloc _))
  clear aj ky kx a1 hRB
  go_wp2
  go_ret
  exact ⟨_, rfl, REL.out⟩
set_option maxRecDepth 20000 in
set_option maxHeartbeats 6400000 in
theorem qKind_3 (V : RV) (birth prev id page frm : Int) (before after : List UInt8) (next : Int) (rows : List RowR) (dirty : List RecR) (w : World) (h : SeeR w V (⟨3, birth, prev, id, page, frm, before, after, next, rows, dirty⟩ : Rcd)) (hR : (⟨3, birth, prev, id, page, frm, before, after, next, rows, dirty⟩ : Rcd).Right) : Calls Try.prog 31 #[(⟨3, birth, prev, id, page, frm, before, after, next, rows, dirty⟩ : Rcd).agg V] w fun e w' => ∃ u, e = .returned u ∧ Acc w w' u (tailB (⟨3, birth, prev, id, page, frm, before, after, next, rows, dirty⟩ : Rcd)) := by
  obtain ⟨pb, cb, pa, ca, pr, cr, pd, cd, rfl⟩ := h.shapes
  have hrg : rangedOk (⟨3, birth, prev, id, page, frm, before, after, next, rows, dirty⟩ : Rcd) := by have q := hR.2.2.2.2.2.1; simp at q; exact q
  have hRB := fun wz (kz : Kept [] w wz) => qRangeB (⟨.slice pb before.length cb, .slice pa after.length ca, .slice pr rows.length cr, .slice pd dirty.length cd⟩ : RV) (⟨3, birth, prev, id, page, frm, before, after, next, rows, dirty⟩ : Rcd) wz (h.kept kz) hrg
  have hnx : nextOk next := by have q := hR.2.2.2.2.1; simp at q; exact q
  have h8 := fun w => qEight next w hnx.1 hnx.2
  have eT : tailB (⟨3, birth, prev, id, page, frm, before, after, next, rows, dirty⟩ : Rcd) = flat [rangeB (⟨3, birth, prev, id, page, frm, before, after, next, rows, dirty⟩ : Rcd), after, putN 8 next.toNat] := by rw [flat3]; unfold tailB rangeB; simp
  have HLN := @hideH _ (show (flat [rangeB (⟨3, birth, prev, id, page, frm, before, after, next, rows, dirty⟩ : Rcd), after, putN 8 next.toNat]).length ≤ 100000 by rw [flat3]; simp only [List.length_append, rangeB_length, putN_length]; have q1 := hrg.2.1.2; simp only at q1; omega)
  rw [eT]
  have HB := @hideH _ h.before
  have HAF := @hideH _ h.after
  clear eT hrg hR h hnx
  unfold Rcd.agg at hRB ⊢
  dsimp only at hRB HB HAF ⊢
  generalize rangeB (⟨3, birth, prev, id, page, frm, before, after, next, rows, dirty⟩ : Rcd) = RB at hRB HLN ⊢
  obtain ⟨wa, hwa⟩ : ∃ wa, wa = w.alloc (.cells #[.int .i64 3, .int .i64 birth, .int .i64 prev, .int .i64 id, .int .i64 page, .int .i64 frm, .slice pb before.length cb, .slice pa after.length ca, .int .i64 next, .slice pr rows.length cr, .slice pd dirty.length cd] 26) := ⟨_, rfl⟩
  have ba : Blk wa w.heap.size 26 [.int .i64 3, .int .i64 birth, .int .i64 prev, .int .i64 id, .int .i64 page, .int .i64 frm, .slice pb before.length cb, .slice pa after.length ca, .int .i64 next, .slice pr rows.length cr, .slice pd dirty.length cd] := by rw [hwa]; exact Blk.new w _ _
  have KA := @hideH _ (show Kept [] w wa by rw [hwa]; exact (Kept.refl [] w).alloc _)
  have c0 := ba.cell (j := 0) rfl
  have c1 := ba.cell (j := 1) rfl
  have c2 := ba.cell (j := 2) rfl
  have c3 := ba.cell (j := 3) rfl
  have c4 := ba.cell (j := 4) rfl
  have c5 := ba.cell (j := 5) rfl
  have c6 := ba.cell (j := 6) rfl
  have c7 := ba.cell (j := 7) rfl
  have c8 := ba.cell (j := 8) rfl
  have c9 := ba.cell (j := 9) rfl
  have c10 := ba.cell (j := 10) rfl
  have HBA := @hideH _ ba
  clear ba
  go_enter Try.func31, Try.ntmps31
  go_upto_region 1 with fail
  rw [← hwa]
  clear hwa
  have kx : Kept [] wa wa.drew := (Kept.refl [] wa).drew
  go_upto_region 7 with fail
  go_region_held3 (fun w' => w'.cell? ⟨w.heap.size, 0, none⟩ = some (.int .i64 3) ∧ w'.cell? ⟨w.heap.size, 1, none⟩ = some (.int .i64 birth) ∧ w'.cell? ⟨w.heap.size, 2, none⟩ = some (.int .i64 prev) ∧ w'.cell? ⟨w.heap.size, 3, none⟩ = some (.int .i64 id) ∧ w'.cell? ⟨w.heap.size, 4, none⟩ = some (.int .i64 page) ∧ w'.cell? ⟨w.heap.size, 5, none⟩ = some (.int .i64 frm) ∧ w'.cell? ⟨w.heap.size, 6, none⟩ = some (.slice pb before.length cb) ∧ w'.cell? ⟨w.heap.size, 7, none⟩ = some (.slice pa after.length ca) ∧ w'.cell? ⟨w.heap.size, 8, none⟩ = some (.int .i64 next) ∧ w'.cell? ⟨w.heap.size, 9, none⟩ = some (.slice pr rows.length cr) ∧ w'.cell? ⟨w.heap.size, 10, none⟩ = some (.slice pd dirty.length cd))
    (first | (with_reducible exact ⟨kx.cell c0 (by simp), kx.cell c1 (by simp), kx.cell c2 (by simp), kx.cell c3 (by simp), kx.cell c4 (by simp), kx.cell c5 (by simp), kx.cell c6 (by simp), kx.cell c7 (by simp), kx.cell c8 (by simp), kx.cell c9 (by simp), kx.cell c10 (by simp)⟩) | (with_reducible exact ⟨(kx.alloc _).cell c0 (by simp), (kx.alloc _).cell c1 (by simp), (kx.alloc _).cell c2 (by simp), (kx.alloc _).cell c3 (by simp), (kx.alloc _).cell c4 (by simp), (kx.alloc _).cell c5 (by simp), (kx.alloc _).cell c6 (by simp), (kx.alloc _).cell c7 (by simp), (kx.alloc _).cell c8 (by simp), (kx.alloc _).cell c9 (by simp), (kx.alloc _).cell c10 (by simp)⟩) | fail)
    (first
      | (go_at_call 51; refine (hRB _ (KA.out.then kx)).mono ?_; rintro e w1 ⟨u1, rfl, a1⟩; obtain ⟨p1, q1, rfl⟩ := own_shape2 a1.1; replace kx := kx.then a1.2)
      | (go_at_call 30; refine (h8 _).mono ?_; rintro e w2 ⟨u2, rfl, a2⟩; obtain ⟨p2, q2, rfl⟩ := own_shape2 a2.1; replace kx := kx.then a2.2)
      | (go_at_call 28; refine (qJoin _ [RB, after, putN 8 next.toNat] _ (Bss.lit3 w2 _ _ _ _ _ _ _ (a1.then a2.2).bs (HAF.out.kept (KA.out.then kx)) a2.bs _ rfl) HLN.out).mono ?_; rintro e wj ⟨uj, rfl, aj⟩; have ky := kx; replace kx := (kx.alloc _).then aj.2)
      | fail)
  have REL := @hideH _ (aj.low ((KA.out.then ky).alloc _))
  clear aj ky kx a1 a2 h8 hRB
  go_wp2
  go_ret
  exact ⟨_, rfl, REL.out⟩
set_option maxRecDepth 20000 in
set_option maxHeartbeats 6400000 in
theorem qKind_4 (V : RV) (birth prev id page frm : Int) (before after : List UInt8) (next : Int) (rows : List RowR) (dirty : List RecR) (w : World) (h : SeeR w V (⟨4, birth, prev, id, page, frm, before, after, next, rows, dirty⟩ : Rcd)) (hR : (⟨4, birth, prev, id, page, frm, before, after, next, rows, dirty⟩ : Rcd).Right) : Calls Try.prog 31 #[(⟨4, birth, prev, id, page, frm, before, after, next, rows, dirty⟩ : Rcd).agg V] w fun e w' => ∃ u, e = .returned u ∧ Acc w w' u (tailB (⟨4, birth, prev, id, page, frm, before, after, next, rows, dirty⟩ : Rcd)) := by
  obtain ⟨pb, cb, pa, ca, pr, cr, pd, cd, rfl⟩ := h.shapes
  have eT : tailB (⟨4, birth, prev, id, page, frm, before, after, next, rows, dirty⟩ : Rcd) = [] := by unfold tailB; simp
  rw [eT]
  clear eT hR h
  unfold Rcd.agg
  dsimp only
  obtain ⟨wa, hwa⟩ : ∃ wa, wa = w.alloc (.cells #[.int .i64 4, .int .i64 birth, .int .i64 prev, .int .i64 id, .int .i64 page, .int .i64 frm, .slice pb before.length cb, .slice pa after.length ca, .int .i64 next, .slice pr rows.length cr, .slice pd dirty.length cd] 26) := ⟨_, rfl⟩
  have ba : Blk wa w.heap.size 26 [.int .i64 4, .int .i64 birth, .int .i64 prev, .int .i64 id, .int .i64 page, .int .i64 frm, .slice pb before.length cb, .slice pa after.length ca, .int .i64 next, .slice pr rows.length cr, .slice pd dirty.length cd] := by rw [hwa]; exact Blk.new w _ _
  have KA := @hideH _ (show Kept [] w wa by rw [hwa]; exact (Kept.refl [] w).alloc _)
  have c0 := ba.cell (j := 0) rfl
  have c1 := ba.cell (j := 1) rfl
  have c2 := ba.cell (j := 2) rfl
  have c3 := ba.cell (j := 3) rfl
  have c4 := ba.cell (j := 4) rfl
  have c5 := ba.cell (j := 5) rfl
  have c6 := ba.cell (j := 6) rfl
  have c7 := ba.cell (j := 7) rfl
  have c8 := ba.cell (j := 8) rfl
  have c9 := ba.cell (j := 9) rfl
  have c10 := ba.cell (j := 10) rfl
  have HBA := @hideH _ ba
  clear ba
  go_enter Try.func31, Try.ntmps31
  go_upto_region 1 with fail
  rw [← hwa]
  clear hwa
  go_wp2
  go_ret
  exact ⟨_, rfl, Acc.nil KA.out⟩
set_option maxRecDepth 20000 in
set_option maxHeartbeats 6400000 in
theorem qKind_5 (V : RV) (birth prev id page frm : Int) (before after : List UInt8) (next : Int) (rows : List RowR) (dirty : List RecR) (w : World) (h : SeeR w V (⟨5, birth, prev, id, page, frm, before, after, next, rows, dirty⟩ : Rcd)) (hR : (⟨5, birth, prev, id, page, frm, before, after, next, rows, dirty⟩ : Rcd).Right) : Calls Try.prog 31 #[(⟨5, birth, prev, id, page, frm, before, after, next, rows, dirty⟩ : Rcd).agg V] w fun e w' => ∃ u, e = .returned u ∧ Acc w w' u (tailB (⟨5, birth, prev, id, page, frm, before, after, next, rows, dirty⟩ : Rcd)) := by
  obtain ⟨pb, cb, pa, ca, pr, cr, pd, cd, rfl⟩ := h.shapes
  have eT : tailB (⟨5, birth, prev, id, page, frm, before, after, next, rows, dirty⟩ : Rcd) = [] := by unfold tailB; simp
  rw [eT]
  clear eT hR h
  unfold Rcd.agg
  dsimp only
  obtain ⟨wa, hwa⟩ : ∃ wa, wa = w.alloc (.cells #[.int .i64 5, .int .i64 birth, .int .i64 prev, .int .i64 id, .int .i64 page, .int .i64 frm, .slice pb before.length cb, .slice pa after.length ca, .int .i64 next, .slice pr rows.length cr, .slice pd dirty.length cd] 26) := ⟨_, rfl⟩
  have ba : Blk wa w.heap.size 26 [.int .i64 5, .int .i64 birth, .int .i64 prev, .int .i64 id, .int .i64 page, .int .i64 frm, .slice pb before.length cb, .slice pa after.length ca, .int .i64 next, .slice pr rows.length cr, .slice pd dirty.length cd] := by rw [hwa]; exact Blk.new w _ _
  have KA := @hideH _ (show Kept [] w wa by rw [hwa]; exact (Kept.refl [] w).alloc _)
  have c0 := ba.cell (j := 0) rfl
  have c1 := ba.cell (j := 1) rfl
  have c2 := ba.cell (j := 2) rfl
  have c3 := ba.cell (j := 3) rfl
  have c4 := ba.cell (j := 4) rfl
  have c5 := ba.cell (j := 5) rfl
  have c6 := ba.cell (j := 6) rfl
  have c7 := ba.cell (j := 7) rfl
  have c8 := ba.cell (j := 8) rfl
  have c9 := ba.cell (j := 9) rfl
  have c10 := ba.cell (j := 10) rfl
  have HBA := @hideH _ ba
  clear ba
  go_enter Try.func31, Try.ntmps31
  go_upto_region 1 with fail
  rw [← hwa]
  clear hwa
  go_wp2
  go_ret
  exact ⟨_, rfl, Acc.nil KA.out⟩
set_option maxRecDepth 20000 in
set_option maxHeartbeats 6400000 in
theorem qKind_6 (V : RV) (birth prev id page frm : Int) (before after : List UInt8) (next : Int) (rows : List RowR) (dirty : List RecR) (w : World) (h : SeeR w V (⟨6, birth, prev, id, page, frm, before, after, next, rows, dirty⟩ : Rcd)) (hR : (⟨6, birth, prev, id, page, frm, before, after, next, rows, dirty⟩ : Rcd).Right) : Calls Try.prog 31 #[(⟨6, birth, prev, id, page, frm, before, after, next, rows, dirty⟩ : Rcd).agg V] w fun e w' => ∃ u, e = .returned u ∧ Acc w w' u (tailB (⟨6, birth, prev, id, page, frm, before, after, next, rows, dirty⟩ : Rcd)) := by
  obtain ⟨pb, cb, pa, ca, pr, cr, pd, cd, rfl⟩ := h.shapes
  have eT : tailB (⟨6, birth, prev, id, page, frm, before, after, next, rows, dirty⟩ : Rcd) = [] := by unfold tailB; simp
  rw [eT]
  clear eT hR h
  unfold Rcd.agg
  dsimp only
  obtain ⟨wa, hwa⟩ : ∃ wa, wa = w.alloc (.cells #[.int .i64 6, .int .i64 birth, .int .i64 prev, .int .i64 id, .int .i64 page, .int .i64 frm, .slice pb before.length cb, .slice pa after.length ca, .int .i64 next, .slice pr rows.length cr, .slice pd dirty.length cd] 26) := ⟨_, rfl⟩
  have ba : Blk wa w.heap.size 26 [.int .i64 6, .int .i64 birth, .int .i64 prev, .int .i64 id, .int .i64 page, .int .i64 frm, .slice pb before.length cb, .slice pa after.length ca, .int .i64 next, .slice pr rows.length cr, .slice pd dirty.length cd] := by rw [hwa]; exact Blk.new w _ _
  have KA := @hideH _ (show Kept [] w wa by rw [hwa]; exact (Kept.refl [] w).alloc _)
  have c0 := ba.cell (j := 0) rfl
  have c1 := ba.cell (j := 1) rfl
  have c2 := ba.cell (j := 2) rfl
  have c3 := ba.cell (j := 3) rfl
  have c4 := ba.cell (j := 4) rfl
  have c5 := ba.cell (j := 5) rfl
  have c6 := ba.cell (j := 6) rfl
  have c7 := ba.cell (j := 7) rfl
  have c8 := ba.cell (j := 8) rfl
  have c9 := ba.cell (j := 9) rfl
  have c10 := ba.cell (j := 10) rfl
  have HBA := @hideH _ ba
  clear ba
  go_enter Try.func31, Try.ntmps31
  go_upto_region 1 with fail
  rw [← hwa]
  clear hwa
  go_wp2
  go_ret
  exact ⟨_, rfl, Acc.nil KA.out⟩
set_option maxRecDepth 20000 in
set_option maxHeartbeats 6400000 in
theorem qKind_7 (V : RV) (birth prev id page frm : Int) (before after : List UInt8) (next : Int) (rows : List RowR) (dirty : List RecR) (w : World) (h : SeeR w V (⟨7, birth, prev, id, page, frm, before, after, next, rows, dirty⟩ : Rcd)) (hR : (⟨7, birth, prev, id, page, frm, before, after, next, rows, dirty⟩ : Rcd).Right) : Calls Try.prog 31 #[(⟨7, birth, prev, id, page, frm, before, after, next, rows, dirty⟩ : Rcd).agg V] w fun e w' => ∃ u, e = .returned u ∧ Acc w w' u (tailB (⟨7, birth, prev, id, page, frm, before, after, next, rows, dirty⟩ : Rcd)) := by
  obtain ⟨pb, cb, pa, ca, pr, cr, pd, cd, rfl⟩ := h.shapes
  have hls := (listsOk_iff (⟨7, birth, prev, id, page, frm, before, after, next, rows, dirty⟩ : Rcd)).1 (by have q := hR.2.2.2.1; simp at q; exact q)
  have ht := fun wz (kz : Kept [] w wz) => qTableB _ rows wz (h.rows.kept kz) hls.1
  have hd := fun wz (kz : Kept [] w wz) => qDirtyB _ dirty wz (h.dirty.kept kz) hls.2
  have eT : tailB (⟨7, birth, prev, id, page, frm, before, after, next, rows, dirty⟩ : Rcd) = flat [putN 1 rows.length ++ flatB rowB rows, putN 1 dirty.length ++ flatB recB dirty] := by rw [flat2]; unfold tailB; simp
  have HLN := @hideH _ (show (flat [putN 1 rows.length ++ flatB rowB rows, putN 1 dirty.length ++ flatB recB dirty]).length ≤ 100000 by rw [flat2]; simp only [List.length_append, putN_length]; rw [flatB_len rowB 26 _ (fun x _ => rowB_len x), flatB_len recB 9 _ (fun x _ => recB_len x)]; have q1 := hls.1.1; have q2 := hls.2.1; simp only at q1 q2; omega)
  rw [eT]
  clear eT hls hR h
  unfold Rcd.agg
  dsimp only at ht hd ⊢
  generalize putN 1 rows.length ++ flatB rowB rows = TB at ht HLN ⊢
  generalize putN 1 dirty.length ++ flatB recB dirty = DB at hd HLN ⊢
  obtain ⟨wa, hwa⟩ : ∃ wa, wa = w.alloc (.cells #[.int .i64 7, .int .i64 birth, .int .i64 prev, .int .i64 id, .int .i64 page, .int .i64 frm, .slice pb before.length cb, .slice pa after.length ca, .int .i64 next, .slice pr rows.length cr, .slice pd dirty.length cd] 26) := ⟨_, rfl⟩
  have ba : Blk wa w.heap.size 26 [.int .i64 7, .int .i64 birth, .int .i64 prev, .int .i64 id, .int .i64 page, .int .i64 frm, .slice pb before.length cb, .slice pa after.length ca, .int .i64 next, .slice pr rows.length cr, .slice pd dirty.length cd] := by rw [hwa]; exact Blk.new w _ _
  have KA := @hideH _ (show Kept [] w wa by rw [hwa]; exact (Kept.refl [] w).alloc _)
  have c0 := ba.cell (j := 0) rfl
  have c1 := ba.cell (j := 1) rfl
  have c2 := ba.cell (j := 2) rfl
  have c3 := ba.cell (j := 3) rfl
  have c4 := ba.cell (j := 4) rfl
  have c5 := ba.cell (j := 5) rfl
  have c6 := ba.cell (j := 6) rfl
  have c7 := ba.cell (j := 7) rfl
  have c8 := ba.cell (j := 8) rfl
  have c9 := ba.cell (j := 9) rfl
  have c10 := ba.cell (j := 10) rfl
  have HBA := @hideH _ ba
  clear ba
  go_enter Try.func31, Try.ntmps31
  go_upto_region 1 with fail
  rw [← hwa]
  clear hwa
  have kx : Kept [] wa wa.drew := (Kept.refl [] wa).drew
  go_upto_region 9 with fail
  go_region_held3 (fun w' => w'.cell? ⟨w.heap.size, 9, none⟩ = some (.slice pr rows.length cr) ∧ w'.cell? ⟨w.heap.size, 10, none⟩ = some (.slice pd dirty.length cd))
    (first | (with_reducible exact ⟨kx.cell c9 (by simp), kx.cell c10 (by simp)⟩) | (with_reducible exact ⟨(kx.alloc _).cell c9 (by simp), (kx.alloc _).cell c10 (by simp)⟩) | fail)
    (first
      | (go_at_call 52; refine (ht _ (KA.out.then kx)).mono ?_; rintro e w1 ⟨u1, rfl, a1⟩; obtain ⟨p1, q1, rfl⟩ := own_shape2 a1.1; replace kx := kx.then a1.2)
      | (go_at_call 53; refine (hd _ (KA.out.then kx)).mono ?_; rintro e w2 ⟨u2, rfl, a2⟩; obtain ⟨p2, q2, rfl⟩ := own_shape2 a2.1; replace kx := kx.then a2.2)
      | (go_at_call 28; refine (qJoin _ [TB, DB] _ (Bss.lit2 w2 _ _ _ _ _ (a1.then a2.2).bs a2.bs _ rfl) HLN.out).mono ?_; rintro e wj ⟨uj, rfl, aj⟩; have ky := kx; replace kx := (kx.alloc _).then aj.2)
      | fail)
  have REL := @hideH _ (aj.low ((KA.out.then ky).alloc _))
  clear aj ky kx a1 a2 ht hd
  go_wp2
  go_ret
  exact ⟨_, rfl, REL.out⟩
theorem qKind (V : RV) (r : Rcd) (w : World) (h : SeeR w V r) (hR : r.Right) : Calls Try.prog 31 #[r.agg V] w fun e w' => ∃ u, e = .returned u ∧ Acc w w' u (tailB r) := by
  obtain ⟨kind, birth, prev, id, page, frm, before, after, next, rows, dirty⟩ := r
  have : kind = 1 ∨ kind = 2 ∨ kind = 3 ∨ kind = 4 ∨ kind = 5 ∨ kind = 6 ∨ kind = 7 := by have hk := hR.1; simp only at hk; omega
  rcases this with rfl | rfl | rfl | rfl | rfl | rfl | rfl
  · exact qKind_1 V birth prev id page frm before after next rows dirty w h hR
  · exact qKind_2 V birth prev id page frm before after next rows dirty w h hR
  · exact qKind_3 V birth prev id page frm before after next rows dirty w h hR
  · exact qKind_4 V birth prev id page frm before after next rows dirty w h hR
  · exact qKind_5 V birth prev id page frm before after next rows dirty w h hR
  · exact qKind_6 V birth prev id page frm before after next rows dirty w h hR
  · exact qKind_7 V birth prev id page frm before after next rows dirty w h hR
end Go.Proofs.Ytebcmcmboomgfaa

/-
  OWN WORK. The laws of record: size, by the table.
-/
namespace Go.Proofs.Ytebcmcmboomgfaa
open Go.RowKit
set_option linter.unusedVariables false
set_option linter.unusedSimpArgs false

theorem flatB_length {α : Type} {f : α → List UInt8} {n : Nat} (h : ∀ a, (f a).length = n) : ∀ (l : List α), (flatB f l).length = n * l.length
  | [] => by simp [flatB]
  | a :: r => by simp [flatB, h a, flatB_length h r, Nat.mul_add, Nat.add_comm]
theorem rowB_length (x : RowR) : (rowB x).length = 26 := by simp [rowB, putN_length]
theorem recB_length (x : RecR) : (recB x).length = 9 := by simp [recB, putN_length]
/-- the table -/
def sizeT (r : Rcd) : Nat := if r.kind = 1 then 18 else if r.kind = 2 then 22 + 2 * r.after.length else if r.kind = 3 then 30 + r.after.length else if r.kind = 7 then 19 + 26 * r.rows.length + 9 * r.dirty.length else 17
theorem bytesR_length {r : Rcd} (h : r.Right) : (bytesR r).length = sizeT r := by
  obtain ⟨-, -, -, -, -, -, hp⟩ := h
  unfold bytesR sizeT tailB
  by_cases h1 : r.kind = 1
  · simp [h1, putN_length]
  by_cases h2 : r.kind = 2
  · rw [if_pos h2] at hp
    have := hp.1
    simp [h1, h2, putN_length]
    omega
  by_cases h3 : r.kind = 3
  · simp [h1, h2, h3, putN_length]
    omega
  by_cases h7 : r.kind = 7
  · simp [h1, h2, h3, h7, putN_length, flatB_length rowB_length, flatB_length recB_length]
    omega
  · simp [h1, h2, h3, h7, putN_length]
set_option maxRecDepth 20000 in
set_option maxHeartbeats 3200000 in
theorem size_any (V : RV) (r : Rcd) (w : World) (h : SeeR w V r) (hR : r.Right) : Calls Try.prog 15 #[r.agg V] w fun e w' => e = .returned (.int .i64 ((bytesR r).length : Int)) ∧ Kept [] w w' := by
  rw [bytesR_length hR]
  obtain ⟨pb, cb, pa, ca, pr, cr, pd, cd, rfl⟩ := h.shapes
  have hma : r.after.length ≤ maxLen := by obtain ⟨_, _, e, h1, h2, _⟩ := h.after; cases e; exact Nat.le_trans h1 h2
  have hlim : (r.kind = 7 → r.rows.length ≤ 8 ∧ r.dirty.length ≤ 16) ∧ r.after.length ≤ 140737488355328 ∨ True := .inr trivial
  have h8 : r.kind = 7 → r.rows.length ≤ 8 ∧ r.dirty.length ≤ 16 := fun e => by have := hR.2.2.2.1; rw [if_pos e] at this; exact this.1
  have ha8 : r.kind = 2 ∨ r.kind = 3 → r.after.length ≤ 128 := fun e => by have := hR.2.2.2.2.2.1; rw [if_pos e] at this; exact this.2.1.2
  obtain ⟨kind, birth, prev, id, page, frm, before, after, next, rows, dirty⟩ := r
  clear h hR hma hlim
  unfold Rcd.agg sizeT
  dsimp only at h8 ha8 ⊢
  obtain ⟨na, hna⟩ : ∃ na, na = after.length := ⟨_, rfl⟩
  obtain ⟨nr, hnr⟩ : ∃ nr, nr = rows.length := ⟨_, rfl⟩
  obtain ⟨nd, hnd⟩ : ∃ nd, nd = dirty.length := ⟨_, rfl⟩
  rw [← hna] at ha8
  rw [← hnr, ← hnd] at h8
  simp only [← hna, ← hnr, ← hnd]
  clear hna hnr hnd
  by_cases h1 : kind = 1
  · subst h1
    clear h8 ha8
    go_enter Try.func15, Try.ntmps15
    go_wp2
    go_ret
    exact ⟨rfl, (Kept.refl [] w).alloc _⟩
  have e1 : (kind == 1) = false := by simp [h1]
  by_cases h2 : kind = 2
  · subst h2
    have hb := ha8 (.inl rfl)
    have w1 : IntKind.i64.wrap (2 * (na : Int)) = 2 * (na : Int) := wrap_i64_of (by omega) (by omega)
    have w2 : IntKind.i64.wrap (22 + 2 * (na : Int)) = 22 + 2 * (na : Int) := wrap_i64_of (by omega) (by omega)
    clear h8 ha8 hb
    go_enter Try.func15, Try.ntmps15
    go_wp2
    go_ret
    exact ⟨by simp, (Kept.refl [] w).alloc _⟩
  have e2 : (kind == 2) = false := by simp [h2]
  by_cases h3 : kind = 3
  · subst h3
    have hb := ha8 (.inr rfl)
    have w2 : IntKind.i64.wrap (30 + (na : Int)) = 30 + (na : Int) := wrap_i64_of (by omega) (by omega)
    clear h8 ha8 hb
    go_enter Try.func15, Try.ntmps15
    go_wp2
    go_ret
    exact ⟨by simp, (Kept.refl [] w).alloc _⟩
  have e3 : (kind == 3) = false := by simp [h3]
  by_cases h7 : kind = 7
  · subst h7
    have hb := h8 rfl
    have w1 : IntKind.i64.wrap (26 * (nr : Int)) = 26 * (nr : Int) := wrap_i64_of (by omega) (by omega)
    have w2 : IntKind.i64.wrap (19 + 26 * (nr : Int)) = 19 + 26 * (nr : Int) := wrap_i64_of (by omega) (by omega)
    have w3 : IntKind.i64.wrap (9 * (nd : Int)) = 9 * (nd : Int) := wrap_i64_of (by omega) (by omega)
    have w4 : IntKind.i64.wrap (19 + 26 * (nr : Int) + 9 * (nd : Int)) = 19 + 26 * (nr : Int) + 9 * (nd : Int) := wrap_i64_of (by omega) (by omega)
    clear h8 ha8 hb
    go_enter Try.func15, Try.ntmps15
    go_wp2
    go_ret
    exact ⟨by simp, (Kept.refl [] w).alloc _⟩
  have e7 : (kind == 7) = false := by simp [h7]
  rw [if_neg h1, if_neg h2, if_neg h3, if_neg h7]
  clear h8 ha8
  go_enter Try.func15, Try.ntmps15
  go_wp2
  go_ret
  exact ⟨rfl, (Kept.refl [] w).alloc _⟩
end Go.Proofs.Ytebcmcmboomgfaa

/-
  OWN WORK (by mkpr4.py). record: Bytes, Size.
-/
namespace Go.Proofs.Ytebcmcmboomgfaa
open Go.RowKit
set_option linter.unusedVariables false
set_option linter.unusedSimpArgs false

theorem right_nums {r : Rcd} (h : r.Right) : (0 ≤ r.kind ∧ r.kind < 256) ∧ (0 ≤ r.birth ∧ r.birth ≤ 1152921504606846976) ∧ 0 ≤ r.prev ∧ r.prev ≤ 1152921504606846976 := by
  obtain ⟨⟨k1, k2⟩, hb, -⟩ := h
  refine ⟨by omega, ?_⟩
  split at hb
  · omega
  · obtain ⟨⟨a, a2⟩, b, b2⟩ := hb; omega
theorem bytesR_flat (r : Rcd) : bytesR r = flat [putN 1 r.kind.toNat, putN 8 r.birth.toNat, putN 8 r.prev.toNat, tailB r] := by rw [flat4]; rfl
theorem bytesR_small {r : Rcd} (h : r.Right) : (bytesR r).length ≤ 371 := by
  rw [bytesR_length h]
  unfold sizeT
  obtain ⟨-, -, -, hl, -, hr, -⟩ := h
  split
  · omega
  split
  · rename_i h2; simp [h2] at hr; have := hr.2.1.2; omega
  split
  · rename_i h3; simp [h3] at hr; have := hr.2.1.2; omega
  split
  · rename_i h7; simp [h7] at hl; have := hl.1; omega
  · omega
set_option maxRecDepth 20000 in
set_option maxHeartbeats 6400000 in
theorem qBytes_right (V : RV) (kind birth prev id page frm : Int) (before after : List UInt8) (next : Int) (rows : List RowR) (dirty : List RecR) (w : World) (h : SeeR w V (⟨kind, birth, prev, id, page, frm, before, after, next, rows, dirty⟩ : Rcd)) (hR : (⟨kind, birth, prev, id, page, frm, before, after, next, rows, dirty⟩ : Rcd).Right) : Calls Try.prog 10 #[(⟨kind, birth, prev, id, page, frm, before, after, next, rows, dirty⟩ : Rcd).agg V] w fun e w' => ∃ u, e = .returned (.tuple #[u, .int .i64 0]) ∧ Acc w w' u (bytesR (⟨kind, birth, prev, id, page, frm, before, after, next, rows, dirty⟩ : Rcd)) := by
  obtain ⟨pb, cb, pa, ca, pr, cr, pd, cd, rfl⟩ := h.shapes
  have hrt := fun wz (kz : Kept [] w wz) => qRight _ (⟨kind, birth, prev, id, page, frm, before, after, next, rows, dirty⟩ : Rcd) wz (h.kept kz)
  simp only [bl_t hR] at hrt
  have hkd := fun wz (kz : Kept [] w wz) => qKind _ (⟨kind, birth, prev, id, page, frm, before, after, next, rows, dirty⟩ : Rcd) wz (h.kept kz) hR
  have hn := right_nums hR
  simp only at hn
  have h1 := fun w => qOne kind w hn.1.1 hn.1.2
  have h2 := fun w => qEight birth w hn.2.1.1 hn.2.1.2
  have h3 := fun w => qEight prev w hn.2.2.1 hn.2.2.2
  have HLN := @hideH _ (show (flat [putN 1 kind.toNat, putN 8 birth.toNat, putN 8 prev.toNat, tailB (⟨kind, birth, prev, id, page, frm, before, after, next, rows, dirty⟩ : Rcd)]).length ≤ 100000 by have q := bytesR_small hR; rw [bytesR_flat] at q; simp only at q; omega)
  rw [bytesR_flat (⟨kind, birth, prev, id, page, frm, before, after, next, rows, dirty⟩ : Rcd)]
  clear hn hR h
  unfold Rcd.agg at hrt hkd ⊢
  dsimp only at hrt hkd ⊢
  generalize tailB (⟨kind, birth, prev, id, page, frm, before, after, next, rows, dirty⟩ : Rcd) = TB at hkd HLN ⊢
  obtain ⟨wa, hwa⟩ : ∃ wa, wa = w.alloc (.cells #[.int .i64 kind, .int .i64 birth, .int .i64 prev, .int .i64 id, .int .i64 page, .int .i64 frm, .slice pb before.length cb, .slice pa after.length ca, .int .i64 next, .slice pr rows.length cr, .slice pd dirty.length cd] 26) := ⟨_, rfl⟩
  have ba : Blk wa w.heap.size 26 [.int .i64 kind, .int .i64 birth, .int .i64 prev, .int .i64 id, .int .i64 page, .int .i64 frm, .slice pb before.length cb, .slice pa after.length ca, .int .i64 next, .slice pr rows.length cr, .slice pd dirty.length cd] := by rw [hwa]; exact Blk.new w _ _
  have KA := @hideH _ (show Kept [] w wa by rw [hwa]; exact (Kept.refl [] w).alloc _)
  have c0 := ba.cell (j := 0) rfl
  have c1 := ba.cell (j := 1) rfl
  have c2 := ba.cell (j := 2) rfl
  have c3 := ba.cell (j := 3) rfl
  have c4 := ba.cell (j := 4) rfl
  have c5 := ba.cell (j := 5) rfl
  have c6 := ba.cell (j := 6) rfl
  have c7 := ba.cell (j := 7) rfl
  have c8 := ba.cell (j := 8) rfl
  have c9 := ba.cell (j := 9) rfl
  have c10 := ba.cell (j := 10) rfl
  have HBA := @hideH _ ba
  clear ba
  go_enter Try.func10, Try.ntmps10
  go_upto_region 1 with fail
  rw [← hwa]
  clear hwa
  go_wp2_with fail
  refine (hrt _ KA.out).mono ?_
  rintro e w0 ⟨rfl, k0⟩
  clear hrt
  replace c0 := k0.cell c0 (by simp)
  replace c1 := k0.cell c1 (by simp)
  replace c2 := k0.cell c2 (by simp)
  replace c3 := k0.cell c3 (by simp)
  replace c4 := k0.cell c4 (by simp)
  replace c5 := k0.cell c5 (by simp)
  replace c6 := k0.cell c6 (by simp)
  replace c7 := k0.cell c7 (by simp)
  replace c8 := k0.cell c8 (by simp)
  replace c9 := k0.cell c9 (by simp)
  replace c10 := k0.cell c10 (by simp)
  have KB := @hideH _ (KA.out.then k0)
  clear k0 KA
  have tk : True := trivial
  have kx : Kept [] w0 w0.drew := (Kept.refl [] w0).drew
  go_upto_region 3 with fail
  go_region_held3 (fun w' => w'.cell? ⟨w.heap.size, 0, none⟩ = some (.int .i64 kind) ∧ w'.cell? ⟨w.heap.size, 1, none⟩ = some (.int .i64 birth) ∧ w'.cell? ⟨w.heap.size, 2, none⟩ = some (.int .i64 prev) ∧ w'.cell? ⟨w.heap.size, 3, none⟩ = some (.int .i64 id) ∧ w'.cell? ⟨w.heap.size, 4, none⟩ = some (.int .i64 page) ∧ w'.cell? ⟨w.heap.size, 5, none⟩ = some (.int .i64 frm) ∧ w'.cell? ⟨w.heap.size, 6, none⟩ = some (.slice pb before.length cb) ∧ w'.cell? ⟨w.heap.size, 7, none⟩ = some (.slice pa after.length ca) ∧ w'.cell? ⟨w.heap.size, 8, none⟩ = some (.int .i64 next) ∧ w'.cell? ⟨w.heap.size, 9, none⟩ = some (.slice pr rows.length cr) ∧ w'.cell? ⟨w.heap.size, 10, none⟩ = some (.slice pd dirty.length cd))
    (first | (with_reducible exact ⟨kx.cell c0 (by simp), kx.cell c1 (by simp), kx.cell c2 (by simp), kx.cell c3 (by simp), kx.cell c4 (by simp), kx.cell c5 (by simp), kx.cell c6 (by simp), kx.cell c7 (by simp), kx.cell c8 (by simp), kx.cell c9 (by simp), kx.cell c10 (by simp)⟩) | (with_reducible exact ⟨(kx.alloc _).cell c0 (by simp), (kx.alloc _).cell c1 (by simp), (kx.alloc _).cell c2 (by simp), (kx.alloc _).cell c3 (by simp), (kx.alloc _).cell c4 (by simp), (kx.alloc _).cell c5 (by simp), (kx.alloc _).cell c6 (by simp), (kx.alloc _).cell c7 (by simp), (kx.alloc _).cell c8 (by simp), (kx.alloc _).cell c9 (by simp), (kx.alloc _).cell c10 (by simp)⟩) | fail)
    (first
      | (go_at_call 29; refine (h1 _).mono ?_; rintro e w1 ⟨u1, rfl, a1⟩; obtain ⟨p1, q1, rfl⟩ := own_shape2 a1.1; replace kx := kx.then a1.2)
      | (go_at_call 30; clear tk; refine (h2 _).mono ?_; rintro e w2 ⟨u2, rfl, a2⟩; obtain ⟨p2, q2, rfl⟩ := own_shape2 a2.1; replace kx := kx.then a2.2)
      | (go_at_call 30; refine (h3 _).mono ?_; rintro e w3 ⟨u3, rfl, a3⟩; obtain ⟨p3, q3, rfl⟩ := own_shape2 a3.1; replace kx := kx.then a3.2)
      | (go_at_call 31; refine (hkd _ (KB.out.then kx)).mono ?_; rintro e w4 ⟨u4, rfl, a4⟩; obtain ⟨p4, q4, rfl⟩ := own_shape2 a4.1; replace kx := kx.then a4.2)
      | (go_at_call 28; refine (qJoin _ [putN 1 kind.toNat, putN 8 birth.toNat, putN 8 prev.toNat, TB] _ (Bss.lit4 w4 _ _ _ _ _ _ _ _ _ (((a1.then a2.2).then a3.2).then a4.2).bs ((a2.then a3.2).then a4.2).bs (a3.then a4.2).bs a4.bs _ rfl) HLN.out).mono ?_; rintro e wj ⟨uj, rfl, aj⟩; have ky := kx; replace kx := (kx.alloc _).then aj.2)
      | fail)
  have REL := @hideH _ (aj.low ((KB.out.then ky).alloc _))
  clear aj ky kx a1 a2 a3 a4 h1 h2 h3 hkd
  go_wp2
  go_ret2
  exact ⟨_, rfl, REL.out⟩
set_option maxHeartbeats 1600000 in
theorem qBytes_wrong (V : RV) (kind birth prev id page frm : Int) (before after : List UInt8) (next : Int) (rows : List RowR) (dirty : List RecR) (w : World) (h : SeeR w V (⟨kind, birth, prev, id, page, frm, before, after, next, rows, dirty⟩ : Rcd)) (hR : ¬ (⟨kind, birth, prev, id, page, frm, before, after, next, rows, dirty⟩ : Rcd).Right) : Calls Try.prog 10 #[(⟨kind, birth, prev, id, page, frm, before, after, next, rows, dirty⟩ : Rcd).agg V] w fun e w' => e = .returned (.tuple #[.slice none 0 0, .int .i64 90]) ∧ Kept [] w w' := by
  obtain ⟨pb, cb, pa, ca, pr, cr, pd, cd, rfl⟩ := h.shapes
  have hrt := fun wz (kz : Kept [] w wz) => qRight _ (⟨kind, birth, prev, id, page, frm, before, after, next, rows, dirty⟩ : Rcd) wz (h.kept kz)
  simp only [bl_f hR] at hrt
  clear hR h
  unfold Rcd.agg at hrt ⊢
  dsimp only at hrt ⊢
  obtain ⟨wa, hwa⟩ : ∃ wa, wa = w.alloc (.cells #[.int .i64 kind, .int .i64 birth, .int .i64 prev, .int .i64 id, .int .i64 page, .int .i64 frm, .slice pb before.length cb, .slice pa after.length ca, .int .i64 next, .slice pr rows.length cr, .slice pd dirty.length cd] 26) := ⟨_, rfl⟩
  have ba : Blk wa w.heap.size 26 [.int .i64 kind, .int .i64 birth, .int .i64 prev, .int .i64 id, .int .i64 page, .int .i64 frm, .slice pb before.length cb, .slice pa after.length ca, .int .i64 next, .slice pr rows.length cr, .slice pd dirty.length cd] := by rw [hwa]; exact Blk.new w _ _
  have KA := @hideH _ (show Kept [] w wa by rw [hwa]; exact (Kept.refl [] w).alloc _)
  have c0 := ba.cell (j := 0) rfl
  have c1 := ba.cell (j := 1) rfl
  have c2 := ba.cell (j := 2) rfl
  have c3 := ba.cell (j := 3) rfl
  have c4 := ba.cell (j := 4) rfl
  have c5 := ba.cell (j := 5) rfl
  have c6 := ba.cell (j := 6) rfl
  have c7 := ba.cell (j := 7) rfl
  have c8 := ba.cell (j := 8) rfl
  have c9 := ba.cell (j := 9) rfl
  have c10 := ba.cell (j := 10) rfl
  have HBA := @hideH _ ba
  clear ba
  go_enter Try.func10, Try.ntmps10
  go_upto_region 1 with fail
  rw [← hwa]
  clear hwa
  go_wp2_with fail
  refine (hrt _ KA.out).mono ?_
  rintro e w0 ⟨rfl, k0⟩
  clear hrt
  have KB := @hideH _ (KA.out.then k0)
  clear k0
  go_wp2
  go_ret2
  exact ⟨rfl, KB.out⟩
theorem qBytes (V : RV) (r : Rcd) (w : World) (h : SeeR w V r) : Calls Try.prog 10 #[r.agg V] w fun e w' => ∃ u, e = .returned (.tuple #[u, .int .i64 (errF r)]) ∧ Acc w w' u (bytesF r) := by
  obtain ⟨kind, birth, prev, id, page, frm, before, after, next, rows, dirty⟩ := r
  by_cases hR : (⟨kind, birth, prev, id, page, frm, before, after, next, rows, dirty⟩ : Rcd).Right
  · rw [errF_t hR, bytesF_t hR]
    exact qBytes_right V kind birth prev id page frm before after next rows dirty w h hR
  · rw [errF_f hR, bytesF_f hR]
    refine (qBytes_wrong V kind birth prev id page frm before after next rows dirty w h hR).mono ?_
    rintro e w' ⟨rfl, k⟩
    exact ⟨_, rfl, Acc.nil k⟩
set_option maxHeartbeats 800000 in
theorem qSize (V : RV) (r : Rcd) (w : World) (h : SeeR w V r) : Calls Try.prog 14 #[r.agg V] w fun e w' => e = .returned (.int .i64 ((bytesF r).length : Int)) ∧ Kept [] w w' := by
  obtain ⟨pb, cb, pa, ca, pr, cr, pd, cd, rfl⟩ := h.shapes
  have hb := fun wz (kz : Kept [] w wz) => qBytes _ r wz (h.kept kz)
  clear h
  unfold Rcd.agg at hb ⊢
  dsimp only at hb ⊢
  go_enter Try.func14, Try.ntmps14
  go_wp2_with fail
  refine (hb _ ((Kept.refl [] w).alloc _)).mono ?_
  rintro e w1 ⟨u, rfl, a⟩
  obtain ⟨p, q, rfl⟩ := own_shape2 a.1
  have KE := @hideH _ (((Kept.refl [] w).alloc _).then a.2)
  clear a hb
  go_wp2
  go_ret
  exact ⟨rfl, KE.out⟩
end Go.Proofs.Ytebcmcmboomgfaa

/-
  OWN WORK. record: the deferred function literal of Parse.
-/
namespace Go.Proofs.Ytebcmcmboomgfaa
open Go.RowKit
set_option linter.unusedVariables false
set_option linter.unusedSimpArgs false

theorem catch_idle (p q : Addr) (w : World) :
    CallsD Try.prog 32 #[.pointer (some p), .pointer (some q)] .returning w fun e u' w' => e = .returned (.tuple #[]) ∧ u' = .returning ∧ w' = w := by
  refine callsD_of_wpS Try.func32 rfl fun c₀ cs hu => ?_
  apply wpS_seq
  apply wpS_region
  simp [wpOpsS, go_sem, recoverD, hu, Try.ntmps32, Exit.thenS]
  refine wpS_cond (t := false) (by simp [Act.eval, Array.replicate]) ?_
  simp only [Bool.false_eq_true, if_false]
  refine wpS_of_wp (wp_skip ?_)
  cases c₀
  simp_all [bodyPostS, results, Try.results32]
theorem catch_panic (A E : Nat) (z0 z1 z2 z3 z4 z5 z6 z7 z8 z9 z10 ze : Value) (u : TypeId) (pv : Value) (w : World) (hA : Blk w A 26 [z0, z1, z2, z3, z4, z5, z6, z7, z8, z9, z10]) (hE : Blk w E 28 [ze]) (hne : A ≠ E) :
    CallsD Try.prog 32 #[.pointer (some ⟨A, 0, none⟩), .pointer (some ⟨E, 0, none⟩)] (.panicking [{ v := .iface u pv, recovered := false }]) w fun e u' w' =>
      e = .returned (.tuple #[]) ∧ u' = .panicking [{ v := .iface u pv, recovered := true }] ∧ Blk w' A 26 ((bareR 0 0 0).cl nilV) ∧ Blk w' E 28 [.int .i64 90] ∧ Kept [A, E] w w' := by
  refine callsD_of_wpS Try.func32 rfl fun c₀ cs hu => ?_
  apply wpS_seq
  apply wpS_region
  simp [wpOpsS, go_sem, recoverD, hu, Try.ntmps32, Exit.thenS]
  refine wpS_cond (t := true) (by simp [Act.eval, Array.replicate]) ?_
  simp only [if_true]
  refine wpS_of_wp ?_
  have a0 := hA.cell (j := 0) rfl
  have a1 := hA.cell (j := 1) rfl
  have a2 := hA.cell (j := 2) rfl
  have a3 := hA.cell (j := 3) rfl
  have a4 := hA.cell (j := 4) rfl
  have a5 := hA.cell (j := 5) rfl
  have a6 := hA.cell (j := 6) rfl
  have a7 := hA.cell (j := 7) rfl
  have a8 := hA.cell (j := 8) rfl
  have a9 := hA.cell (j := 9) rfl
  have a10 := hA.cell (j := 10) rfl
  have f0 := hA.free 0
  have f1 := hA.free 1
  have f2 := hA.free 2
  have f3 := hA.free 3
  have f4 := hA.free 4
  have f5 := hA.free 5
  have f6 := hA.free 6
  have f7 := hA.free 7
  have f8 := hA.free 8
  have f9 := hA.free 9
  have f10 := hA.free 10
  have e0 := hE.cell (j := 0) rfl
  have g0 := hE.free 0
  have hEA : E ≠ A := fun q => hne q.symm
  obtain ⟨B1, k1⟩ := hA.fill11 (.int .i64 0) (.int .i64 0) (.int .i64 0) (.int .i64 0) (.int .i64 0) (.int .i64 0) (.slice none 0 0) (.slice none 0 0) (.int .i64 0) (.slice none 0 0) (.slice none 0 0)
  obtain ⟨B2, k2⟩ := (hE.kept k1 (by simpa using hEA)).set 0 (.int .i64 90)
  have B3 := B1.kept k2 (by simpa using hne)
  have FIN := @hideH _ (And.intro B3 (And.intro B2 ((k1.mono (T := [A, E]) (fun x hx => by simp at hx ⊢; exact .inl hx)).trans k2 (fun x hx => .inl (by simp at hx ⊢; exact .inr hx)))))
  clear B1 B2 B3 k1 k2
  go_wp2
  exact ⟨rfl, _, rfl, .tuple #[], by simp [results, Try.results32], rfl, rfl, FIN.out⟩
end Go.Proofs.Ytebcmcmboomgfaa

