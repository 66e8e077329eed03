/-
  OWN WORK. The document's page: Bytes, Slots, place, laid, Slot, Fill, Free.
-/
import Derived.Test.YtoildbbfnhjfoaaRows
import Derived.Deep.QuietTactic
import Derived.BigQuiet
import Derived.Test.YtoildbbfnhjfoaaPageLib
import Derived.Test.YtoildbbfnhjfoaaFam
import Derived.Test.YtoildbbfnhjfoaaRef
import Derived.Test.YtoildbbfnhjfoaaMark
namespace Go.Proofs.Ytoildbbfnhjfoaa
open Go.RowKit
set_option linter.unusedVariables false

theorem refBytes_any (s : Nat) (w : World) (h1 : 1 ≤ s) (h8 : s ≤ 8) :
    Calls Try.prog 47 #[.int .i64 (s : Int)] w fun e w' => e = .returned (.int .i64 (24 + 16 * (s : Int))) ∧ w' = w := by
  have c1 : ¬ (s : Int) < 1 := by omega
  have c2 : ¬ (8 : Int) < (s : Int) := by omega
  have c3 : (s : Int) ≤ 8 := by omega
  go_enter Try.func47, Try.ntmps47
  go_wp2
  go_ret
  exact ⟨rfl, rfl⟩
theorem refSlots_any (u : Value) (a : List UInt8) (w : World) (hu : Bs w u a) :
    Calls Try.prog 35 #[u] w fun e w' => e = .returned (.int .i64 (slotsOf a : Int)) ∧ w' = w := by
  obtain ⟨p, c, rfl, -, h2, -⟩ := hu
  go_enter Try.func35, Try.ntmps35
  go_wp2
  go_loop [3] (fun i => ∃ k : Nat, 1 ≤ k ∧ k ≤ 9 ∧ i = .int .i64 (k : Int) ∧ Hid (∀ s, 1 ≤ s → s < k → a.length ≠ 24 + 16 * s)) (fun i => 9 - (intOf i).toNat)
  case atStart => exact ⟨1, by omega, by omega, rfl, (show ∀ s, 1 ≤ s → s < 1 → a.length ≠ 24 + 16 * s by intro s h1 h2; omega)⟩
  case round =>
    obtain ⟨k, hk1, hk9, rfl, hn⟩ := hrel
    by_cases h8 : k ≤ 8
    · by_cases he : a.length = 24 + 16 * k
      · have he' : (24 : Int) + 16 * (k : Int) = (a.length : Int) := by omega
        have HE : Hid (a.length = 24 + 16 * k) := he
        clear he
        go_wp2_with fail
        refine (refBytes_any k _ hk1 h8).mono ?_
        rintro e w' ⟨rfl, rfl⟩
        go_wp2
        go_ret
        exact ⟨by rw [slots_eq a k hk1 h8 HE.out]; rfl, rfl⟩
      · have he' : ¬ (24 : Int) + 16 * (k : Int) = (a.length : Int) := by omega
        have HE : Hid (¬ a.length = 24 + 16 * k) := he
        clear he
        go_wp2_with fail
        refine (refBytes_any k _ hk1 h8).mono ?_
        rintro e w' ⟨rfl, rfl⟩
        go_wp2
        go_round
        case rel => exact ⟨k + 1, by omega, by omega, by go_num, (show ∀ s, 1 ≤ s → s < k + 1 → a.length ≠ 24 + 16 * s by intro s h1 h2; rcases Nat.lt_or_ge s k with c | c; exact hn.out s h1 c; rw [show s = k by omega]; exact HE.out)⟩
        case measure => simp [intOf]; omega
    · go_wp2
      go_ret
      exact ⟨by rw [slots_none a fun s h1 h2 => hn.out s h1 (by omega)]; rfl, rfl⟩
theorem refPlace_any (u : Value) (a : List UInt8) (i : Int) (w : World) (hu : Bs w u a) :
    Calls Try.prog 48 #[u, .int .i64 i] w fun e w' => e = .returned (.int .i64 (placeE a i)) ∧ w' = w := by
  obtain ⟨z, hz⟩ : ∃ z, z = placeE a i := ⟨_, rfl⟩
  have h8 := slots_le a
  obtain ⟨n, hn⟩ : ∃ n, n = slotsOf a := ⟨_, rfl⟩
  have hs := refSlots_any u a w hu
  rw [← hz]
  unfold placeE at hz
  rw [← hn] at hs h8 hz
  have HZ : Hid (z = if n = 0 then 40 else if i < 0 ∨ (n : Int) ≤ i then 41 else 0) := hz
  clear hz hn
  go_enter Try.func48, Try.ntmps48
  go_wp2_with fail
  refine hs.mono ?_
  rintro e w' ⟨rfl, rfl⟩
  by_cases h0 : n = 0
  · subst h0
    go_wp2
    go_ret
    exact ⟨by rw [HZ.out]; rfl, rfl⟩
  · have h0' : ¬ (n : Int) = 0 := by omega
    by_cases h1 : i < 0
    · go_wp2
      go_ret
      exact ⟨by rw [HZ.out, if_neg h0, if_pos (by omega)]; rfl, rfl⟩
    · go_wp2_with fail
      refine hs.mono ?_
      rintro e w' ⟨rfl, rfl⟩
      by_cases h2 : (n : Int) ≤ i
      · go_wp2
        go_ret
        exact ⟨by rw [HZ.out, if_neg h0, if_pos (by omega)]; rfl, rfl⟩
      · go_wp2
        go_ret
        exact ⟨by rw [HZ.out, if_neg h0, if_neg (by omega)]; rfl, rfl⟩
theorem over_step (a r : List UInt8) (at' k : Nat) (h : at' + r.length ≤ a.length) (hk : k < r.length) : (over a at' (r.take k)).set (at' + k) r[k] = over a at' (r.take (k + 1)) := by
  have h1 : (r.take k).length = k := by simp; omega
  have h2 : (r.take (k + 1)).length = k + 1 := by simp; omega
  apply List.ext_getElem?
  intro i
  rw [List.getElem?_set, over_at _ _ _ (by rw [h1]; omega), over_at _ _ _ (by rw [h2]; omega), over_length _ _ _ (by rw [h1]; omega), h1, h2]
  by_cases e : at' + k = i
  · subst e
    rw [if_pos rfl, if_pos (by omega), if_pos (by omega), List.getElem?_take, if_pos (by omega), show at' + k - at' = k by omega, List.getElem?_eq_getElem hk]
  · rw [if_neg e]
    by_cases c : at' ≤ i ∧ i < at' + k
    · rw [if_pos c, if_pos (by omega), List.getElem?_take, List.getElem?_take, if_pos (by omega), if_pos (by omega)]
    · rw [if_neg c, if_neg (by omega)]
set_option maxHeartbeats 1600000 in
theorem refLaid_any (u v : Value) (a r : List UInt8) (f : Nat) (w : World) (hu : Bs w u a) (hv : Bs w v r) (h : f + r.length ≤ a.length) (hl : a.length ≤ 140737488355000) :
    Calls Try.prog 51 #[u, .int .i64 (f : Int), v] w fun e w' => ∃ v', e = .returned v' ∧ w'.ownsRow w.heap.size 5 1 v' a.length (u8s (over a f r)) ∧ Kept [] w w' := by
  obtain ⟨p, c, rfl, h1, h2, -⟩ := id hu
  obtain ⟨q, d, rfl, h3, h4, -⟩ := id hv
  have hr : r.length ≤ 9223372036854775807 := by omega
  go_enter Try.func51, Try.ntmps51
  go_wp2_with (at_builtin; refine wpList_append_bs rfl (.tmp 9) (.tmp 10) 33 rfl w.heap.size 5 Try.underlying33 (by kernel_rfl) _ _ _ (by rfl) (World.ownsRow_nil w _ _ _) _ a (by rfl) hu (by omega) (Nat.le_refl _) ?_; intro v2 w2 hown2 hg2 hat2)
  have hk2 : Kept [] w w2 := (Kept.refl [] w).grown hg2 (by intro j hj; simp [Value.ownBlock] at hj)
  simp only [List.nil_append, Nat.zero_add] at hown2
  obtain ⟨p3, c3, rfl⟩ := own_shape2 hown2
  go_loopw [8] (fun i wr => ∃ k : Nat, k ≤ r.length ∧ i = .int .i64 k ∧ wr.ownsRow w.heap.size 5 1 (.slice p3 a.length c3) a.length (u8s (over a f (r.take k))) ∧ Kept [] w wr) (fun i _ => r.length - (intOf i).toNat)
  case atStart => exact ⟨0, Nat.zero_le _, rfl, by simpa [over_nil] using hown2, hk2⟩
  case round =>
    clear hown2
    obtain ⟨k, hk, rfl, hown, hkept⟩ := hrel
    by_cases hlt : k < r.length
    · obtain ⟨b, o, c', e', -, -, -, hcell⟩ := hv.pos (by omega)
      simp only [Value.slice.injEq] at e'
      obtain ⟨rfl, -, rfl⟩ := e'
      have hc := hkept.cell (hcell k r[k] (List.getElem?_eq_getElem (by omega))) (by simp)
      obtain ⟨g, rfl⟩ : ∃ g, p3 = some ⟨g, 0, none⟩ := by
        rcases hown.2 with ⟨e, hz⟩ | ⟨g', cap, cur, e, -⟩
        · omega
        · cases e
          exact ⟨g', rfl⟩
      have hpl : f + k < (over a f (r.take k)).length := by rw [over_length _ _ _ (by simp; omega)]; omega
      have hcc := hown.cellAt (f + k) (by omega)
      rw [show (u8s (over a f (r.take k)))[f + k]? = some (.int .u8 (((over a f (r.take k))[f + k]).toNat : Int)) from by simp [u8s, List.getElem?_eq_getElem hpl]] at hcc
      have hf := hown.frozenAt (f + k)
      obtain ⟨ow2, kw2⟩ := set_own hown (f + k) r[k] _ rfl
      rw [over_step a r f k h hlt] at ow2
      have hge := own_ge hown g rfl
      have kw3 := hkept.trans kw2 (by intro x hx; simp at hx; subst hx; exact .inr hge)
      have ew : IntKind.i64.wrap ((f : Int) + (k : Int)) = ((f + k : Nat) : Int) := by rw [IntKind.wrap_i64]; omega
      have c6 : ((f + k : Nat) : Int) < (a.length : Int) := by omega
      clear hcell kw2 hown
      go_wp2
      go_roundw
      case rel => exact ⟨k + 1, by omega, by go_num, ow2, kw3⟩
      case measure => simp [intOf]; omega
    · obtain rfl : k = r.length := by omega
      rw [List.take_length] at hown
      go_wp2
      go_ret
      exact ⟨_, rfl, hown, hkept⟩
end Go.Proofs.Ytoildbbfnhjfoaa
