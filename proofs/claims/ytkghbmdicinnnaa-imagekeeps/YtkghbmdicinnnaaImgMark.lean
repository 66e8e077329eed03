/-
  OWN WORK. tidemarklaw03.grown, full.
-/
import Derived.Test.YtkghbmdicinnnaaRows
import Derived.Test.YtkghbmdicinnnaaMark2
namespace Go.Proofs.Ytkghbmdicinnnaa
open Go.RowKit
set_option linter.unusedVariables false

theorem byte_cell2 (w : World) (e : TypeId) (y : UInt8) : (w.alloc (.cells #[.int .u8 (y.toNat : Int)] e)).cell? ⟨w.heap.size, 0, none⟩ = some (.int .u8 (y.toNat : Int)) := byte_cell w e _ y rfl
set_option maxHeartbeats 1600000 in
theorem grown_any (v : Value) (n k base : Nat) (w : World) (ow : w.ownsRow base 5 1 v n (u8s (rep n k))) (hb : base ≤ w.heap.size) (hn : n ≤ 140737488355000) :
    Calls Try.prog 20 #[v, .int .u8 ((mk k).toNat : Int)] w fun e w' => ∃ v', e = .returned v' ∧ w'.ownsRow base 5 1 v' (n + 80) (u8s (rep (n + 80) k)) ∧ Bs w' v (rep n k) ∧ (v'.ownBlock = v.ownBlock ∨ ∃ y, v'.ownBlock = some y ∧ w.heap.size ≤ y) ∧ Kept v.ownBlock.toList w w' := by
  have bv := Bs.ofOwn ow
  obtain ⟨p, d, rfl⟩ := own_shape2 ow
  have hsh : ∃ p' d', Value.slice p n d = .slice p' n d' ∧ (p' = none ∧ n = 0 ∨ ∃ g, p' = some ⟨g, 0, none⟩ ∧ n ≤ d' ∧ d' ≤ maxLen) := by
    rcases ow.2 with ⟨h1, h2⟩ | ⟨g, cap', cur, h1, _, _, h3, h4, _⟩
    · exact ⟨_, _, rfl, .inl ⟨by simp at h1; exact h1.1, h2⟩⟩
    · exact ⟨_, _, rfl, .inr ⟨g, by simp at h1; exact h1.1, by simp at h1; omega, by simp at h1; omega⟩⟩
  have HSH : Hid (∃ p' d', Value.slice p n d = .slice p' n d' ∧ (p' = none ∧ n = 0 ∨ ∃ g, p' = some ⟨g, 0, none⟩ ∧ n ≤ d' ∧ d' ≤ maxLen)) := hsh
  have HVS : Hid (∀ x, (Value.slice p n d).ownBlock = some x → x < w.heap.size) := fun x hx => own_lt ow x hx
  have HN : Hid (n ≤ 140737488355000) := hn
  clear hsh hn
  go_enter Try.func20, Try.ntmps20
  go_wp2
  go_loopw [0, 5] (fun l i wr => ∃ i' : Nat, i' ≤ 80 ∧ i = .int .i64 i' ∧ wr.ownsRow base 5 1 l (n + i') (u8s (rep (n + i') k)) ∧ Bs wr (.slice p n d) (rep n k) ∧ (l.ownBlock = (Value.slice p n d).ownBlock ∨ ∃ y, l.ownBlock = some y ∧ w.heap.size ≤ y) ∧ Kept (Value.slice p n d).ownBlock.toList w wr) (fun _ i _ => 80 - (intOf i).toNat)
  case atStart => exact ⟨0, by decide, rfl, ow, bv, .inl rfl, Kept.refl _ _⟩
  case round =>
    clear ow bv
    obtain ⟨i, hi, rfl, ol, bl, lv, kl⟩ := hrel
    have hsz3 := kl.size
    by_cases hi80 : i < 80
    · go_wp2_with (at_builtin; refine wpList_append_byte rfl (.tmp 10) (.tmp 12) 22 rfl base 5 Try.underlying22 (by kernel_rfl) _ _ _ (by rfl) (ol.alloc _) ⟨wr.heap.size, 0, none⟩ 1 (mk k) (by rfl) (byte_cell2 wr 5 _) (by have := HN.out; omega) (by simp; omega) ?_; intro l2 w4 o4 g4 at4)
      obtain ⟨m1, m2, m3⟩ := mark_step (wr := wr) HSH.out (bl.kept ((Kept.refl [] wr).alloc _)) (Nat.le_add_right n i) (by simp; omega) lv (fun x hx => HVS.out x hx) o4 g4 at4
      have k4 : Kept (Value.slice p n d).ownBlock.toList w w4 := (kl.alloc _).grown g4 (fun x hx => by
        rcases lv with e | ⟨y, hy, hly⟩
        · left; rw [e] at hx; simp [hx]
        · right; rw [hy] at hx; simp at hx; omega)
      clear o4 g4 at4
      go_roundw
      case rel => exact ⟨i + 1, by omega, by go_num, m1, m2, m3, k4⟩
      case measure => simp [intOf]; omega
    · have ei : i = 80 := by omega
      subst ei
      go_wp2
      go_ret
      exact ⟨_, rfl, ol, bl, lv, kl⟩

set_option maxHeartbeats 1600000 in
theorem full_any (v : Value) (n k : Nat) (w : World) (bv : Bs w v (rep n k)) (hn : n ≤ 9223372036854775807) :
    Calls Try.prog 21 #[v, .int .u8 ((mk k).toNat : Int)] w fun e w' => e = .returned (.bool true) ∧ w' = w := by
  obtain ⟨p, d, rfl, -⟩ := id bv
  rw [rep_length] at *
  have HC : Hid (∀ i, i < n → ∃ b o, p = some ⟨b, o, none⟩ ∧ w.cell? ⟨b, o + i, none⟩ = some (.int .u8 ((mk k).toNat : Int))) := fun i hi => by
    obtain ⟨b, o, c, e, -, -, -, h⟩ := bv.pos (by rw [rep_length]; omega)
    have hx := h i (mk k) (rep_get hi)
    simp at e
    exact ⟨b, o, e.1, hx⟩
  clear bv
  go_enter Try.func21, Try.ntmps21
  go_wp2
  go_loop [5] (fun i => ∃ i' : Nat, i' ≤ n ∧ i = .int .i64 i') (fun i => n - (intOf i).toNat)
  case atStart => exact ⟨0, Nat.zero_le _, rfl⟩
  case round =>
    obtain ⟨i, hi, rfl⟩ := hrel
    by_cases hin : i < n
    · obtain ⟨b, o, rfl, hc⟩ := HC.out i hin
      go_wp2
      go_round
      case rel => exact ⟨i + 1, by omega, by go_num⟩
      case measure => simp [intOf]; omega
    · go_wp2
      go_ret
      exact ⟨rfl, rfl⟩
end Go.Proofs.Ytkghbmdicinnnaa
